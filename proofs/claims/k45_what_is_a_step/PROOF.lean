import PyProof.Rows.All
import Wide.All
import OpenK.AllK
import Wide.FinOn
import Lean
import PyProof.EqAt
import PyProof.EqKinds
import PyProof.TupleCall
import KE.KLam
import KE.KSortTup
import PyProof.Rows.SortRuns
import PyProof.Rows.SumAny
import PyProof.Rows.SeqJoint
import PySem.Challenge.RW_conekin_k45_what_is_a_step
set_option Elab.async false
set_option linter.all false
set_option maxRecDepth 100000
set_option genSizeOf false
noncomputable section
namespace L2
open PySem PySem.Spec PyProof.Rows
abbrev Key:=Sum Int Str
def NF:Key->Value->Bool
 | .inl k,v=>Value.isInt k v
 | .inr x,v=>Value.isStrOf x v
def TJ(w:World):Key->Int
 | .inl k=>hashInt k
 | .inr x=>hashStr w x
theorem d8:∀{k:Key} {v:Value},NF k v=true->(∃i t,k=Sum.inl i/\v=Value.int i t)∨(∃x t,k=Sum.inr x/\v=Value.str x t)
 | .inl i,v,h=>by
  obtain⟨t,e⟩:=Value.isInt_shape (k:=i) (v:=v) h
  exact .inl ⟨i,t,rfl,e⟩
 | .inr x,v,h=>by
  obtain⟨t,e⟩:=Value.isStrOf_shape (x:=x) (v:=v) h
  exact .inr ⟨x,t,rfl,e⟩
theorem Oo(a b:Int):decide ((Sum.inl a:Key)=Sum.inl b)=(a==b):=by
 by_cases e:a=b
 ·subst e;simp
 ·have h:¬(Sum.inl a:Key)=Sum.inl b:=λq=>e (Sum.inl.inj q)
  rw[decide_eq_false h]
  exact(beq_eq_false_iff_ne.mpr e).symm
theorem Oq(a b:Str):decide ((Sum.inr a:Key)=Sum.inr b)=decide (a=b):=by
 by_cases e:a=b
 ·subst e;simp
 ·have h:¬(Sum.inr a:Key)=Sum.inr b:=λq=>e (Sum.inr.inj q)
  rw[decide_eq_false h,decide_eq_false e]
theorem Ot(a:Int)(b:Str):decide ((Sum.inl a:Key)=Sum.inr b)=false:=decide_eq_false (λq=>nomatch q)
theorem Ou(a:Str)(b:Int):decide ((Sum.inr a:Key)=Sum.inl b)=false:=decide_eq_false (λq=>nomatch q)
def yj(prog:Program)(w:World):PySem.KeyKind prog w Key where
 is:=NF
 hash:=TJ w
 inj:=λv a b ha hb=>by
  rcases d8 ha with⟨i,t,rfl,rfl⟩|⟨x,t,rfl,rfl⟩
  ·rcases d8 hb with⟨j,u,rfl,e⟩|⟨y,u,rfl,e⟩
   ·injection e with e1 _;rw[e1]
   ·exact nomatch e
  ·rcases d8 hb with⟨j,u,rfl,e⟩|⟨y,u,rfl,e⟩
   ·exact nomatch e
   ·injection e with e1 _;rw[e1]
 byValue:=λk v h=>by
  rcases d8 h with⟨i,t,rfl,rfl⟩|⟨x,t,rfl,rfl⟩<;>rfl
 pyHash:=λhv h=>by
  rcases d8 hv with⟨i,t,rfl,rfl⟩|⟨x,t,rfl,rfl⟩
  ·exact wpAny_pyHash_int h
  ·exact wpAny_pyHash_str h
 eqBool:=λhu hv h=>by
  rcases d8 hu with⟨i,t,rfl,rfl⟩|⟨x,t,rfl,rfl⟩
  ·rcases d8 hv with⟨j,u,rfl,rfl⟩|⟨y,u,rfl,rfl⟩
   ·rw[Oo]at h;exact wpAny_eqBool_int h
   ·rw[Ot]at h;exact SeqAt.EqAt.int_str i t y u _ _ _ _ h
  ·rcases d8 hv with⟨j,u,rfl,rfl⟩|⟨y,u,rfl,rfl⟩
   ·rw[Ou]at h;exact SeqAt.EqAt.str_int x t j u _ _ _ _ h
   ·rw[Oq]at h;exact wpAny_eqBool_str h
 «strs» :=λk x t v h=>by
  rcases d8 h with⟨i,u,rfl,e⟩|⟨y,u,rfl,e⟩
  ·exact nomatch e
  ·injection e with e1 _
   subst e1
   cases v<;>rfl
inductive V where
 |gP|bl (b:Bool)|int (i:Int)|str (x:Str)|EB (b:Array UInt8)|EC (b:UInt64)|ref (a:Addr)|ty (n:String)
 deriving DecidableEq
def RelV:V->Value->Prop
 | .gP,u=>u=Value.none
 | .bl b,u=>u=Value.bool b
 | .int i,u=> ∃t,u=Value.int i t
 | .str x,u=> ∃t,u=Value.str x t
 | .EB b,u=> ∃t,u=Value.bytes b t
 | .EC b,u=> ∃t,u=Value.float b t
 | .ref a,u=>u=Value.ref a
 | .ty n,u=>u=Value.type n
abbrev Vals:List V->List Value->Prop:=Paired RelV
theorem Vals.length{xs:List V}{us:List Value}(r:Vals xs us):xs.length=us.length:=Paired.length r
theorem Vals.get:∀{xs:List V} {us:List Value} {i:Nat} {x:V},Vals xs us->xs[i]?=some x-> ∃u,us[i]?=some u/\RelV x u
 |_,_,_,_,.nil,e=>by simp at e
 |_,_,0,_,.cons r _,e=>by simp at e;subst e;exact⟨_,rfl,r⟩
 |_,_,i+1,x,.cons _ t,e=>by
  obtain⟨u,h1,h2⟩:=Vals.get (i:=i) (x:=x) t (by simpa using e)
  exact⟨u,by simpa using h1,h2⟩
theorem Vals.set{x:V}{u:Value}(r:RelV x u):∀{xs:List V} {us:List Value} (i:Nat),Vals xs us->Vals (xs.set i x) (us.set i u)
 |_,_,_,.nil=> .nil
 |_,_,0,.cons _ t=> .cons r t
 |_,_,i+1,.cons q t=> .cons q (Vals.set r i t)
theorem Vals.append:∀{xs ys:List V} {us ws:List Value},Vals xs us->Vals ys ws->Vals (xs++ys) (us++ws)
 |_,_,_,_,.nil,s=>s
 |_,_,_,_,.cons r t,s=> .cons r (Vals.append t s)
theorem Vals.take:∀{xs:List V} {us:List Value} (n:Nat),Vals xs us->Vals (xs.take n) (us.take n)
 |_,_,0,_=> .nil
 |_,_,_+1,.nil=> .nil
 |_,_,n+1,.cons r t=> .cons r (Vals.take n t)
def Ov:Option V->Option Value->Prop
 |some v,some u=>RelV v u
 |none,none=>True
 |_,_=>False
def KV{κ:Type}:List (κ×V) ->List (κ×Value) ->Prop:=Paired λ (p:κ×V) (q:κ×Value)=>p.1=q.1/\RelV p.2 q.2
def kV:Key->V
 | .inl i=> .int i
 | .inr x=> .str x
inductive HO where
 |lst (xs:List V)
 |tup (xs:List V)
 |dK (kvs:List (Key×V))|dT (kvs:List (List Key×V))
 |set (S:Int->Bool) (n:Nat)
 |ins (C dx:Addr) (fs:List (Str×V))
 |own (x:Addr)
 |xd (fs:List (Str×V))
 |met (f x:Addr)
 |TN (lo hi:Int)
 |yk (o:Obj) (u:HO)
 |Ow (ps:Array Value)
 |ext (φ:Heap->Prop)
 |BE
abbrev Hp:=Addr->Option HO
def upd(H:Hp)(a:Addr)(o:HO):Hp:=λb=>if b=a then some o else H b
theorem au{H:Hp}{a:Addr}{o:HO}:upd H a o a=some o:=by unfold upd;rw[if_pos rfl]
theorem aE{H:Hp}{a b:Addr}{o:HO}(h:b≠a):upd H a o b=H b:=by unfold upd;rw[if_neg h]
theorem dX{H:Hp}{a b:Addr}{o:HO}(h:H a=some o)(h':H b=none):a≠b:=by
 intro e;subst e;rw[h]at h';cases h'
section
variable(P:Program)(w:World)
def fO(H:Hp)(h:Heap)(a:Addr):HO->Prop
 | .lst xs=>xs.length<=sizeLine/\ ∃(its:List Value) (n:Nat),Vals xs its/\h.get? a=some {cls:= .type "list",data:= .seq its.toArray n}
 | .tup xs=>xs.length<=sizeLine/\ ∃its:List Value,Vals xs its/\IsTup h a its.toArray
 | .dK kvs=>kvs.length<=sizeLine/\(a==sysModules)=false/\ ∃vs,KV kvs vs/\h.DictOf (yj P w) a vs
 | .dT kvs=>kvs.length<=sizeLine/\(a==sysModules)=false/\ ∃xs:List (List Key×Addr×Value),
   Paired (λ (p:List Key×V) (q:List Key×Addr×Value)=>p.1=q.1/\H q.2.1=some (.tup (p.1.map kV))/\RelV p.2 q.2.2) kvs xs/\
   ∃o es ep,h.get? a=some o/\o.ExactDict/\o.data= .dict es ep/\es.toList=xs.map (entryOfKey (tupleKind (yj P w)))/\(xs.map (·.1)).Nodup
 | .set S n=>h.SetOf (intKind P w) a S n
 | .ins C dx fs=>H dx=some (.own a)/\fs.length<=1000/\dx≠a/\h.get? a=some (PySem.W.instObj C dx)/\
   ∃mA,h.Ns1 dx mA/\(∀f,Ov (fs.lookup f) (mA f))/\PySem.Within mA (fs.map (·.1))
 | .own _=> ∃o,h.get? a=some o
 | .xd fs=> ∃mA,h.Ns1 a mA/\ ∀f,Ov (fs.lookup f) (mA f)
 | .TN lo hi=> ∃t u v,h.get? a=some {cls:= .type "range",data:= .fields #[.int lo t,.int hi u,.int 1 v]}
 | .yk o u=>h.get? a=some o/\fO H h a u
 | .Ow ps=>h.get? a=some {cls:= .none,data:= .fields ps}
 | .met f x=>h.get? a=some (PySem.W.methodObj (.ref f) (.ref x))
 | .ext φ=>φ h/\(∃o,h.get? a=some o)/\ ∀h1 h2:Heap,φ h1->(∀o,h1.get? a=some o->h2.get? a=some o) ->φ h2
 | .BE=> ∃ps:Array Value,h.get? a=some {cls:= .none,data:= .fields ps}/\TriplesOk ps.toList/\ ∀(pos:Pos) (cv:Value),codeAmong pos ps.toList=some cv->
   ∃(c:Addr) (oc:Obj) (vs:Array Value) (q:Str) (t:Tok),cv= .ref c/\H c=some (.yk oc (.ext λ_=>True))/\oc.data= .fields vs/\vs[1]?=some (.str q t)
def ue(H:Hp)(h:Heap):Prop:=∀a o,H a=some o->fO P w H h a o
end
section
variable{P:Program}{w:World}{H H':Hp}{h h':Heap}{a:Addr}{o:HO}
theorem fO.lt(x:fO P w H h a o):a<h.objs.size:=by
 cases o with
 |lst xs=>obtain⟨_,_,_,_,e⟩:=x;exact Heap.lt_size e
 |tup xs=>obtain⟨_,_,_,p⟩:=x;exact p.lt
 |dK kvs=>obtain⟨_,_,_,_,o,_,_,e,_⟩:=x;exact Heap.lt_size e
 |dT kvs=>obtain⟨_,_,_,_,o,_,_,e,_⟩:=x;exact Heap.lt_size e
 |set S n=>obtain⟨o,_,_,_,e,_⟩:=x;exact Heap.lt_size e
 |ins C dx fs=>obtain⟨_,_,_,e,_⟩:=x;exact Heap.lt_size e
 |own y=>obtain⟨_,e⟩:=x;exact Heap.lt_size e
 |xd fs=>obtain⟨_,⟨_,_,_,e,_⟩,_⟩:=x;exact Heap.lt_size e
 |TN lo hi=>obtain⟨_,_,_,e⟩:=x;exact Heap.lt_size e
 |yk ob u=>obtain⟨e,_⟩:=x;exact Heap.lt_size e
 |Ow ps=>exact Heap.lt_size (show h.get? a=some _ from x)
 |met f y=>exact Heap.lt_size (show h.get? a=some _ from x)
 |ext φ=>obtain⟨_,⟨_,e⟩,_⟩:=x;exact Heap.lt_size e
 |BE=>obtain⟨_,e,_⟩:=x;exact Heap.lt_size e
theorem Paired.QA{α β:Type}{F G:α->β->Prop}:∀{l₁:List α} {l₂:List β},Paired F l₁ l₂->(∀a b,F a b->G a b) ->Paired G l₁ l₂
 |_,_,.nil,_=> .nil
 |_,_,.cons r t,f=> .cons (f _ _ r) (Paired.QA t f)
theorem fO.stay(x:fO P w H h a o)(k:∀b u,(b=a∨H b=some (.own a)) ->h.get? b=some u->h'.get? b=some u)
  (ho:∀b,H b=some (.own a) ->H' b=some (.own a))(ht:∀b xs,H b=some (.tup xs) ->H' b=some (.tup xs))(hz:∀b ob u,H b=some (.yk ob u) ->H' b=some (.yk ob u):=by first|exact λ_ _ _ q=>q|assumption):fO P w H' h' a o:=by
 induction o with
 |lst xs=>obtain⟨z,its,n,r,e⟩:=x;exact⟨z,its,n,r,k _ _ (.inl rfl) e⟩
 |tup xs=>obtain⟨z,its,r,ob,e,c⟩:=x;exact⟨z,its,r,ob,k _ _ (.inl rfl) e,c⟩
 |dK kvs=>obtain⟨z,y,vs,r,ob,es,ep,e,c⟩:=x;exact⟨z,y,vs,r,ob,es,ep,k _ _ (.inl rfl) e,c⟩
 |dT kvs=>
  obtain⟨z,y,xs,r,ob,es,ep,e,c⟩:=x
  exact⟨z,y,xs,Paired.QA r λp q z=>⟨z.1,ht _ _ z.2.1,z.2.2⟩,ob,es,ep,k _ _ (.inl rfl) e,c⟩
 |set S n=>obtain⟨ob,es,ep,t,e,c⟩:=x;exact⟨ob,es,ep,t,k _ _ (.inl rfl) e,c⟩
 |ins C dx fs=>
  obtain⟨d,z,ne,e,mA,⟨od,es,ep,e2,c⟩,r⟩:=x
  exact⟨ho _ d,z,ne,k _ _ (.inl rfl) e,mA,⟨od,es,ep,k _ _ (.inr d) e2,c⟩,r⟩
 |own y=>obtain⟨ob,e⟩:=x;exact⟨ob,k _ _ (.inl rfl) e⟩
 |xd fs=>obtain⟨mA,⟨od,es,ep,e,c⟩,r⟩:=x;exact⟨mA,⟨od,es,ep,k _ _ (.inl rfl) e,c⟩,r⟩
 |TN lo hi=>obtain⟨t,u,v,e⟩:=x;exact⟨t,u,v,k _ _ (.inl rfl) e⟩
 |yk ob u ih=>obtain⟨e,q⟩:=x;exact⟨k _ _ (.inl rfl) e,ih q⟩
 |Ow ps=>
  have e:h.get? a=some {cls:= .none,data:= .fields ps}:=x
  show h'.get? a=some {cls:= .none,data:= .fields ps}
  exact k a _ (.inl rfl) e
 |met f y=>
  have e:h.get? a=some (PySem.W.methodObj (.ref f) (.ref y)):=x
  show h'.get? a=some (PySem.W.methodObj (.ref f) (.ref y))
  exact k a _ (.inl rfl) e
 |ext φ=>obtain⟨p,⟨o,e⟩,st⟩:=x;exact⟨st _ _ p λo q=>k _ _ (.inl rfl) q,⟨o,k _ _ (.inl rfl) e⟩,st⟩
 |BE=>obtain⟨ps,e,t,r⟩:=x;exact⟨ps,k _ _ (.inl rfl) e,t,λpos cv q=>let⟨c,oc,vs,q2,t2,e1,e2,e3⟩:=r pos cv q;⟨c,oc,vs,q2,t2,e1,hz _ _ _ e2,e3⟩⟩
theorem ue.lt(x:ue P w H h)(e:H a=some o):a<h.objs.size:=(x a o e).lt
theorem ue.fresh(x:ue P w H h)(e:h.objs.size<=a):H a=none:=by
 cases q:H a with
 |none=>rfl
 |some u=>exact absurd (Nat.lt_of_lt_of_le (x.lt q) e) (Nat.lt_irrefl _)
theorem ue.kept(x:ue P w H h)(k:∀b u,h.get? b=some u->h'.get? b=some u):ue P w H h':=λa o e=>
 (x a o e).stay (λb u _ q=>k b u q) (λ_ q=>q) λ_ _ q=>q
theorem ue.laid(x:ue P w H h)(k:∀b u,h.get? b=some u->h'.get? b=some u)(hp:h.objs.size<=a)(new:fO P w (upd H a o) h' a o):ue P w (upd H a o) h':=λb u e=>by
 have hn:=x.fresh hp
 by_cases hb:b=a
 ·subst hb;rw[au]at e;cases e;exact new
 ·rw[aE hb]at e
  exact(x b u e).stay (λc v _ q=>k c v q) (λc q=>by rw[aE (dX q hn)];exact q) (λc xs q=>by rw[aE (dX q hn)];exact q) λc ob xs q=>by rw[aE (dX q hn)];exact q
end
def Rd(H:Hp)(a:Addr)(u:HO):Prop:=H a=some u∨ ∃o,H a=some (.yk o u)
theorem Rd.of{H:Hp}{a:Addr}{u:HO}(h:H a=some u):Rd H a u:= .inl h
theorem Rd.ok{P:Program}{w:World}{H:Hp}{h:Heap}{a:Addr}{u:HO}(r:Rd H a u)(x:ue P w H h):fO P w H h a u:=by
 rcases r with r|⟨o,r⟩
 ·exact x a u r
 ·obtain⟨_,q⟩:=x a _ r
  exact q
def Sl:Option HO->Prop
 |some (.lst _)=>True
 |some (.dK _)=>True
 |some (.dT _)=>True
 |some (.set _ _)=>True
 |some (.ins _ _ _)=>True
 |some (.ext _)=>True
 |some .BE=>True
 |_=>False
section
variable{P:Program}{w:World}{H:Hp}{h h':Heap}{x e:Addr}{o':HO}
theorem ue.write(ok:ue P w H h)(mu:Sl (H x))(he:e=x∨H e=some (.own x))(k:∀b u,b≠e->h.get? b=some u->h'.get? b=some u)(Qk:∃u,h'.get? e=some u)
  (new:fO P w (upd H x o') h' x o'):ue P w (upd H x o') h':=λb u q=>by
 have QB:∀c y,H c=some (.own y) ->c≠x:=λc y r z=>by subst z;rw[r]at mu;exact mu
 have TQ:∀c xs,H c=some (.tup xs) ->c≠x:=λc xs r z=>by subst z;rw[r]at mu;exact mu
 by_cases hb:b=x
 ·subst hb;rw[au]at q;cases q;exact new
 ·rw[aE hb]at q
  by_cases Ox:b=e
  ·have q':H b=some (.own x):=by
    rcases he with z|z
    ·exact absurd (Ox.trans z) hb
    ·rw[Ox];exact z
   rw[q]at q';cases q'
   obtain⟨v,hv⟩:=Qk
   exact⟨v,by rw[Ox];exact hv⟩
  ·refine(ok b u q).stay (λc v hc r=>k c v ?_ r) (λc r=>by rw[aE (QB c b r)];exact r) (λc xs r=>by rw[aE (TQ c xs r)];exact r) λc ob xs r=>by rw[aE (λz=>by subst z;rw[r]at mu;exact mu)];exact r
   rcases hc with rfl|hc
   ·exact Ox
   ·rintro rfl
    rcases he with z|z
    ·exact QB c b hc z
    ·rw[hc]at z;cases z;exact hb rfl
end
structure Un(fs ex:List Addr)(H H':Hp)(h h':Heap):Prop where
 keep:∀b o,h.get? b=some o->H b=none->b∉fs->b∉ex->h'.get? b=some o
 slot:∀b o,h.get? b=some o->H b=none->b∈fs->b∉ex-> ∃sl,h'.get? b=some {o with slots:=sl}
 free:∀b o,h.get? b=some o->H b=none->b∉ex->H' b=none
 there:∀b o,h.get? b=some o->b∉ex-> ∃o',h'.get? b=some o'
 tups:∀b xs,H b=some (.tup xs) ->H' b=some (.tup xs)
 tL:∀b o u,H b=some (.yk o u) ->H' b=some (.yk o u)
 uy:∀b ps,H b=some (.Ow ps) -> ∃more,H' b=some (.Ow (ps++more))
section
variable{fs fs' ex ex':List Addr}{H H1 H2:Hp}{h h1 h2 h':Heap}{a x e:Addr}{o:HO}
theorem Un.any(u:Un fs ex H H1 h h1){b:Addr}{ob:Obj}(q:h.get? b=some ob)(n:H b=none)(hx:b∉ex):∃sl,h1.get? b=some {ob with slots:=sl}:=by
 by_cases hb:b∈fs
 ·exact u.slot b ob q n hb hx
 ·exact⟨ob.slots,u.keep b ob q n hb hx⟩
theorem Un.trans(a:Un fs ex H H1 h h1)(b:Un fs ex H1 H2 h1 h2):Un fs ex H H2 h h2 where
 keep:=λc ob q n hc hx=>b.keep c ob (a.keep c ob q n hc hx) (a.free c ob q n hx) hc hx
 slot:=λc ob q n hc hx=>by
  obtain⟨sl,e1⟩:=a.slot c ob q n hc hx
  obtain⟨TR,e2⟩:=b.slot c _ e1 (a.free c ob q n hx) hc hx
  exact⟨TR,e2⟩
 free:=λc ob q n hx=>by
  obtain⟨o',e1⟩:=a.there c ob q hx
  exact b.free c o' e1 (a.free c ob q n hx) hx
 there:=λc ob q hx=>by
  obtain⟨o',e1⟩:=a.there c ob q hx
  exact b.there c o' e1 hx
 tups:=λc xs q=>b.tups c xs (a.tups c xs q)
 tL:=λc ob xs q=>b.tL c ob xs (a.tL c ob xs q)
 uy:=λc ps q=>by
  obtain⟨m1,e1⟩:=a.uy c ps q
  obtain⟨m2,e2⟩:=b.uy c _ e1
  exact⟨m1++m2,by rw[e2,Array.append_assoc]⟩
theorem Un.kept(k:∀b u,h.get? b=some u->h'.get? b=some u):Un fs ex H H h h':=
 ⟨λb ob q _ _ _=>k b ob q,λb ob q _ _ _=>⟨ob.slots,k b ob q⟩,λ_ _ _ n _=>n,λb ob q _=>⟨ob,k b ob q⟩,λ_ _ q=>q,λ_ _ _ q=>q,λ_ ps q=>⟨#[],by rw[q];simp⟩⟩
theorem Un.refl:Un fs ex H H h h:=Un.kept λ_ _ q=>q
theorem Un.laid(k:∀b u,h.get? b=some u->h'.get? b=some u)(hp:h.objs.size<=a)(hn:H a=none):Un fs ex H (upd H a o) h h' where
 keep:=λb u q _ _ _=>k b u q
 slot:=λb u q _ _ _=>⟨u.slots,k b u q⟩
 free:=λb u q n _=>by rw[aE (Nat.ne_of_lt (Nat.lt_of_lt_of_le (Heap.lt_size q) hp))];exact n
 there:=λb u q _=>⟨u,k b u q⟩
 tups:=λb xs q=>by rw[aE (dX q hn)];exact q
 tL:=λb u xs q=>by rw[aE (dX q hn)];exact q
 uy:=λb ps q=>⟨#[],by rw[aE (dX q hn),q];simp⟩
theorem Un.write(mu:Sl (H x))(he:e=x∨H e=some (.own x))(k:∀b u,b≠e->h.get? b=some u->h'.get? b=some u)(Qk:∃u,h'.get? e=some u):Un fs ex H (upd H x o) h h':=by
 have hx:∀b,H b=none->b≠x:=λb n z=>by subst z;rw[n]at mu;exact mu
 have hb:∀b,H b=none->b≠e:=λb n z=>by
  subst z
  rcases he with r|r
  ·exact hx b n r
  ·rw[n]at r;cases r
 have hm:∀b u,H b=some u-> ¬Sl (some u) ->b≠x:=λb u q nm z=>by subst z;rw[q]at mu;exact nm mu
 refine⟨λb u q n _ _=>k b u (hb b n) q,λb u q n _ _=>⟨u.slots,k b u (hb b n) q⟩,λb u q n _=>by rw[aE (hx b n)];exact n,λb u q _=> ?_,
  λb xs q=>by rw[aE (hm b _ q λz=>z)];exact q,λb u xs q=>by rw[aE (hm b _ q λz=>z)];exact q,λb ps q=>⟨#[],by rw[aE (hm b _ q λz=>z),q];simp⟩⟩
 by_cases Ox:b=e
 ·subst Ox;exact Qk
 ·exact⟨u,k b u Ox q⟩
end
def Sm(h:Heap)(H:Hp):List Addr:=(List.range h.objs.size).filter λa=>(H a).isSome
def wJ(h:Heap)(H:Hp):Heap:=PySem.W.hideAll h (Sm h H)
theorem ED(h:Heap)(H:Hp):(wJ h H).objs.size=h.objs.size:=PySem.W.hideAll_size _ _
theorem Hq{h:Heap}{H:Hp}{b:Addr}{o:Obj}(e:h.get? b=some o)(n:H b=none):(wJ h H).get? b=some o:=
 PySem.W.hideAll_get _ e λhm=>by
  have q:(H b).isSome=true:=(List.mem_filter.mp hm).2
  rw[n]at q;simp at q
theorem LB{h:Heap}{H:Hp}{b:Addr}{o:Obj}(e:(wJ h H).get? b=some o):h.get? b=some o/\H b=none:=by
 have e':h.get? b=some o:=PySem.W.of_hideAll (Sm h H) e
 refine⟨e',?_⟩
 cases q:H b with
 |none=>rfl
 |some x=>
  have hm:b∈Sm h H:=List.mem_filter.mpr ⟨List.mem_range.mpr (Heap.lt_size e'),by simp[q]⟩
  have z:(wJ h H).get? b=none:=PySem.W.hideAll_none (Sm h H) hm
  rw[z]at e;cases e
def LC(g h:Heap)(L:Addr):List (Addr×Obj):=(List.range h.objs.size).filterMap λa=>if a=L∨(g.get? a).isSome=true then none else(h.get? a).map λo=>(a,o)
def rest(g h:Heap)(L d:Addr):List (Addr×Obj):=(LC g h L).filter λp=>decide (p.1≠d)
structure Mod(K:PySem.W.Frag)(mg:Str->Option Value)(base:Heap):Prop where
 Ql:K.In base
 glob:base.Ns mainGlobals mg
 blt:∃mb,base.Ns builtinsNs mb/\ ∀x:Str,x≠ "__name__" ->mb x=bootBuiltins x
 nolimit:base.NoLimit
structure Cx where
 prog:Program
 w:World
 K:PySem.W.Frag
 mg:Str->Option Value
 base:Heap
 A:Around
 N:List Str
 s₀:Shared
 H₀:Hp
 env:Env
 outer:List Env
 stack:List Env
 ex:List Addr
 fn:Str->Bool
 calm:Bool
 pn:List (Addr×Obj)
 xe:Value->Shared->Prop
def frs(l:List Env):List Addr:=l.filterMap (·.frame)
abbrev Cx.fs (X:Cx):List Addr:=frs X.outer
def NG(sc:Scope)(x:Str):Prop:=sc.names.lookup x=some .local∨sc.names.lookup x=some .cell∨sc.names.lookup x=some .free
def Loc(sc:Scope)(x:Str):Prop:=sc.names.lookup x=some .local∨sc.names.lookup x=some .cell
def Look(env:Env)(h:Heap)(m:Str->Option Value)(x:Str)(u:Value):Prop:=
 (env.kindOf x=some .local/\m x=some u)∨((env.kindOf x=some .cell∨env.kindOf x=some .free)/\ ∃c,env.cells.lookup x=some c/\h.IsCell c (some u))
structure Cx.Ok(X:Cx):Prop where
 mod:Mod X.K X.mg X.base
 kind:X.env.scope.kind= .function
 glob:X.env.globals=mainGlobals
 blt:X.env.builtins=builtinsNs
 above:X.s₀.heap.objs.size<=X.env.locals
 inj:∀x y c,X.env.cells.lookup x=some c->X.env.cells.lookup y=some c->x=y
 has:∀x,(X.env.kindOf x=some .cell∨X.env.kindOf x=some .free) -> ∃c,X.env.cells.lookup x=some c
 QC:∀x c,X.fn x=true->X.env.cells.lookup x=some c->X.s₀.heap.objs.size<=c
 hd:X.calm=true->X.A.handled=none
 frames:X.A.frames=some X.stack
 stk:X.stack=X.outer∨(X.stack=X.env::X.outer/\X.env.frame=some X.env.locals)
 NH:∀b∈X.ex,b≠X.env.locals/\ ∀x c,X.env.cells.lookup x=some c->c≠b
 bs:∀b o,X.base.get? b=some o->X.s₀.heap.get? b=some o/\X.H₀ b=none
 LD:X.base.objs.size<=X.s₀.heap.objs.size
 EE:∀b o,X.base.get? b=some o->b∉X.ex
 BF:∀b∈X.ex,b∉X.fs
 tM:X.s₀.heap.FunFrames X.base X.outer
 Qm:∀b∈X.fs,X.H₀ b=none
structure Hr(a b:Array GenState):Prop where
 bare:AllBare b
 size:a.size<=b.size
 old:∀k,k<a.size->b[k]?=a[k]?
theorem Hr.refl{a:Array GenState}(h:AllBare a):Hr a a:=⟨h,Nat.le_refl _,λ_ _=>rfl⟩
theorem Hr.trans{a b c:Array GenState}(x:Hr a b)(y:Hr b c):Hr a c:=⟨y.bare,Nat.le_trans x.size y.size,λk h=>(y.old k (Nat.lt_of_lt_of_le h x.size)).trans (x.old k h)⟩
structure Inv(X:Cx)(pins:List (Addr×Obj))(σ:List (Option V))(H:Hp)(s:Shared):Prop where
 ok:X.Ok
 os:s.os=X.s₀.os
 bare:Hr X.s₀.gens s.gens
 base:Un X.fs X.ex X.H₀ H X.s₀.heap s.heap
 loc:∃m,s.heap.Ns X.env.locals m/\ ∀(i:Nat) (x:Str) (v:V),X.N[i]?=some x->σ[i]?=some (some v) ->NG X.env.scope x-> ∃u,RelV v u/\Look X.env s.heap m x u
 cell:∀x c,X.env.cells.lookup x=some c-> ∃v,s.heap.IsCell c v
 free:H X.env.locals=none
 nN:∀x c,X.env.cells.lookup x=some c->H c=none
 pin:∀p∈X.pn++pins,s.heap.get? p.1=some p.2/\H p.1=none/\p.1≠X.env.locals/\p.1∉X.fs/\ ∀v,p.2.data≠ .cell v
 hok:ue X.prog X.w H s.heap
 len:σ.length=X.N.length
section
variable{X:Cx}{pins:List (Addr×Obj)}{σ:List (Option V)}{H H':Hp}{s:Shared}{h':Heap}
theorem Cx.Ok.TV(ok:X.Ok){b:Addr}{o:Obj}(e:X.base.get? b=some o):b∉X.fs:=λhb=>by
 have:=(ok.tM.mem hb).1
 rw[e]at this;cases this
theorem Inv.bs(I:Inv X pins σ H s):∀b o,X.base.get? b=some o->s.heap.get? b=some o/\H b=none:=λb o e=>
 ⟨I.base.keep b o (I.ok.bs b o e).1 (I.ok.bs b o e).2 (I.ok.TV e) (I.ok.EE b o e),I.base.free b o (I.ok.bs b o e).1 (I.ok.bs b o e).2 (I.ok.EE b o e)⟩
theorem Inv.bk(I:Inv X pins σ H s):∀b o,X.base.get? b=some o->s.heap.get? b=some o:=λb o e=>(I.bs b o e).1
theorem Inv.mod(I:Inv X pins σ H s):Mod X.K X.mg X.base:=I.ok.mod
theorem Inv.yo(I:Inv X pins σ H s):X.K.In s.heap:=I.ok.mod.Ql.keeps I.bk
theorem Inv.nolimit(I:Inv X pins σ H s):s.heap.NoLimit:=I.ok.mod.nolimit.keeps I.bk
theorem Inv.lt(I:Inv X pins σ H s):X.env.locals<s.heap.objs.size:=let⟨_,hn,_⟩:=I.loc;hn.lt
theorem Inv.sz(I:Inv X pins σ H s):X.s₀.heap.objs.size<=s.heap.objs.size:=Nat.le_trans I.ok.above (Nat.le_of_lt I.lt)
theorem Inv.QD(I:Inv X pins σ H s){a:Addr}(h:s.heap.objs.size<=a):a∉X.fs:=λhb=>by
 obtain⟨_,o,ho,_⟩:=I.ok.tM.mem hb
 exact absurd (Nat.lt_of_lt_of_le (Heap.lt_size ho) (Nat.le_trans I.sz h)) (Nat.lt_irrefl _)
theorem Inv.Oz(I:Inv X pins σ H s):∀x c,X.env.cells.lookup x=some c->c≠X.env.locals:=λx c e z=>by
 obtain⟨v,o,ho,hd⟩:=I.cell x c e
 obtain⟨m,⟨o',es,ep,ho',hd',_⟩,_⟩:=I.loc
 rw[z,ho']at ho;cases ho;rw[hd']at hd;cases hd
theorem Inv.tM(I:Inv X pins σ H s):s.heap.FunFrames X.base X.outer:=by
 have all:∀(l:List Env),(∀b∈frs l,b∈X.fs) ->X.s₀.heap.FunFrames X.base l->s.heap.FunFrames X.base l:=by
  intro l
  induction l with
  |nil=>intro _ _;trivial
  |cons env r ih=>
   intro hs hl
   obtain⟨hk,⟨L,o,hf,hn,ho,hd⟩,hr⟩:=hl
   have hL:L∈X.fs:=hs L (by unfold frs;rw[List.filterMap_cons,hf];exact List.mem_cons_self)
   obtain⟨sl,e⟩:=I.base.slot L o ho (I.ok.Qm L hL) hL λz=>I.ok.BF L z hL
   exact⟨hk,⟨L,_,hf,hn,e,hd⟩,ih (λb hb=>hs b (by unfold frs;rw[List.filterMap_cons,hf];exact List.mem_cons_of_mem _ hb)) hr⟩
 exact all X.outer (λ_ hb=>hb) I.ok.tM
theorem Inv.stack(I:Inv X pins σ H s):s.heap.FunFrames X.base X.stack:=by
 rcases I.ok.stk with e|⟨e,hf⟩
 ·rw[e];exact I.tM
 ·rw[e]
  obtain⟨m,hn,_⟩:=I.loc
  refine .cons (by rw[I.ok.kind];decide) hf hn ?_ I.tM
  exact Heap.get?_none_of_le (Nat.le_trans I.ok.LD I.ok.above)
theorem Inv.uz(I:Inv X pins σ H s):∀b∈frs X.stack,b∈X.env.locals::X.fs:=λb hb=>by
 rcases I.ok.stk with e|⟨e,hf⟩
 ·rw[e]at hb;exact List.mem_cons_of_mem _ hb
 ·rw[e]at hb
  unfold frs at hb
  rw[List.filterMap_cons,hf]at hb
  exact hb
theorem Inv.uf(I:Inv X pins σ H s):∀b∈frs X.stack,H b=none:=λb hb=>by
 rcases List.mem_cons.mp (I.uz b hb)with e|hb
 ·rw[e];exact I.free
 ·obtain⟨_,o,ho,_⟩:=I.ok.tM.mem hb
  exact I.base.free b o ho (I.ok.Qm b hb) λz=>I.ok.BF b z hb
theorem Inv.step{g':Array GenState}{t':Nat}{d':Drawn}{ch:List Addr}(I:Inv X pins σ H s)
  (hch:∀b∈ch,(b∈X.ex∨X.s₀.heap.objs.size<=b)/\b≠X.env.locals/\(∀x c,X.env.cells.lookup x=some c->c≠b)/\ ∀p∈X.pn++pins,p.1≠b)
  (keep:∀b o,b≠X.env.locals->b∉X.fs->b∉ch->s.heap.get? b=some o->H b=none->h'.get? b=some o)
  (slot:∀b o,b≠X.env.locals->b∈X.fs->b∉ch->s.heap.get? b=some o->H b=none-> ∃sl,h'.get? b=some {o with slots:=sl})(free:∀b o,b∉ch->s.heap.get? b=some o->H b=none->H' b=none)
  (there:∀b o,b∉ch->s.heap.get? b=some o-> ∃o',h'.get? b=some o')
  (tups:∀b xs,H b=some (.tup xs) ->H' b=some (.tup xs))(tL:∀b o u,H b=some (.yk o u) ->H' b=some (.yk o u))(uy:∀b ps,H b=some (.Ow ps) -> ∃more,H' b=some (.Ow (ps++more)))
  (ns:∀m,s.heap.Ns X.env.locals m->h'.Ns X.env.locals m)(hok:ue X.prog X.w H' h')(hg:Hr s.gens g'):
  Inv X pins σ H' {s with heap:=h',gens:=g',drawn:=d',toks:=t'}:=by
 have VR:∀b o,X.s₀.heap.get? b=some o->b≠X.env.locals:=λb o e=>Nat.ne_of_lt (Nat.lt_of_lt_of_le (Heap.lt_size e) I.ok.above)
 have NI:∀b o,X.s₀.heap.get? b=some o->b∉X.ex->b∉ch:=λb o e hx hb=>by
  rcases(hch b hb).1 with z|z
  ·exact hx z
  ·exact absurd (Nat.lt_of_lt_of_le (Heap.lt_size e) z) (Nat.lt_irrefl _)
 have cellK:∀x c,X.env.cells.lookup x=some c-> ∀v,s.heap.IsCell c v->h'.IsCell c v:=λx c e v ⟨o,ho,hd⟩=>by
  have QE:c∉ch:=λz=>(hch c z).2.2.1 x c e rfl
  by_cases hc:c∈X.fs
  ·obtain⟨sl,q⟩:=slot c o (I.Oz x c e) hc QE ho (I.nN x c e)
   exact⟨_,q,hd⟩
  ·exact⟨o,keep c o (I.Oz x c e) hc QE ho (I.nN x c e),hd⟩
 refine⟨I.ok,I.os,I.bare.trans hg,⟨λb o e n hb hx=> ?_,λb o e n hb hx=> ?_,λb o e n hx=> ?_,λb o e hx=> ?_,λb xs e=>tups b xs (I.base.tups b xs e),λb o xs e=>tL b o xs (I.base.tL b o xs e),λb ps e=> ?_⟩,?_,λx c e=> ?_,?_,λx c e=> ?_,λp hp=> ?_,hok,I.len⟩
 ·exact keep b o (VR b o e) hb (NI b o e hx) (I.base.keep b o e n hb hx) (I.base.free b o e n hx)
 ·obtain⟨sl,e1⟩:=I.base.slot b o e n hb hx
  obtain⟨TR,e2⟩:=slot b _ (VR b o e) hb (NI b o e hx) e1 (I.base.free b o e n hx)
  exact⟨TR,e2⟩
 ·obtain⟨o',e1⟩:=I.base.there b o e hx
  exact free b o' (NI b o e hx) e1 (I.base.free b o e n hx)
 ·obtain⟨o',e1⟩:=I.base.there b o e hx
  exact there b o' (NI b o e hx) e1
 ·obtain⟨m1,e1⟩:=I.base.uy b ps e
  obtain⟨m2,e2⟩:=uy b _ e1
  exact⟨m1++m2,by rw[e2,Array.append_assoc]⟩
 ·obtain⟨m,hn,hl⟩:=I.loc
  refine⟨m,ns m hn,λi x v e1 e2 e3=> ?_⟩
  obtain⟨u,r,l⟩:=hl i x v e1 e2 e3
  refine⟨u,r,?_⟩
  rcases l with l|⟨k,c,e,z⟩
  ·exact .inl l
  ·exact .inr ⟨k,c,e,cellK x c e _ z⟩
 ·obtain⟨v,z⟩:=I.cell x c e
  exact⟨v,cellK x c e v z⟩
 ·obtain⟨m,⟨o,_,_,ho,_⟩,_⟩:=I.loc
  exact free _ o (λz=>(hch _ z).2.1 rfl) ho I.free
 ·obtain⟨v,o,ho,hd⟩:=I.cell x c e
  exact free c o (λz=>(hch c z).2.2.1 x c e rfl) ho (I.nN x c e)
 ·obtain⟨e,n,ne,nf,d⟩:=I.pin p hp
  have QE:p.1∉ch:=λz=>(hch p.1 z).2.2.2 p hp rfl
  exact⟨keep p.1 p.2 ne nf QE e n,free p.1 p.2 QE e n,ne,nf,d⟩
theorem Inv.un{t':Nat}(I:Inv X pins σ H s)(u:Un X.fs [] H H' s.heap h')(hok:ue X.prog X.w H' h'):Inv X pins σ H' {s with heap:=h',toks:=t'}:=by
 obtain⟨m,⟨o,es,ep,ho,r⟩,_⟩:=id I.loc
 obtain⟨sl,hL⟩:=u.any ho I.free (by simp)
 exact I.step (g':=s.gens) (d':=s.drawn) (ch:=[]) (λ_ z=>nomatch z) (λb o _ hb _ e n=>u.keep b o e n hb (by simp)) (λb o _ hb _ e n=>u.slot b o e n hb (by simp)) (λb o _ e n=>u.free b o e n (by simp)) (λb o _ e=>u.there b o e (by simp)) u.tups u.tL u.uy (λm' hm=>by
  obtain⟨o',es',TX,ho',r'⟩:=hm
  rw[ho]at ho';cases ho'
  exact⟨_,es',TX,hL,r'⟩) hok (.refl I.bare.bare)
theorem Inv.call{g':Array GenState}{t':Nat}{d':Drawn}{ch:List Addr}(I:Inv X pins σ H s)(u:Un (frs X.stack) ch H H' s.heap h')(hok:ue X.prog X.w H' h')(hg:Hr s.gens g')
  (hch:∀b∈ch,(b∈X.ex∨X.s₀.heap.objs.size<=b)/\b≠X.env.locals/\(∀x c,X.env.cells.lookup x=some c->c≠b)/\ ∀p∈X.pn++pins,p.1≠b):
  Inv X pins σ H' {s with heap:=h',gens:=g',drawn:=d',toks:=t'}:=by
 obtain⟨m,⟨o,es,ep,ho,r⟩,_⟩:=id I.loc
 obtain⟨sl,hL⟩:=u.any ho I.free λz=>(hch _ z).2.1 rfl
 exact I.step (ch:=ch) hch (λb o hL hb hc e n=>u.keep b o e n (λz=>(List.mem_cons.mp (I.uz b z)).elim hL hb) hc) (λb o _ _ hc e n=>u.any e n hc) (λb o hc e n=>u.free b o e n hc) (λb o hc e=>u.there b o e hc) u.tups u.tL u.uy (λm' hm=>by
  obtain⟨o',es',TX,ho',r'⟩:=hm
  rw[ho]at ho';cases ho'
  exact⟨_,es',TX,hL,r'⟩) hok hg
theorem Inv.turned{t':Nat}{it:Addr}(I:Inv X pins σ H s)(k:∀b o,b≠it->s.heap.get? b=some o->h'.get? b=some o)(hn:H it=none)(hL:it≠X.env.locals)
  (h1:it∈X.ex∨X.s₀.heap.objs.size<=it)(h2:∀x c,X.env.cells.lookup x=some c->c≠it)(h3:∀p∈X.pn++pins,p.1≠it):Inv X pins σ H {s with heap:=h',toks:=t'}:=by
 have QF:∀b u,H b=some u->b≠it:=λb u e z=>by rw[z,hn]at e;cases e
 refine I.step (g':=s.gens) (d':=s.drawn) (ch:=[it]) (λb hb=> ?_) (λb o _ _ hc e _=>k b o (λz=>hc (by simp[z])) e) (λb o _ _ hc e _=>⟨o.slots,k b o (λz=>hc (by simp[z])) e⟩) (λ_ _ _ _ n=>n)
  (λb o hc e=>⟨o,k b o (λz=>hc (by simp[z])) e⟩) (λ_ _ e=>e) (λ_ _ _ e=>e) (λb ps e=>⟨#[],by rw[e];simp⟩) (λm hm=> ?_) (λb u e=> ?_) (.refl I.bare.bare)
 ·have e:b=it:=by simpa using hb
  subst e
  exact⟨h1,hL,h2,h3⟩
 ·obtain⟨o,es,ep,ho,r⟩:=hm
  exact⟨o,es,ep,k _ o (Ne.symm hL) ho,r⟩
 ·refine(I.hok b u e).stay (λc v hc q=>k c v ?_ q) (λ_ q=>q) λ_ _ q=>q
  rcases hc with z|z
  ·rw[z];exact QF b u e
  ·exact QF c _ z
theorem Inv.tok(I:Inv X pins σ H s)(t:Nat):Inv X pins σ H {s with toks:=t}:=I.un (h':=s.heap) (t':=t) Un.refl I.hok
theorem Inv.kept{t':Nat}(I:Inv X pins σ H s)(k:∀b u,s.heap.get? b=some u->h'.get? b=some u):Inv X pins σ H {s with heap:=h',toks:=t'}:=I.un (Un.kept k) (I.hok.kept k)
theorem Inv.laid{a:Addr}{o:HO}{t':Nat}(I:Inv X pins σ H s)(k:∀b u,s.heap.get? b=some u->h'.get? b=some u)(hp:s.heap.objs.size<=a)(new:fO X.prog X.w (upd H a o) h' a o):
  Inv X pins σ (upd H a o) {s with heap:=h',toks:=t'}:=I.un (Un.laid k hp (I.hok.fresh hp)) (I.hok.laid k hp new)
theorem Inv.write{x e:Addr}{o:HO}{t':Nat}(I:Inv X pins σ H s)(mu:Sl (H x))(he:e=x∨H e=some (.own x))(k:∀b u,b≠e->s.heap.get? b=some u->h'.get? b=some u)(Qk:∃u,h'.get? e=some u)
  (new:fO X.prog X.w (upd H x o) h' x o):Inv X pins σ (upd H x o) {s with heap:=h',toks:=t'}:=I.un (Un.write mu he k Qk) (I.hok.write mu he k Qk new)
theorem Inv.jK{qw:List (Addr×Obj)}(I:Inv X pins σ H s)(h:∀p∈qw,s.heap.get? p.1=some p.2/\H p.1=none/\p.1≠X.env.locals/\p.1∉X.fs/\ ∀v,p.2.data≠ .cell v):Inv X qw σ H s:=
 ⟨I.ok,I.os,I.bare,I.base,I.loc,I.cell,I.free,I.nN,λp hp=>(List.mem_append.mp hp).elim (λz=>I.pin p (List.mem_append_left _ z)) (h p),I.hok,I.len⟩
theorem zX{N:List Str}(hN:N.Nodup){i j:Nat}{x:Str}(a:N[i]?=some x)(b:N[j]?=some x):i=j:=by
 obtain⟨h1,e1⟩:=List.getElem?_eq_some_iff.mp a
 obtain⟨h2,e2⟩:=List.getElem?_eq_some_iff.mp b
 exact(List.getElem_inj hN).mp (e1.trans e2.symm)
theorem rB{M:Model}{A:Around}{E:Value->Shared->Prop}{i:Nat}{x:Str}{v:V}{u:Value}{Q:Unit->Shared->Prop}(I:Inv X pins σ H s)(hN:X.N.Nodup)(hi:X.N[i]?=some x)(hx:Loc X.env.scope x)(r:RelV v u)
  (h:∀s',Inv X pins (σ.set i (some v)) H s'->(∃a,Heap.SameBut a s.heap s'.heap/\(a=X.env.locals∨X.env.cells.lookup x=some a)) ->Q () s')(hf:X.fn x=true∨X.env.scope.names.lookup x=some .local:=by first|exact .inl rfl|exact .inr rfl|assumption):wpAny M A (storeName X.env x u) Q E s:=by
 obtain⟨m,hn,hl⟩:=id I.loc
 have hcls:(X.env.scope.kind== .class||(X.env.scope.kind== .module && X.env.locals !=X.env.globals))=false:=by rw[I.ok.kind];rfl
 have QG:i<σ.length:=by rw[I.len];exact(List.getElem?_eq_some_iff.mp hi).1
 have Oz:=I.Oz
 have tracked:∀{a:Addr} {h':Heap},(∃o,s.heap.get? a=some o/\H a=none) ->Heap.SameBut a s.heap h'->ue X.prog X.w H h':=λ {a h'} ha hs b ob e=>by
  obtain⟨_,_,hfree⟩:=ha
  refine(I.hok b ob e).stay (λc w' hc q=>(hs.2 c ?_).trans q) (λ_ q=>q) λ_ _ q=>q
  rintro rfl
  rcases hc with rfl|hc
  ·rw[hfree]at e;cases e
  ·rw[hfree]at hc;cases hc
 rcases hx with hk|hk
 ·refine wpAny_storeName_local hk hn (λh' hn' hs=> ?_) hcls
  obtain⟨oL,_,_,Sn,_⟩:=id hn
  refine h _ ⟨I.ok,I.os,I.bare,⟨λb o e n hb hx=> ?_,λb o e n hb hx=> ?_,I.base.free,λb o e hx=> ?_,I.base.tups,I.base.tL,I.base.uy⟩,⟨_,hn',λj y v' e1 e2 e3=> ?_⟩,λy c e=> ?_,I.free,I.nN,λp hp=> ?_,tracked ⟨oL,Sn,I.free⟩ hs,by simpa using I.len⟩ ⟨_,hs,.inl rfl⟩
  ·exact(hs.2 b (Nat.ne_of_lt (Nat.lt_of_lt_of_le (Heap.lt_size e) I.ok.above))).trans (I.base.keep b o e n hb hx)
  ·obtain⟨sl,e1⟩:=I.base.slot b o e n hb hx
   exact⟨sl,(hs.2 b (Nat.ne_of_lt (Nat.lt_of_lt_of_le (Heap.lt_size e) I.ok.above))).trans e1⟩
  ·obtain⟨o',e1⟩:=I.base.there b o e hx
   exact⟨o',(hs.2 b (Nat.ne_of_lt (Nat.lt_of_lt_of_le (Heap.lt_size e) I.ok.above))).trans e1⟩
  ·by_cases hj:j=i
   ·subst hj
    rw[hi]at e1;cases e1
    rw[List.getElem?_set_self QG]at e2
    cases e2
    exact⟨u,r,.inl ⟨hk,by simp⟩⟩
   ·rw[List.getElem?_set_ne (Ne.symm hj)]at e2
    obtain⟨u',r',q⟩:=hl j y v' e1 e2 e3
    refine⟨u',r',?_⟩
    rcases q with⟨k,e⟩|⟨k,c,e,z⟩
    ·refine .inl ⟨k,?_⟩
     have:y≠x:=λe=>hj (zX hN e1 (e▸hi))
     simp[this,e]
    ·exact .inr ⟨k,c,e,z.sameBut hs (Oz y c e)⟩
  ·obtain⟨w',z⟩:=I.cell y c e
   exact⟨w',z.sameBut hs (Oz y c e)⟩
  ·obtain⟨e,n,ne,nf,d⟩:=I.pin p hp
   exact⟨(hs.2 p.1 ne).trans e,n,ne,nf,d⟩
 ·have hfn:X.fn x=true:=by
   rcases hf with z|z
   ·exact z
   ·rw[z]at hk;cases hk
  obtain⟨c,hc⟩:=I.ok.has x (.inl hk)
  obtain⟨w',z⟩:=I.cell x c hc
  refine wpAny_storeName_cell I.ok.kind hk hc z (λh' hc' hs=> ?_)
  obtain⟨oc,hoc,TY⟩:=id z
  refine h {s with heap:=h'} ⟨I.ok,I.os,I.bare,⟨λb o e n hb hx=> ?_,λb o e n hb hx=> ?_,I.base.free,λb o e hx=> ?_,I.base.tups,I.base.tL,I.base.uy⟩,⟨m,hn.sameBut hs (Ne.symm (Oz x c hc)),λj y v' e1 e2 e3=> ?_⟩,λy c' e=> ?_,I.free,I.nN,λp hp=> ?_,tracked ⟨oc,hoc,I.nN x c hc⟩ hs,by simpa using I.len⟩ ⟨c,hs,.inr hc⟩
  ·exact(hs.2 b (Nat.ne_of_lt (Nat.lt_of_lt_of_le (Heap.lt_size e) (I.ok.QC x c hfn hc)))).trans (I.base.keep b o e n hb hx)
  ·obtain⟨sl,e1⟩:=I.base.slot b o e n hb hx
   exact⟨sl,(hs.2 b (Nat.ne_of_lt (Nat.lt_of_lt_of_le (Heap.lt_size e) (I.ok.QC x c hfn hc)))).trans e1⟩
  ·obtain⟨o',e1⟩:=I.base.there b o e hx
   exact⟨o',(hs.2 b (Nat.ne_of_lt (Nat.lt_of_lt_of_le (Heap.lt_size e) (I.ok.QC x c hfn hc)))).trans e1⟩
  ·by_cases hj:j=i
   ·subst hj
    rw[hi]at e1;cases e1
    rw[List.getElem?_set_self QG]at e2
    cases e2
    exact⟨u,r,.inr ⟨.inl hk,c,hc,hc'⟩⟩
   ·rw[List.getElem?_set_ne (Ne.symm hj)]at e2
    obtain⟨u',r',q⟩:=hl j y v' e1 e2 e3
    refine⟨u',r',?_⟩
    rcases q with q|⟨k,c',e,z'⟩
    ·exact .inl q
    ·refine .inr ⟨k,c',e,z'.sameBut hs ?_⟩
     rintro rfl
     exact hj (zX hN e1 (I.ok.inj _ _ _ e hc▸hi))
  ·by_cases hcc:c'=c
   ·subst hcc;exact⟨_,hc'⟩
   ·obtain⟨w2,z2⟩:=I.cell y c' e
    exact⟨w2,z2.sameBut hs hcc⟩
  ·obtain⟨e,n,ne,nf,d⟩:=I.pin p hp
   refine⟨(hs.2 p.1 ?_).trans e,n,ne,nf,d⟩
   intro q
   rw[q,hoc]at e
   have q':oc=p.2:=Option.some.inj e
   exact d w' (by rw[<-q'];exact TY)
theorem qx{M:Model}{A:Around}{E:Value->Shared->Prop}{i:Nat}{x:Str}{v:V}{u:Value}{Q:Unit->Shared->Prop}(I:Inv X pins σ H s)(hN:X.N.Nodup)(hi:X.N[i]?=some x)(hx:Loc X.env.scope x)(r:RelV v u)
  (h:∀s',Inv X pins (σ.set i (some v)) H s'->Q () s')(hf:X.fn x=true∨X.env.scope.names.lookup x=some .local:=by first|exact .inl rfl|exact .inr rfl|assumption):wpAny M A (storeName X.env x u) Q E s:=
 rB I hN hi hx r (λs' I' _=>h s' I') hf
theorem Inv.Ht{s':Shared}{ch:List Addr}(I:Inv X pins σ H s)(ho:s'.os=s.os)(u:Un (frs X.stack) ch H H' s.heap s'.heap)(hok:ue X.prog X.w H' s'.heap)(hg:Hr s.gens s'.gens)
  (hch:∀b∈ch,(b∈X.ex∨X.s₀.heap.objs.size<=b)/\b≠X.env.locals/\(∀x c,X.env.cells.lookup x=some c->c≠b)/\ ∀p∈X.pn++pins,p.1≠b):Inv X pins σ H' s':=by
 obtain⟨h',g',d',t',o'⟩:=s'
 have e:o'=s.os:=ho
 subst e
 exact I.call (g':=g') (t':=t') (d':=d') u hok hg hch
end
abbrev XK:=Value->Option Addr->Hp->Prop
abbrev St:=List (Option V)
abbrev VK:=V->Hp->Prop
abbrev TE:=St->Hp->VK->Prop
abbrev TT:=St->Hp->(Bool->Hp->Prop) ->Prop
abbrev TA:=St->Hp->(List V->Hp->Prop) ->Prop
structure Ends where
 nx:St->Hp->Prop
 rt:VK
 bk:St->Hp->Prop:=λ_ _=>False
 ct:St->Hp->Prop:=λ_ _=>False
abbrev TS:=Ends->St->Hp->Prop
def EP(X:Cx)(pins:List (Addr×Obj))(σ:St)(Q:VK)(u:Value)(s':Shared):Prop:=∃v H',Inv X pins σ H' s'/\RelV v u/\Q v H'
def TP(X:Cx)(pins:List (Addr×Obj))(σ:St)(Q:Bool->Hp->Prop)(b:Bool)(s':Shared):Prop:=∃H',Inv X pins σ H' s'/\Q b H'
def AP(X:Cx)(pins:List (Addr×Obj))(σ:St)(Q:List V->Hp->Prop)(us:List Value)(s':Shared):Prop:=∃vs H',Inv X pins σ H' s'/\Vals vs us/\Q vs H'
def SP(X:Cx)(pins:List (Addr×Obj))(D:Ends)(f:Flow)(s':Shared):Prop:=
 match f with
 | .next=> ∃σ' H',Inv X pins σ' H' s'/\D.nx σ' H'
 | .brk=> ∃σ' H',Inv X pins σ' H' s'/\D.bk σ' H'
 | .cont=> ∃σ' H',Inv X pins σ' H' s'/\D.ct σ' H'
 | .ret u=> ∃v σ' H',Inv X pins σ' H' s'/\RelV v u/\D.rt v H'
def PE(X:Cx)(e:Expr)(t:TE):Prop:=
 ∀(pins:List (Addr×Obj)) (s:Shared) (σ:St) (H:Hp) (Q:VK),Inv X pins σ H s->t σ H Q->wpAny (model X.prog X.w) X.A (eval e X.env) (EP X pins σ Q) X.xe s
def PT(X:Cx)(e:Expr)(t:TT):Prop:=
 ∀(pins:List (Addr×Obj)) (s:Shared) (σ:St) (H:Hp) (Q:Bool->Hp->Prop),Inv X pins σ H s->t σ H Q->wpAny (model X.prog X.w) X.A (isTrue e X.env (eval e X.env)) (TP X pins σ Q) X.xe s
def PW(X:Cx)(e:Expr)(t:TT):Prop:=
 ∀(whole:Sem Value) (pins:List (Addr×Obj)) (s:Shared) (σ:St) (H:Hp) (Q:Bool->Hp->Prop),Inv X pins σ H s->t σ H Q->wpAny (model X.prog X.w) X.A (isTrue e X.env whole) (TP X pins σ Q) X.xe s
theorem PW.pt{X:Cx}{e:Expr}{t:TT}(h:PW X e t):PT X e t:=h _
def PA(X:Cx)(es:List Expr)(t:TA):Prop:=
 ∀(pos:Pos) (pins:List (Addr×Obj)) (s:Shared) (σ:St) (H:Hp) (Q:List V->Hp->Prop),Inv X pins σ H s->t σ H Q->wpAny (model X.prog X.w) X.A (spliced (backTo pos (starEach es X.env))) (AP X pins σ Q) X.xe s
def PS(X:Cx)(st:Stmt)(t:TS):Prop:=
 ∀(pins:List (Addr×Obj)) (s:Shared) (σ:St) (H:Hp) (D:Ends),Inv X pins σ H s->t D σ H->wpAny (model X.prog X.w) X.A (exec st X.env) (SP X pins D) X.xe s
def yp(X:Cx)(st:List Stmt)(t:TS):Prop:=
 ∀(pins:List (Addr×Obj)) (s:Shared) (σ:St) (H:Hp) (D:Ends),Inv X pins σ H s->t D σ H->wpAny (model X.prog X.w) X.A (execs st X.env) (SP X pins D) X.xe s
theorem fN{α:Type}{t:Sem α}{Q Q':α->Shared->Prop}{M:Model}{A:Around}{E:Value->Shared->Prop}{s:Shared}(h:wpAny M A t Q E s)(hQ:∀a s,Q a s->Q' a s):wpAny M A t Q' E s:=wpAny_mono h hQ λ_ _ x=>x
section
variable{X:Cx}
def aH(i:Nat):TE:=λσ H Q=> ∃v,σ[i]?=some (some v)/\Q v H
def tC(v:V):TE:=λ_ H Q=>Q v H
theorem OA{i:Nat}{x:Str}{pos:Pos}(hN:X.N[i]?=some x)(hv:NG X.env.scope x)(hd:(x==("__debug__":Str))=false:=by decide)(hcd:(x==("__classdict__":Str))=false:=by decide):PE X (.Name x pos) (aH i):=by
 intro pins s σ H Q I h
 obtain⟨v,e,h⟩:=h
 obtain⟨m,hn,hl⟩:=I.loc
 obtain⟨u,r,l⟩:=hl i x v hN e hv
 have fin:EP X pins σ Q u s:=⟨v,H,I,r,h⟩
 rcases l with⟨hk,hm⟩|⟨hk,c,hc,hcell⟩
 ·exact wpAny_Name (wpAny_loadName_local I.ok.kind hk hn hm fin) hd
 ·rcases hk with hk|hk
  ·exact wpAny_Name (wpAny_loadName_cell I.ok.kind hk hc hcell fin) hd
  ·exact wpAny_Name (wpAny_loadName_free I.ok.kind hk hc hcell fin hcd) hd
theorem ah{i j pos}:PE X (.Constant (.int i) j pos) (tC (.int i)):=λ_ _ _ H _ I h=>wpAny_Constant_int ⟨.int i,H,I.tok _,⟨_,rfl⟩,h⟩
theorem nX{b j pos}:PE X (.Constant (.bool b) j pos) (tC (.bl b)):=λ_ _ _ H _ I h=>Constant_bool ⟨.bl b,H,I,rfl,h⟩
theorem yq{j pos}:PE X (.Constant .none j pos) (tC .gP):=λ_ _ _ H _ I h=>Constant_none ⟨.gP,H,I,rfl,h⟩
def Gl(X:Cx)(x:Str):Prop:=X.env.kindOf x=some .globalImplicit
theorem Dv{E:Value->Shared->Prop}{pins:List (Addr×Obj)}{s:Shared}{σ:St}{H:Hp}{x:Str}{u:Value}{pos:Pos}{Q:Value->Shared->Prop}(I:Inv X pins σ H s)(hg:Gl X x)(hm:X.mg x=some u)(h:Q u s)
  (hd:(x==("__debug__":Str))=false:=by decide):wpAny (model X.prog X.w) X.A (eval (.Name x pos) X.env) Q E s:=
 Calls.Name_function_global I.ok.kind hg (Calls.loadGlobal_global (by rw[I.ok.glob];exact I.mod.glob.keeps I.bk) hm h) hd
theorem jU{E:Value->Shared->Prop}{pins:List (Addr×Obj)}{s:Shared}{σ:St}{H:Hp}{x:Str}{u:Value}{pos:Pos}{Q:Value->Shared->Prop}(I:Inv X pins σ H s)(hg:Gl X x)(hm:X.mg x=none)(hv:bootBuiltins x=some u)(h:Q u s)
  (hn:x≠ "__name__":=by decide)(hd:(x==("__debug__":Str))=false:=by decide):wpAny (model X.prog X.w) X.A (eval (.Name x pos) X.env) Q E s:=by
 obtain⟨mb,h1,h2⟩:=I.mod.blt
 exact Calls.Name_function_global I.ok.kind hg (Calls.loadGlobal_builtin (by rw[I.ok.glob];exact I.mod.glob.keeps I.bk) hm (by rw[I.ok.blt];exact h1.keeps I.bk) ((h2 x hn).trans hv) h) hd
theorem Dw{x:Str}{v:V}{u:Value}{pos:Pos}(hg:Gl X x)(hm:X.mg x=some u)(r:RelV v u)(hd:(x==("__debug__":Str))=false:=by decide):PE X (.Name x pos) (tC v):=
 λ_ _ _ H _ I h=>Dv I hg hm ⟨v,H,I,r,h⟩ hd
theorem qy{x:Str}{v:V}{u:Value}{pos:Pos}(hg:Gl X x)(hm:X.mg x=none)(hv:bootBuiltins x=some u)(r:RelV v u)(hn:x≠ "__name__":=by decide)(hd:(x==("__debug__":Str))=false:=by decide):PE X (.Name x pos) (tC v):=
 λ_ _ _ H _ I h=>jU I hg hm hv ⟨v,H,I,r,h⟩ hn hd
variable{a b:Expr}{ta tb:TE}{pos:Pos}
def tB(t:TE):TT:=λσ H Q=>t σ H λx H1=> ∃c,x= .bl c/\Q c H1
theorem jk{e:Expr}{t:TE}(h:PE X e t)(he:∀whole,isTrue e X.env whole=(do let v<-whole;standAt e.pos;holding [v] (truthy v)):=by intro _;rfl):PT X e (tB t):=by
 intro pins s σ H Q I hw
 refine isTrue_plain (fN (h pins s σ H _ I hw) λv s1 ⟨x,H1,I1,r1,q1⟩=> ?_) (he _)
 obtain⟨d,rfl,q⟩:=q1
 cases r1
 exact wpAny_truthy_bool ⟨H1,I1,q⟩
variable{tA Sq:TT}{rest:List Expr}
def Ua(t u:TT):TT:=λσ H Q=>t σ H λc H1=>if c=true then u σ H1 Q else Q false H1
def Xm(t u:TT):TT:=λσ H Q=>t σ H λc H1=>if c=true then Q true H1 else u σ H1 Q
def Ub(t:TT):TT:=λσ H Q=>t σ H λc H1=>Q (!c) H1
theorem LF(ha:PT X a tA):PW X (.BoolOp .And [a] pos) tA:=by
 intro wh pins s σ H Q I h
 refine isTrue_and (fN (ha pins s σ H Q I h) λc s1 e=> ?_)
 cases c with
 |true=>exact isTrue_and_nil e
 |false=>exact e
theorem uB(ha:PT X a tA):PW X (.BoolOp .Or [a] pos) tA:=by
 intro wh pins s σ H Q I h
 refine isTrue_or (fN (ha pins s σ H Q I h) λc s1 e=> ?_)
 cases c with
 |false=>exact isTrue_or_nil e
 |true=>exact e
theorem OB(ha:PT X a tA)(hb:PW X (.BoolOp .And (b::rest) pos) Sq):PW X (.BoolOp .And (a::b::rest) pos) (Ua tA Sq):=by
 intro wh pins s σ H Q I h
 refine isTrue_and (fN (ha pins s σ H _ I h) λc s1 ⟨H1,I1,q1⟩=> ?_)
 cases c with
 |true=>exact hb wh pins s1 σ H1 Q I1 q1
 |false=>exact⟨H1,I1,q1⟩
theorem zY(ha:PT X a tA)(hb:PW X (.BoolOp .Or (b::rest) pos) Sq):PW X (.BoolOp .Or (a::b::rest) pos) (Xm tA Sq):=by
 intro wh pins s σ H Q I h
 refine isTrue_or (fN (ha pins s σ H _ I h) λc s1 ⟨H1,I1,q1⟩=> ?_)
 cases c with
 |true=>exact⟨H1,I1,q1⟩
 |false=>exact hb wh pins s1 σ H1 Q I1 q1
theorem jV(ha:PT X a tA):PT X (.UnaryOp .Not a pos) (Ub tA):=by
 intro pins s σ H Q I h
 exact isTrue_not (ha pins s σ H (λc H1=>Q (!c) H1) I h)
def QH(ta tb:TE):TE:=λσ H Q=>ta σ H λx H1=> ∃c,x= .bl c/\if c=true then tb σ H1 Q else Q (.bl false) H1
def QI(ta:TE):TE:=λσ H Q=>ta σ H λx H1=> ∃c,x= .bl c/\Q (.bl (!c)) H1
theorem pV{op}{t:TE}(h:PE X a t):PE X (.BoolOp op [a] pos) t:=λpins s σ H Q I hw=>BoolOp_one (h pins s σ H Q I hw)
theorem mG(ha:PE X a ta)(hb:PE X (.BoolOp .And (b::rest) pos) tb):PE X (.BoolOp .And (a::b::rest) pos) (QH ta tb):=by
 intro pins s σ H Q I h
 refine BoolOp_and (fN (ha pins s σ H _ I h) λv s1 ⟨x,H1,I1,r1,q1⟩=> ?_)
 obtain⟨c,rfl,q1⟩:=q1
 cases r1
 refine wpAny_truthy_bool ?_
 cases c with
 |true=>exact hb pins s1 σ H1 Q I1 q1
 |false=>exact⟨.bl false,H1,I1,rfl,q1⟩
theorem OC(ha:PE X a ta):PE X (.UnaryOp .Not a pos) (QI ta):=by
 intro pins s σ H Q I h
 refine UnaryOp_ (fN (ha pins s σ H _ I h) λv s1 ⟨x,H1,I1,r1,q1⟩=> ?_)
 obtain⟨c,rfl,q1⟩:=q1
 cases r1
 exact not_of (wpAny_truthy_bool ⟨.bl (!c),H1,I1,rfl,q1⟩)
end
def aS(K:PySem.W.Frag)(H:Hp)(a:Addr)(xs:List V):Prop:=
 Rd H a (.lst xs)∨
  ∃(o:Obj) (its:Array Value) (n:Nat),K.lookup a=some o/\o.cls= .type "list"/\o.dict=none/\o.data= .seq its n/\its.size<=sizeLine/\Vals xs its.toList
def pN(K:PySem.W.Frag)(H:Hp)(a:Addr)(xs:List V):Prop:=
 Rd H a (.tup xs)∨
  ∃(o:Obj) (its:Array Value) (n:Nat),K.lookup a=some o/\o.cls= .type "tuple"/\o.data= .seq its n/\its.size<=sizeLine/\Vals xs its.toList
def Uc:Value->Option V
 | .none=>some .gP
 | .bool b=>some (.bl b)
 | .int i _=>some (.int i)
 | .str x _=>some (.str x)
 | .bytes b _=>some (.EB b)
 | .float b _=>some (.EC b)
 | .ref a=>some (.ref a)
 | .type n=>some (.ty n)
 |_=>none
theorem RelV.abs{x:V}{u:Value}(r:RelV x u):Uc u=some x:=by
 cases x with
 |gP=>cases r;rfl
 |bl _=>cases r;rfl
 |int _=>obtain⟨t,rfl⟩:=r;rfl
 |str _=>obtain⟨t,rfl⟩:=r;rfl
 |EB _=>obtain⟨t,rfl⟩:=r;rfl
 |EC _=>obtain⟨t,rfl⟩:=r;rfl
 |ref _=>cases r;rfl
 |ty _=>cases r;rfl
theorem RelV.inj{x y:V}{u:Value}(r:RelV x u)(q:RelV y u):x=y:=Option.some.inj (r.abs.symm.trans q.abs)
theorem Vals.inj:∀{xs ys:List V} {us:List Value},Vals xs us->Vals ys us->xs=ys
 |_,_,_,.nil,.nil=>rfl
 |_,_,_,.cons r t,.cons r' t'=>by rw[r.inj r',Vals.inj t t']
section
variable{X:Cx}{pins:List (Addr×Obj)}{σ:St}{H:Hp}{s:Shared}{a:Addr}{xs ys:List V}
theorem aS.of{K:PySem.W.Frag}(h:H a=some (.lst xs)):aS K H a xs:= .inl (.inl h)
theorem pN.of{K:PySem.W.Frag}(h:H a=some (.tup xs)):pN K H a xs:= .inl (.inl h)
theorem Inv.list(I:Inv X pins σ H s)(h:aS X.K H a xs):∃its:List Value,Vals xs its/\PlainL s.heap a its.toArray/\xs.length<=sizeLine:=by
 rcases h with h|⟨o,its,n,hk,hc,hd,hs,hz,r⟩
 ·obtain⟨z,its,n,r,e⟩:=h.ok I.hok
  exact⟨its,r,⟨_,n,e,rfl,rfl,rfl⟩,z⟩
 ·refine⟨its.toList,r,⟨o,n,I.yo a o hk,hc,hd,by simpa using hs⟩,?_⟩
  have e:=r.length
  simp only[Array.length_toList]at e
  omega
theorem Inv.tuple(I:Inv X pins σ H s)(h:pN X.K H a xs):∃its:List Value,Vals xs its/\IsTup s.heap a its.toArray/\xs.length<=sizeLine:=by
 rcases h with h|⟨o,its,n,hk,hc,hs,hz,r⟩
 ·obtain⟨z,its,r,p⟩:=h.ok I.hok
  exact⟨its,r,p,z⟩
 ·refine⟨its.toList,r,⟨o,I.yo a o hk,hc,n,by simpa using hs⟩,?_⟩
  have e:=r.length
  simp only[Array.length_toList]at e
  omega
theorem Inv.uC(I:Inv X pins σ H s)(h:aS X.K H a xs)(h':aS X.K H a ys):xs=ys:=by
 obtain⟨its,r,⟨o,n,e,_,_,d⟩,_⟩:=I.list h
 obtain⟨its',r',⟨o',n',e',_,_,d'⟩,_⟩:=I.list h'
 rw[e]at e';cases e'
 rw[d]at d'
 injection d' with d1 _
 have:its=its':=by simpa using congrArg Array.toList d1
 subst this
 exact r.inj r'
theorem Inv.EF(I:Inv X pins σ H s)(h:pN X.K H a xs)(h':pN X.K H a ys):xs=ys:=by
 obtain⟨its,r,⟨o,e,_,n,d⟩,_⟩:=I.tuple h
 obtain⟨its',r',⟨o',e',_,n',d'⟩,_⟩:=I.tuple h'
 rw[e]at e';cases e'
 rw[d]at d'
 injection d' with d1 _
 have:its=its':=by simpa using congrArg Array.toList d1
 subst this
 exact r.inj r'
end
abbrev Cx.wK (X:Cx) (E:Value->Shared->Prop):Cx:={X with xe:=E}
abbrev Cx.GZ (X:Cx):Cx:=X.wK λ_ _=>False
theorem Cx.Ok.wK{X:Cx}(ok:X.Ok)(E:Value->Shared->Prop):(X.wK E).Ok:=
 ⟨ok.mod,ok.kind,ok.glob,ok.blt,ok.above,ok.inj,ok.has,ok.QC,ok.hd,ok.frames,ok.stk,ok.NH,ok.bs,ok.LD,ok.EE,ok.BF,ok.tM,ok.Qm⟩
theorem Cx.Ok.nY{X:Cx}{E:Value->Shared->Prop}(ok:(X.wK E).Ok):X.Ok:=
 ⟨ok.mod,ok.kind,ok.glob,ok.blt,ok.above,ok.inj,ok.has,ok.QC,ok.hd,ok.frames,ok.stk,ok.NH,ok.bs,ok.LD,ok.EE,ok.BF,ok.tM,ok.Qm⟩
section
variable{X:Cx}{pins:List (Addr×Obj)}{σ:St}{H:Hp}{s:Shared}{E:Value->Shared->Prop}
theorem Inv.wK(I:Inv X pins σ H s)(E:Value->Shared->Prop):Inv (X.wK E) pins σ H s:=⟨I.ok.wK E,I.os,I.bare,I.base,I.loc,I.cell,I.free,I.nN,I.pin,I.hok,I.len⟩
theorem Inv.nY(I:Inv (X.wK E) pins σ H s):Inv X pins σ H s:=⟨I.ok.nY,I.os,I.bare,I.base,I.loc,I.cell,I.free,I.nN,I.pin,I.hok,I.len⟩
theorem SP.nY{D:Ends}{f:Flow}{s':Shared}(h:SP (X.wK E) pins D f s'):SP X pins D f s':=by
 cases f with
 |next=>obtain⟨σ',H',I,q⟩:=h;exact⟨σ',H',I.nY,q⟩
 |brk=>obtain⟨σ',H',I,q⟩:=h;exact⟨σ',H',I.nY,q⟩
 |cont=>obtain⟨σ',H',I,q⟩:=h;exact⟨σ',H',I.nY,q⟩
 |ret u=>obtain⟨v,σ',H',I,r,q⟩:=h;exact⟨v,σ',H',I.nY,r,q⟩
theorem yp.GZ{st:List Stmt}{t:TS}(h:yp X.GZ st t):yp X st t:=λpins s σ H D I hw=>
 wpAny_mono (h pins s σ H D (I.wK _) hw) (λ_ _ q=>q.nY) λ_ _ z=>False.elim z
end
section
variable{X:Cx}{st:Stmt}{rest:List Stmt}{t u:TS}{e:Expr}{te:TE}{pos:Pos}
def NJ:TS:=λD σ H=>D.nx σ H
def OD(t u:TS):TS:=λD σ H=>t {D with nx:=u D} σ H
theorem LG:yp X [] NJ:=λ_ _ σ H _ I h=>wpAny_execs_nil ⟨σ,H,I,h⟩
theorem Hu(h1:PS X st t)(h2:yp X rest u):yp X (st::rest) (OD t u):=by
 intro pins s σ H D I h
 refine wpAny_execs_cons (fN (h1 pins s σ H {D with nx:=u D} I h) λf s1 q=> ?_)
 cases f with
 |next=>
  obtain⟨σ',H',I',q⟩:=q
  exact h2 pins s1 σ' H' D I' q
 |ret v=>exact q
 |brk=>exact q
 |cont=>exact q
theorem dz(h1:PS X st t):yp X [st] t:=by
 intro pins s σ H D I h
 refine wpAny_execs_cons (fN (h1 pins s σ H D I h) λf s1 q=> ?_)
 cases f with
 |next=>exact wpAny_execs_nil q
 |ret v=>exact q
 |brk=>exact q
 |cont=>exact q
theorem Inv.quiet{pins:List (Addr×Obj)}{σ:St}{H:Hp}{s:Shared}(I:Inv X pins σ H s):interactive X.env=false:=by simp[interactive,I.ok.kind]
def QJ(te:TE):TS:=λD σ H=>te σ H λ_ H1=>D.nx σ H1
theorem mH(he:PE X e te)(hs:swapsWith e none pos.line X.env=pure false:=by rfl):PS X (.Expr e pos) (QJ te):=by
 intro pins s σ H D I h
 exact wpAny_Expr_any (fN (he pins s σ H _ I h) λv s1 ⟨x,H1,I1,r1,q1⟩=>⟨σ,H1,I1,q1⟩) I.quiet hs
def QK(te:TE):TS:=λD σ H=>te σ H D.rt
theorem aT(he:PE X e te):PS X (.Return (some e) pos) (QK te):=by
 intro pins s σ H D I h
 exact wpAny_Return_some (fN (he pins s σ H _ I h) λv s1 ⟨x,H1,I1,r1,q1⟩=>⟨x,σ,H1,I1,r1,q1⟩)
def QL(c:TT)(t u:TS):TS:=λD σ H=>c σ H λb H1=>if b=true then t D σ H1 else u D σ H1
theorem QM{c:Expr}{a b:List Stmt}{tc:TT}(hc:PT X c tc)(ha:yp X a t)(hb:yp X b u):PS X (.If c a b pos) (QL tc t u):=by
 intro pins s σ H D I h
 refine wpAny_If (fN (hc pins s σ H _ I h) λd s1 ⟨H1,I1,q1⟩=> ?_)
 cases d with
 |true=>exact ha pins s1 σ H1 D I1 q1
 |false=>exact hb pins s1 σ H1 D I1 q1
def OE:TS:=λ_ _ _=>False
theorem qz:PS X st OE:=λ_ _ _ _ _ _ h=>h.elim
end
abbrev TG:=V->St->Hp->(St->Hp->Prop) ->Prop
abbrev LH:=List V->St->Hp->(St->Hp->Prop) ->Prop
def PG(X:Cx)(target:Expr)(t:TG):Prop:=
 ∀(pins:List (Addr×Obj)) (s:Shared) (σ:St) (H:Hp) (v:V) (u:Value) (Q:St->Hp->Prop),Inv X pins σ H s->RelV v u->t v σ H Q->
  wpAny (model X.prog X.w) X.A (assign target X.env u) (λ_ s'=> ∃σ' H',Inv X pins σ' H' s'/\Q σ' H') X.xe s
def QN(X:Cx)(ts:List Expr)(t:LH):Prop:=
 ∀(pins:List (Addr×Obj)) (s:Shared) (σ:St) (H:Hp) (vs:List V) (us:List Value) (Q:St->Hp->Prop),Inv X pins σ H s->Vals vs us->t vs σ H Q->
  wpAny (model X.prog X.w) X.A (assignInOrder ((assignEach ts X.env).map (·.2)) us) (λ_ s'=> ∃σ' H',Inv X pins σ' H' s'/\Q σ' H') X.xe s
abbrev Hv:=V->V->V->Hp->(Hp->Prop) ->Prop
def OF(X:Cx)(t:Hv):Prop:=
 ∀(pins:List (Addr×Obj)) (s:Shared) (σ:St) (H:Hp) (o i v:V) (ov iv u:Value) (Q:Hp->Prop),Inv X pins σ H s->RelV o ov->RelV i iv->RelV v u->t o i v H Q->
  wpAny (model X.prog X.w) X.A (setItem ov iv u) (λ_ s'=> ∃H',Inv X pins σ H' s'/\Q H') X.xe s
abbrev Su:=V->V->Hp->VK->Prop
def VS(X:Cx)(op:Operator)(t:Su):Prop:=
 ∀(pins:List (Addr×Obj)) (s:Shared) (σ:St) (H:Hp) (x y:V) (v u:Value) (Q:VK),Inv X pins σ H s->RelV x v->RelV y u->t x y H Q->
  wpAny (model X.prog X.w) X.A (inplaceOp op v u) (EP X pins σ Q) X.xe s
section
variable{X:Cx}{pos:Pos}
def bV(i:Nat):TG:=λv σ H Q=>Q (σ.set i (some v)) H
theorem bL{i:Nat}{x:Str}(hN:X.N.Nodup)(hi:X.N[i]?=some x)(hx:Loc X.env.scope x)(hf:X.fn x=true∨X.env.scope.names.lookup x=some .local:=by first|exact .inl rfl|exact .inr rfl|assumption):PG X (.Name x pos) (bV i):=by
 intro pins s σ H v u Q I r h
 exact wpAny_assign_Name (qx I hN hi hx r (λs' I'=>⟨_,H,I',h⟩) hf)
def QO:LH:=λvs σ H Q=>vs=[]/\Q σ H
def Hw(t:TG)(u:LH):LH:=λvs σ H Q=> ∃v r,vs=v::r/\t v σ H λσ' H'=>u r σ' H' Q
theorem kP:QN X [] QO:=by
 intro pins s σ H vs us Q I r h
 obtain⟨e,h⟩:=h
 subst e
 cases r
 exact assignInOrder_nil ⟨σ,H,I,h⟩
theorem cK{e:Expr}{es:List Expr}{t:TG}{u:LH}(h1:PG X e t)(h2:QN X es u)
  (hs:(assignEach (e::es) X.env).map (·.2)=assign e X.env::(assignEach es X.env).map (·.2):=by rfl):QN X (e::es) (Hw t u):=by
 intro pins s σ H vs us Q I r h
 obtain⟨v,vr,e1,h⟩:=h
 subst e1
 cases r with
 |cons r rr=>
  rw[hs]
  refine assignInOrder_cons (fN (h1 pins s σ H _ _ _ I r h) λ_ s1 ⟨σ1,H1,I1,q1⟩=> ?_)
  exact h2 pins s1 σ1 H1 _ _ Q I1 rr q1
def QS(K:PySem.W.Frag)(n:Nat)(t:LH):TG:=λv σ H Q=> ∃a xs,v= .ref a/\pN K H a xs/\xs.length=n/\t xs σ H Q
theorem BG{es:List Expr}{k:Nat}{t:LH}{n:Nat}(hc:X.calm=true)(h:QN X es t)
  (hn:(assignEach es X.env).length=n:=by rfl)(hst:(assignEach es X.env).findIdx? (·.1)=none:=by rfl):PG X (.Tuple es k pos) (QS X.K n t):=by
 intro pins s σ H v u Q I r hw
 obtain⟨a,xs,e1,hq,hl,hw⟩:=hw
 subst e1
 cases r
 obtain⟨its,rv,ht,hz⟩:=I.tuple hq
 refine assign_Tuple_tuple (I.ok.hd hc) ht (by simp[hn,<-hl,rv.length]) hst λh' hx=> ?_
 have I1:Inv X pins σ H {s with heap:=h'}:=I.kept (t':=s.toks) λb o e=>hx b o (Nat.ne_of_lt (Heap.lt_size e)) e
 exact h pins _ σ H xs _ Q I1 (by simpa using rv) hw
def Ud(to ti:TE)(t:Hv):TG:=λv σ H Q=>to σ H λo H1=>ti σ H1 λi H2=>t o i v H2 λH3=>Q σ H3
theorem mJ{o i:Expr}{to ti:TE}{t:Hv}(ho:PE X o to)(hi:PE X i ti)(hs:OF X t)
  (ha:∀v,assign (.Subscript o i pos) X.env v=(do
   let ov<-holding [v] (eval o X.env)
   let iv<-holding [v,ov] (eval i X.env)
   standAt pos
   holding [v,ov,iv] (setItem ov iv v)
   release [v,ov,iv] []):=by intro _;rfl):PG X (.Subscript o i pos) (Ud to ti t):=by
 intro pins s σ H v u Q I r h
 rw[ha]
 refine wpAny_bind (wpAny_holding (fN (ho pins s σ H _ I h) λov s1 ⟨x,H1,I1,r1,q1⟩=> ?_))
 refine wpAny_bind (wpAny_holding (fN (hi pins s1 σ H1 _ I1 q1) λiv s2 ⟨y,H2,I2,r2,q2⟩=> ?_))
 refine wpAny_bind (wpAny_standAt (wpAny_bind (wpAny_holding (fN (hs pins s2 σ H2 x y v ov iv u _ I2 r1 r2 r q2) λ_ s3 ⟨H3,I3,q3⟩=> ?_))))
 exact wpAny_release ⟨σ,H3,I3,q3⟩
def zZ(te:TE)(g:TG):TS:=λD σ H=>te σ H λx H1=>g x σ H1 D.nx
theorem kY{tg e:Expr}{te:TE}{g:TG}(he:PE X e te)(hg:PG X tg g)(hs:swapsWithSole [tg] e pos.line X.env=pure false:=by rfl)(hw:swappedStores [tg] e X.env=pure none:=by rfl)
  (h1:(assignEach [tg] X.env).map (·.2)=[assign tg X.env]:=by rfl):PS X (.Assign [tg] e pos) (zZ te g):=by
 intro pins s σ H D I h
 refine wpAny_Assign_stores (fN (he pins s σ H _ I h) λv s1 ⟨x,H1,I1,r1,q1⟩=> ?_) hs hw
 rw[h1]
 exact fN (hg pins s1 σ H1 x v _ I1 r1 q1) λ_ s2 q=>q
theorem aW{i:Nat}{x:Str}{e:Expr}{te:TE}{pos':Pos}(hN:X.N.Nodup)(hi:X.N[i]?=some x)(hx:Loc X.env.scope x)(he:PE X e te)(hs:swapsWith e (some (.Name x pos')) pos.line X.env=pure false:=by rfl)(hf:X.fn x=true∨X.env.scope.names.lookup x=some .local:=by first|exact .inl rfl|exact .inr rfl|assumption):
  PS X (.Assign [.Name x pos'] e pos) (zZ te (bV i)):=by
 intro pins s σ H D I h
 refine wpAny_Assign_Name (fN (he pins s σ H _ I h) λv s1 ⟨y,H1,I1,r1,q1⟩=> ?_) hs
 exact qx I1 hN hi hx r1 (λs2 I2=>⟨_,H1,I2,q1⟩) hf
def Ue(i j:Nat)(ta:TA):TS:=λD σ H=>ta σ H λvs H1=> ∃v w,vs=[v,w]/\D.nx ((σ.set i (some v)).set j (some w)) H1
theorem HA{i j:Nat}{x y:Str}{a b:Expr}{ta:TA}{px py pt:Pos}{kt k2 Ug}(hc:X.calm=true)(hN:X.N.Nodup)(hi:X.N[i]?=some x)(hj:X.N[j]?=some y)(hij:i≠j)
  (hx:X.env.scope.names.lookup x=some .local)(hy:X.env.scope.names.lookup y=some .local)(ha:PA X [a,b] ta)
  (hw:swappedStores [.Tuple [.Name x px,.Name y py] kt pt] (.Tuple [a,b] k2 Ug) X.env=pure (some [x,y]))
  (hs:swapsWithSole [.Tuple [.Name x px,.Name y py] kt pt] (.Tuple [a,b] k2 Ug) pos.line X.env=pure false:=by rfl):
  PS X (.Assign [.Tuple [.Name x px,.Name y py] kt pt] (.Tuple [a,b] k2 Ug) pos) (Ue i j ta):=by
 intro pins s σ H D I h
 rw[exec_Assign_arm]
 refine wpAny_bind (wpAny_standAt ?_)
 rw[hs]
 refine wpAny_bind (wpAny_pure ?_)
 rw[if_neg (by decide)]
 refine wpAny_bind (Tuple_ (fN (ha _ pins s σ H _ I h) λus s1 ⟨vs,H1,I1,r1,q1⟩=> ?_))
 obtain⟨v,w,e1,q1⟩:=q1
 subst e1
 obtain⟨u1,u2,rfl,rv,rw'⟩:∃u1 u2,us=[u1,u2]/\RelV v u1/\RelV w u2:=by
  cases r1 with
  |cons p q=>
   cases q with
   |cons p' q'=>
    cases q'
    exact⟨_,_,rfl,p,p'⟩
 refine wpAny_newObj_type ?_ (by show 2<=sizeLine;decide)
 have I2:Inv X pins σ H1 {s1 with heap:=s1.heap.push {cls:= .type "tuple",data:= .seq [u1,u2].toArray}}:=I1.kept (t':=s1.toks) λb o e=>Heap.get?_push_of_some _ e
 rw[hw]
 refine wpAny_bind (wpAny_pure ?_)
 show wpAny (model X.prog X.w) X.A (do rule "assign.swapped-stores";let items<-unpackItems (.ref s1.heap.objs.size) 2 none;assignInOrder [λv=>bindName X.env y v,λv=>bindName X.env x v] items.reverse;pure Flow.next) _ _ _
 refine wpAny_bind (wpAny_rule (wpAny_bind (unpackItems_tuple (items:= #[u1,u2]) (I.ok.hd hc) (IsTup.new s1.heap _) λh' hx'=> ?_)))
 have I3:=I2.kept (h':=h') (t':=s1.toks) λb o e=>hx' b o (Nat.ne_of_lt (Heap.lt_size e)) e
 show wpAny _ _ (assignInOrder [λv=>bindName X.env y v,λv=>bindName X.env x v] [u2,u1]>>=λ_=>pure Flow.next) _ _ _
 refine wpAny_bind (assignInOrder_cons (wpAny_bindName (qx I3 hN hj (.inl hy) rw' (λs2 I4=> ?_) (.inr hy))))
 refine assignInOrder_cons (wpAny_bindName (qx I4 hN hi (.inl hx) rv (λs3 I5=>assignInOrder_nil (wpAny_pure ?_)) (.inr hx)))
 rw[List.set_comm _ _ (Ne.symm hij)]at I5
 exact⟨_,H1,I5,q1⟩
def QT(to ti te:TE)(LI:V->V->Hp->VK->Prop)(Sv:Su)(LJ:Hv):TS:=λD σ H=>to σ H λo H1=>ti σ H1 λi H2=>LI o i H2 λx H3=>te σ H3 λy H4=>Sv x y H4 λz H5=>LJ o i z H5 λH6=>D.nx σ H6
def QU(X:Cx)(t:V->V->Hp->VK->Prop):Prop:=
 ∀(pins:List (Addr×Obj)) (s:Shared) (σ:St) (H:Hp) (o i:V) (ov iv:Value) (Q:VK),Inv X pins σ H s->RelV o ov->RelV i iv->t o i H Q->
  wpAny (model X.prog X.w) X.A (getItem ov iv) (EP X pins σ Q) X.xe s
theorem Dy{o i e:Expr}{to ti te:TE}{LI:V->V->Hp->VK->Prop}{Sv:Su}{LJ:Hv}{op:Operator}{tpos:Pos}(ho:PE X o to)(hi:PE X i ti)(hg:QU X LI)(he:PE X e te)(hp:VS X op Sv)(hs:OF X LJ)
  (ha:∀ov iv new,augStore i ov iv new=(do holding [new,ov,iv] (setItem ov iv new);release [new,ov,iv] [];pure .next):=by intros;rfl):PS X (.AugAssign (.Subscript o i tpos) op e pos) (QT to ti te LI Sv LJ):=by
 intro pins s σ H D I h
 refine wpAny_AugAssign_SubscriptAny (fN (ho pins s σ H _ I h) λov s1 ⟨x1,H1,I1,r1,q1⟩=> ?_) ha
 refine fN (hi pins s1 σ H1 _ I1 q1) λiv s2 ⟨x2,H2,I2,r2,q2⟩=> ?_
 refine fN (hg pins s2 σ H2 x1 x2 ov iv _ I2 r1 r2 q2) λold s3 ⟨x3,H3,I3,r3,q3⟩=> ?_
 refine fN (he pins s3 σ H3 _ I3 q3) λv s4 ⟨x4,H4,I4,r4,q4⟩=> ?_
 refine fN (hp pins s4 σ H4 x3 x4 old v _ I4 r3 r4 q4) λnew s5 ⟨x5,H5,I5,r5,q5⟩=> ?_
 exact fN (hs pins s5 σ H5 x1 x2 x5 ov iv new _ I5 r1 r2 r5 q5) λ_ s6 ⟨H6,I6,q6⟩=>⟨σ,H6,I6,q6⟩
def Xn(f:Int->Int->Int):Su:=λx y H Q=> ∃i j,x= .int i/\y= .int j/\Q (.int (f i j)) H
theorem HB:VS X .Add (Xn λi j=>i+j):=by
 intro pins s σ H x y v u Q I r1 r2 h
 obtain⟨i,j,e1,e2,q⟩:=h
 subst e1;subst e2
 obtain⟨t,rfl⟩:=r1
 obtain⟨t',rfl⟩:=r2
 exact iadd_int ⟨.int _,H,I.tok _,⟨_,rfl⟩,q⟩
end
section
variable{X:Cx}{pos:Pos}
def HD(c:TT)(tb:TS):TS:=λD σ H=> ∃W:Nat->St->Hp->Prop,(∃m,W m σ H)/\ ∀m σ H,W m σ H->
 c σ H λb H1=>if b=true then ∃N:St->Hp->Prop,(∀σ' H',N σ' H'-> ∃m',m'<m/\W m' σ' H')/\tb {D with nx:=N,ct:=N,bk:=D.nx} σ H1 else D.nx σ H1
theorem HE{c:Expr}{body:List Stmt}{tc:TT}{tb:TS}(hp:PassesOwn (model X.prog X.w) X.A X.env X.xe)(hc:PT X c tc)(hb:yp X body tb):PS X (.While c body [] pos) (HD tc tb):=by
 intro pins s σ H D I h
 obtain⟨W,⟨m0,w0⟩,turn⟩:=h
 refine wpAny_While (codeAny_whileLoop (λn s'=> ∃σ' H',Inv X pins σ' H' s'/\W n σ' H') ?_ m0 ⟨σ,H,I,w0⟩)
 rintro n s1 ⟨σ1,H1,I1,w1⟩
 refine wpAny_passesOwn hp (fN (hc pins s1 σ1 H1 _ I1 (turn n σ1 H1 w1)) λb s2 ⟨H2,I2,q2⟩=> ?_)
 cases b with
 |true=>
  obtain⟨N,hN,q2⟩:=q2
  rw[if_pos rfl]
  refine wpAny_passesOwn hp (fN (hb pins s2 σ1 H2 _ I2 q2) λf s3 q3=> ?_)
  cases f with
  |next=>
   obtain⟨σ3,H3,I3,n3⟩:=q3
   obtain⟨m',hm,w3⟩:=hN σ3 H3 n3
   exact⟨m',hm,σ3,H3,I3,w3⟩
  |cont=>
   obtain⟨σ3,H3,I3,n3⟩:=q3
   obtain⟨m',hm,w3⟩:=hN σ3 H3 n3
   exact⟨m',hm,σ3,H3,I3,w3⟩
  |brk=>exact q3
  |ret v=>exact q3
 |false=>
  rw[if_neg Bool.false_ne_true]
  exact wpAny_execs_nil ⟨σ1,H2,I2,q2⟩
end
structure It where
 go:Nat->Hp->Prop
 wL:Nat->Hp->V->Hp->Prop
 stop:Nat->Hp->Prop
def ff(X:Cx)(pins:List (Addr×Obj))(H:Hp)(b:Addr):Prop:=
 H b=none/\b≠X.env.locals/\b∉X.fs/\(b∈X.ex∨X.s₀.heap.objs.size<=b)/\(∀x c,X.env.cells.lookup x=some c->c≠b)/\ ∀p∈X.pn++pins,p.1≠b
theorem Inv.BH{X:Cx}{pins:List (Addr×Obj)}{σ:St}{H H':Hp}{s:Shared}{b:Addr}(I:Inv X pins σ H s)(hb:s.heap.objs.size<=b)(hn:H' b=none):ff X pins H' b:=by
 refine⟨hn,Nat.ne_of_gt (Nat.lt_of_lt_of_le I.lt hb),I.QD hb,.inr (Nat.le_trans I.sz hb),λx c e z=> ?_,λp hp z=> ?_⟩
 ·obtain⟨v,q⟩:=I.cell x c e
  exact absurd (Nat.lt_of_lt_of_le q.lt (by rw[z];exact hb)) (Nat.lt_irrefl _)
 ·exact absurd (Nat.lt_of_lt_of_le (Heap.lt_size (I.pin p hp).1) (by rw[z];exact hb)) (Nat.lt_irrefl _)
structure Turn(P:Program)(w:World)(K:PySem.W.Frag)(tg:Expr)(J:It)(fp:List Addr)(it:Addr)(tn:Nat->Heap->Prop):Prop where
 mem:it∈fp
 obj:∀i h,tn i h-> ∀b∈fp,∃o,h.get? b=some o/\ ∀v,o.data≠ .cell v
 keep:∀i h h',tn i h->(∀b∈fp,∀o,h.get? b=some o->h'.get? b=some o) ->tn i h'
 item:∀(X:Cx),X.prog=P->X.w=w->X.K=K->X.calm=true-> ∀(i:Nat) (pins:List (Addr×Obj)) (s:Shared) (σ:St) (H:Hp) (E:Value->Shared->Prop),Inv X pins σ H s->(∀b∈fp,ff X pins H b) ->tn i s.heap->J.go i H->
  wpAny (model P w) X.A (pyNext (.ref it)) (λr s1=> ∃u,r=some u/\
   wpAny (model P w) X.A (letOwnedTupleGo tg (.ref it) u) (λ_ s2=> ∃x H',Inv X pins σ H' s2/\RelV x u/\J.wL i H x H'/\tn (i+1) s2.heap/\ ∀b∈fp,H' b=none) E s1) E s
 done:∀(X:Cx),X.prog=P->X.w=w->X.K=K->X.calm=true-> ∀(i:Nat) (pins:List (Addr×Obj)) (s:Shared) (σ:St) (H:Hp) (E:Value->Shared->Prop),Inv X pins σ H s->(∀b∈fp,ff X pins H b) ->tn i s.heap->J.stop i H->
  wpAny (model P w) X.A (pyNext (.ref it)) (λr s1=>r=none/\Inv X pins σ H s1) E s
 self:∀(A:Around) (i:Nat) (s:Shared) (Q:Value->Shared->Prop) (E:Value->Shared->Prop),tn i s.heap->Q (.ref it) s->wpAny (model P w) A (pyIter (.ref it)) Q E s
abbrev TI:=St->Hp->(It->Hp->Prop) ->Prop
def VT(X:Cx)(pins:List (Addr×Obj))(σ:St)(tg:Expr)(R:It->Hp->Prop)(itv:Value)(s2:Shared):Prop:=
 ∃(it:Addr) (fp:List Addr) (tn:Nat->Heap->Prop) (J:It) (H':Hp),itv= .ref it/\Inv X pins σ H' s2/\Turn X.prog X.w X.K tg J fp it tn/\tn 0 s2.heap/\(∀b∈fp,ff X pins H' b)/\R J H'
def PI(X:Cx)(tg iter:Expr)(wi:TI):Prop:=
 ∀(pins:List (Addr×Obj)) (s:Shared) (σ:St) (H:Hp) (R:It->Hp->Prop),Inv X pins σ H s->wi σ H R->
  wpAny (model X.prog X.w) X.A (eval iter X.env) (λv s1=>wpAny (model X.prog X.w) X.A (pyIter v) (VT X pins σ tg R) X.xe s1) X.xe s
theorem HF{M:Model}{A:Around}{E:Value->Shared->Prop}{s:Shared}{tg:Expr}{it:Addr}{u:Value}{o:Obj}{n:String}{vs:Array Value}{Q:Unit->Shared->Prop}(ho:s.heap.get? it=some o)(hc:o.cls= .type n)(hd:o.data= .fields vs)
  (hn: ["enumerate","zip","dict_itemiterator","dict_reverseitemiterator","odict_iterator","itertools.zip_longest","itertools.pairwise"].contains n=false)(hQ:Q () s):wpAny M A (letOwnedTupleGo tg (.ref it) u) Q E s:=by
 unfold letOwnedTupleGo
 cases tg<;>first
  |exact wpAny_pure hQ
  |(cases u<;>first
    |exact wpAny_pure hQ
    |(refine wpAny_bind (wpAny_load ho ?_)
      rw[hc,hd]
      show wpAny M A (if(["enumerate","zip","dict_itemiterator","dict_reverseitemiterator","odict_iterator","itertools.zip_longest","itertools.pairwise"].contains n && vs[0]?==some (rawInt _))=true then _ else _) Q E s
      rw[if_neg (by intro h;rw[hn,Bool.false_and]at h;cases h)]
      exact wpAny_pure hQ))
def NK(K:PySem.W.Frag)(a:Addr):It:=
 ⟨λi H=> ∃xs x,aS K H a xs/\xs[i]?=some x,λi H x H'=>H'=H/\ ∀xs,aS K H a xs->xs[i]?=some x,λi H=> ∃xs,aS K H a xs/\xs.length<=i⟩
def Uh(K:PySem.W.Frag)(a:Addr):It:=
 ⟨λi H=> ∃xs x,pN K H a xs/\xs[i]?=some x,λi H x H'=>H'=H/\ ∀xs,pN K H a xs->xs[i]?=some x,λi H=> ∃xs,pN K H a xs/\xs.length<=i⟩
def Dz(lo:Int)(n:Nat):It:=⟨λi _=>i<n,λi H x H'=>H'=H/\x= .int (lo+i),λi _=>n<=i⟩
theorem EG{P:Program}{w:World}{K:PySem.W.Frag}{tg:Expr}(a it:Addr):Turn P w K tg (NK K a) [it] it (λi h=>h.IsListIter it a i) where
 mem:=by simp
 obj:=λi h st b hb=>by
  have e:b=it:=by simpa using hb
  subst e
  obtain⟨o,e,c,d⟩:=st
  exact⟨o,e,λv z=>by rw[d]at z;cases z⟩
 keep:=λi h h' st k=>st.at λo e=>k it (by simp) o e
 item:=by
  intro X hP hw hK hc i pins s σ H E I hf st hg
  subst hP hw hK
  obtain⟨xs,x,hq,hx⟩:=hg
  obtain⟨its,rv,p,hz⟩:=I.list hq
  obtain⟨u,hu,ru⟩:=rv.get hx
  obtain⟨f0,f1,f2,f3,f4,f5⟩:=hf it (by simp)
  refine wpAny_pyNext_list_item st p.isList (x:=u) (by simpa using hu) λh' st' sb=> ?_
  have I1:Inv X pins σ H {s with heap:=h'}:=I.turned (t':=s.toks) (λb o hb e=>(sb.2 b hb).trans e) f0 f1 f3 f4 f5
  obtain⟨o,e,c,d⟩:=id st'
  exact⟨u,rfl,HF (s:={s with heap:=h'}) e c d (by decide) ⟨x,H,I1,ru,⟨rfl,λys hy=>by rw[I.uC hy hq];exact hx⟩,st',λb hb=>(hf b hb).1⟩⟩
 done:=by
  intro X hP hw hK hc i pins s σ H E I hf st hg
  subst hP hw hK
  obtain⟨xs,hq,hx⟩:=hg
  obtain⟨its,rv,p,hz⟩:=I.list hq
  obtain⟨f0,f1,f2,f3,f4,f5⟩:=hf it (by simp)
  have hl:=rv.length
  exact wpAny_pyNext_list_end (I.ok.hd hc) st p.isList (by simp;omega) λh' eb=>⟨rfl,I.turned (t':=s.toks) (λb o hb e=>eb b o hb e) f0 f1 f3 f4 f5⟩
 self:=λ_ _ _ _ _ st h=>wpAny_pyIter_listiter st h
theorem BI{P:Program}{w:World}{K:PySem.W.Frag}{tg:Expr}(a it:Addr):Turn P w K tg (Uh K a) [it] it (λi h=>h.IsTupleIter it a i) where
 mem:=by simp
 obj:=λi h st b hb=>by
  have e:b=it:=by simpa using hb
  subst e
  obtain⟨o,e,c,d⟩:=st
  exact⟨o,e,λv z=>by rw[d]at z;cases z⟩
 keep:=λi h h' st k=>st.at λo e=>k it (by simp) o e
 item:=by
  intro X hP hw hK hc i pins s σ H E I hf st hg
  subst hP hw hK
  obtain⟨xs,x,hq,hx⟩:=hg
  obtain⟨its,rv,p,hz⟩:=I.tuple hq
  obtain⟨u,hu,ru⟩:=rv.get hx
  obtain⟨f0,f1,f2,f3,f4,f5⟩:=hf it (by simp)
  refine wpAny_pyNext_tuple_item st (show s.heap.IsTuple a its.toArray from p) (x:=u) (by simpa using hu) λh' st' sb=> ?_
  have I1:Inv X pins σ H {s with heap:=h'}:=I.turned (t':=s.toks) (λb o hb e=>(sb.2 b hb).trans e) f0 f1 f3 f4 f5
  obtain⟨o,e,c,d⟩:=id st'
  exact⟨u,rfl,HF (s:={s with heap:=h'}) e c d (by decide) ⟨x,H,I1,ru,⟨rfl,λys hy=>by rw[I.EF hy hq];exact hx⟩,st',λb hb=>(hf b hb).1⟩⟩
 done:=by
  intro X hP hw hK hc i pins s σ H E I hf st hg
  subst hP hw hK
  obtain⟨xs,hq,hx⟩:=hg
  obtain⟨its,rv,p,hz⟩:=I.tuple hq
  obtain⟨f0,f1,f2,f3,f4,f5⟩:=hf it (by simp)
  have hl:=rv.length
  exact wpAny_pyNext_tuple_end (I.ok.hd hc) st (show s.heap.IsTuple a its.toArray from p) (by simp;omega) λh' eb=>⟨rfl,I.turned (t':=s.toks) (λb o hb e=>eb b o hb e) f0 f1 f3 f4 f5⟩
 self:=λ_ _ _ _ _ st h=>wpAny_pyIter_tupleiter st h
theorem BJ{P:Program}{w:World}{K:PySem.W.Frag}{tg:Expr}(it:Addr)(lo:Int)(n:Nat):Turn P w K tg (Dz lo n) [it] it (λi h=>IsRangeIter h it (lo+(i:Nat)*1) ((n:Int) - (i:Nat)) 1) where
 mem:=by simp
 obj:=λi h st b hb=>by
  have e:b=it:=by simpa using hb
  subst e
  exact⟨_,st,λv z=>by
   have z':Data.fields _=Data.cell v:=z
   cases z'⟩
 keep:=λi h h' st k=>k it (by simp) _ st
 item:=by
  intro X hP hw hK hc i pins s σ H E I hf st hg
  subst hP hw hK
  obtain⟨f0,f1,f2,f3,f4,f5⟩:=hf it (by simp)
  have W:=Walks.range (prog:=X.prog) (w:=X.w) (I.ok.hd hc) it lo 1 n
  refine W.item i s _ _ hg st λv h' tk hv st' kk=> ?_
  obtain⟨t,rfl⟩:=hv
  have I1:Inv X pins σ H {s with heap:=h',toks:=tk}:=I.turned (λb o hb e=>kk b o (by simpa using hb) e) f0 f1 f3 f4 f5
  refine⟨_,rfl,HF (s:={s with heap:=h',toks:=tk}) (n:= "range_iterator") st' rfl rfl (by decide) ⟨.int (lo+i),H,I1,⟨t,?_⟩,⟨rfl,rfl⟩,st',λb hb=>(hf b hb).1⟩⟩
  rw[Int.mul_one]
 done:=by
  intro X hP hw hK hc i pins s σ H E I hf st hg
  subst hP hw hK
  obtain⟨f0,f1,f2,f3,f4,f5⟩:=hf it (by simp)
  exact wpAny_pyNext_range_end (I.ok.hd hc) st (by have:n<=i:=hg;omega) λh' eb=>⟨rfl,I.turned (t':=s.toks) (λb o hb e=>eb b o hb e) f0 f1 f3 f4 f5⟩
 self:=λ_ _ _ _ _ st h=>wpAny_pyIter_rangeiter st h
section
variable{X:Cx}{tg:Expr}
def z6(K:PySem.W.Frag)(tl:TE):TI:=λσ H R=>tl σ H λx H1=> ∃a,x= .ref a/\(∃xs,aS K H1 a xs)/\R (NK K a) H1
def Ui(K:PySem.W.Frag)(tl:TE):TI:=λσ H R=>tl σ H λx H1=> ∃a,x= .ref a/\(∃xs,pN K H1 a xs)/\R (Uh K a) H1
theorem cJ{l:Expr}{tl:TE}(hl:PE X l tl):PI X tg l (z6 X.K tl):=by
 intro pins s σ H R I h
 refine fN (hl pins s σ H _ I h) λv s1 ⟨x,H1,I1,r1,q1⟩=> ?_
 obtain⟨a,e,⟨xs,hq⟩,q⟩:=q1
 subst e
 cases r1
 obtain⟨its,rv,p,hz⟩:=I1.list hq
 refine wpAny_pyIter_list p.isList ?_
 refine⟨s1.heap.objs.size,[s1.heap.objs.size],_,_,H1,rfl,I1.kept (t':=s1.toks) λb o e=>Heap.get?_push_of_some _ e,EG a _,⟨_,Heap.get?_push_size _ rfl,rfl,rfl⟩,λb hb=> ?_,q⟩
 have e:b=s1.heap.objs.size:=by simpa using hb
 subst e
 exact I1.BH (Nat.le_refl _) (I1.hok.fresh (Nat.le_refl _))
theorem OG{l:Expr}{tl:TE}(hl:PE X l tl):PI X tg l (Ui X.K tl):=by
 intro pins s σ H R I h
 refine fN (hl pins s σ H _ I h) λv s1 ⟨x,H1,I1,r1,q1⟩=> ?_
 obtain⟨a,e,⟨xs,hq⟩,q⟩:=q1
 subst e
 cases r1
 obtain⟨its,rv,p,hz⟩:=I1.tuple hq
 refine wpAny_pyIter_tuple (show s1.heap.IsTuple a its.toArray from p) ?_
 refine⟨s1.heap.objs.size,[s1.heap.objs.size],_,_,H1,rfl,I1.kept (t':=s1.toks) λb o e=>Heap.get?_push_of_some _ e,BI a _,⟨_,Heap.get?_push_size _ rfl,rfl,rfl⟩,λb hb=> ?_,q⟩
 have e:b=s1.heap.objs.size:=by simpa using hb
 subst e
 exact I1.BH (Nat.le_refl _) (I1.hok.fresh (Nat.le_refl _))
theorem z8{pins:List (Addr×Obj)}{σ:St}{H:Hp}{s:Shared}{R:It->Hp->Prop}{E:Value->Shared->Prop}{lo hi:Int}{t u v:Tok}{tk:Nat}(I:Inv X pins σ H s)(h1: -(2^62)<=lo)(h2:lo<2^62)(h3: -(2^62)<=hi)(h4:hi<2^62)
  (q:R (Dz lo (hi-lo).toNat) H):wpAny (model X.prog X.w) X.A (pyIter (.ref s.heap.objs.size)) (VT X pins σ tg R) E {s with heap:=s.heap.push {cls:= .type "range",data:= .fields #[.int lo t,.int hi u,.int 1 v]},toks:=tk}:=by
 refine wpAny_pyIter_range (IsRange.new ..) (small_one h1 h2 h3 h4) ?_
 have I1:Inv X pins σ H {s with heap:=s.heap.push {cls:= .type "range",data:= .fields #[.int lo t,.int hi u,.int 1 v]},toks:=tk}:=I.kept λb o e=>Heap.get?_push_of_some _ e
 refine⟨(s.heap.push {cls:= .type "range",data:= .fields #[.int lo t,.int hi u,.int 1 v]}).objs.size,[(s.heap.push {cls:= .type "range",data:= .fields #[.int lo t,.int hi u,.int 1 v]}).objs.size],_,_,H,rfl,
  I1.kept (t':=tk) λb o e=>Heap.get?_push_of_some _ e,BJ _ lo (hi-lo).toNat,?_,λb hb=> ?_,q⟩
 ·have e1:lo+((0:Nat):Int)*1=lo:=by simp
  have e2:(((hi-lo).toNat:Nat):Int) - ((0:Nat):Int)=Builtin.Range.rangeSize lo hi 1:=by rw[rangeSize_one];split<;>omega
  show IsRangeIter _ _ (lo+((0:Nat):Int)*1) ((((hi-lo).toNat:Nat):Int) - ((0:Nat):Int)) 1
  rw[e1,e2]
  exact Heap.get?_push_size _ rfl
 ·have e:b=(s.heap.push {cls:= .type "range",data:= .fields #[.int lo t,.int hi u,.int 1 v]}).objs.size:=by simpa using hb
  subst e
  exact I1.BH (Nat.le_refl _) (I1.hok.fresh (Nat.le_refl _))
def sY(ta:TA):TI:=λσ H R=>ta σ H λvs H1=> ∃j:Int,vs=[.int j]/\ -(2^62)<=j/\j<2^62/\R (Dz 0 j.toNat) H1
def QV(ta:TA):TI:=λσ H R=>ta σ H λvs H1=> ∃i j:Int,vs=[.int i,.int j]/\(-(2^62)<=i/\i<2^62/\ -(2^62)<=j/\j<2^62)/\R (Dz i (j-i).toNat) H1
theorem bg{a:Expr}{ta:TA}{p pos:Pos}(hg:Gl X "range")(hm:X.mg "range"=none)(ha:PA X [a] ta)(hs:starEach [a] X.env=[(false,eval a X.env)]:=by rfl):PI X tg (.Call (.Name "range" p) [a] [] pos) (sY ta):=by
 intro pins s σ H R I h
 refine Call_ (jU I hg hm boot_range (PyProof.Rows.callWith_type1 (fN (ha pos pins s σ H _ I h) λus s1 ⟨vs,H1,I1,r1,q1⟩=> ?_) hs rfl))
 obtain⟨j,e,q1,q2,q⟩:=q1
 subst e
 cases r1 with
 |cons r rr=>
  cases rr
  obtain⟨t,rfl⟩:=r
  exact call_range_1 (z8 I1 (by omega) (by omega) q1 q2 (by simpa using q))
theorem xH{a b:Expr}{ta:TA}{p pos:Pos}(hg:Gl X "range")(hm:X.mg "range"=none)(ha:PA X [a,b] ta)(hs:starEach [a,b] X.env=[(false,eval a X.env),(false,eval b X.env)]:=by rfl)(hs2:starEach [b] X.env=[(false,eval b X.env)]:=by rfl):
  PI X tg (.Call (.Name "range" p) [a,b] [] pos) (QV ta):=by
 intro pins s σ H R I h
 refine Call_ (jU I hg hm boot_range (PyProof.Rows.callWith_type1 (fN (ha pos pins s σ H _ I h) λus s1 ⟨vs,H1,I1,r1,q1⟩=> ?_) (by rw[hs,hs2]) (by rw[hs2];rfl)))
 obtain⟨i,j,e,⟨q1,q2,q3,q4⟩,q⟩:=q1
 subst e
 cases r1 with
 |cons r rr=>
  cases rr with
  |cons r' rr=>
   cases rr
   obtain⟨t,rfl⟩:=r
   obtain⟨t',rfl⟩:=r'
   exact call_range_2 (z8 I1 q1 q2 q3 q4 q)
def Uj(wi:TI)(g:TG)(tb:TS):TS:=λD σ H=>wi σ H λJ H1=> ∃W:Nat->Nat->St->Hp->Prop,(∃m,W 0 m σ H1)/\ ∀i m σ H,W i m σ H->
 (J.stop i H/\D.nx σ H)∨(J.go i H/\ ∃N:St->Hp->Prop,(∀σ' H',N σ' H'-> ∃m',m'<m/\W (i+1) m' σ' H')/\ ∀x H',J.wL i H x H'->g x σ H' λσ2 H2=>tb {D with nx:=N,ct:=N,bk:=D.nx} σ2 H2)
def bX(fp:List Addr)(h:Heap):List (Addr×Obj):=fp.filterMap λb=>(h.get? b).map λo=>(b,o)
theorem bC{fp:List Addr}{h:Heap}{b:Addr}{o:Obj}(hb:b∈fp)(e:h.get? b=some o):(b,o)∈bX fp h:=List.mem_filterMap.mpr ⟨b,hb,by rw[e];rfl⟩
theorem jQ{fp:List Addr}{h:Heap}{p:Addr×Obj}(hp:p∈bX fp h):p.1∈fp/\h.get? p.1=some p.2:=by
 obtain⟨b,hb,e⟩:=List.mem_filterMap.mp hp
 cases q:h.get? b with
 |none=>rw[q]at e;cases e
 |some o=>
  rw[q]at e
  have e':(b,o)=p:=Option.some.inj e
  subst e'
  exact⟨hb,q⟩
theorem Inv.pinned{pins:List (Addr×Obj)}{σ:St}{H:Hp}{s:Shared}{fp:List Addr}(I:Inv X pins σ H s)(hf:∀b∈fp,ff X pins H b)(ho:∀b∈fp,∃o,s.heap.get? b=some o/\ ∀v,o.data≠ .cell v):Inv X (pins++bX fp s.heap) σ H s:=
 I.jK λp hp=>(List.mem_append.mp hp).elim (λz=>I.pin p (List.mem_append_right _ z)) λz=>by
  obtain⟨hb,e⟩:=jQ z
  obtain⟨f0,f1,f2,_⟩:=hf p.1 hb
  obtain⟨o,e',d⟩:=ho p.1 hb
  rw[e]at e';cases e'
  exact⟨e,f0,f1,f2,d⟩
theorem Inv.ig{pins pl:List (Addr×Obj)}{σ:St}{H:Hp}{s:Shared}(I:Inv X (pins++pl) σ H s):Inv X pins σ H s:=I.jK λp hp=>I.pin p (List.mem_append_right _ (List.mem_append_left _ hp))
theorem jm{iter:Expr}{body:List Stmt}{wi:TI}{g:TG}{tb:TS}{pos:Pos}(hp:PassesOwn (model X.prog X.w) X.A X.env X.xe)(hc:X.calm=true)(hi:PI X tg iter wi)(hg:PG X tg g)(hb:yp X body tb)
  (hs:∀x,foldedSetIterable iter X.env x=pure x:=by intro _;rfl):PS X (.For tg iter body [] pos) (Uj wi g tb):=by
 intro pins s σ H D I h
 refine wpAny_For (fN (hi pins s σ H _ I h) λv s1 h1=>fN h1 λitv s2 h2=> ?_) hs
 obtain⟨it,fp,tn,J,H2,e,I2,T,st2,f2,W,⟨m0,w0⟩,turn⟩:=h2
 subst e
 have OH:∀{H':Hp},(∀b∈fp,H' b=none) -> ∀b∈fp,ff X pins H' b:=λhn b hb=>⟨hn b hb,(f2 b hb).2⟩
 refine codeAny_forLoop_any (λn s'=> ∃i σ' H',Inv X pins σ' H' s'/\tn i s'.heap/\(∀b∈fp,H' b=none)/\W i n σ' H') ?_ m0 ⟨0,σ,H2,I2,st2,λb hb=>(f2 b hb).1,w0⟩
 rintro n s3 ⟨i,σ3,H3,I3,st3,Lq,w3⟩
 rcases turn i n σ3 H3 w3 with⟨stop,qn⟩|⟨go,N,hN,step⟩
 ·refine wpAny_passesOwn hp (fN (T.done X rfl rfl rfl hc i pins s3 σ3 H3 X.xe I3 (OH Lq) st3 stop) λr s4 ⟨hr,I4⟩=> ?_)
  subst hr
  exact wpAny_execs_nil ⟨σ3,H3,I4,qn⟩
 ·refine wpAny_passesOwn hp (fN (T.item X rfl rfl rfl hc i pins s3 σ3 H3 X.xe I3 (OH Lq) st3 go) λr s4 ⟨u,hr,h4⟩=> ?_)
  subst hr
  refine wpAny_passesOwn hp (fN h4 λ_ s5 ⟨x,H5,I5,r5,y5,EH,QW⟩=> ?_)
  have QX:=I5.pinned (OH QW) (T.obj _ _ EH)
  refine wpAny_passesOwn hp (fN (hg _ s5 σ3 H5 x u _ QX r5 (step x H5 y5)) λ_ s6 ⟨HG,H6,I6,q6⟩=> ?_)
  refine wpAny_passesOwn hp (fN (hb _ s6 HG H6 _ I6 q6) λf s7 q7=> ?_)
  have again:∀{HH:St} {H7:Hp},Inv X (pins++bX fp s5.heap) HH H7 s7->N HH H7-> ∃m,m<n/\ ∃i σ' H',Inv X pins σ' H' s7/\tn i s7.heap/\(∀b∈fp,H' b=none)/\W i m σ' H':=λ {HH H7} I7 n7=>by
   obtain⟨m',hm,w7⟩:=hN HH H7 n7
   refine⟨m',hm,i+1,HH,H7,I7.ig,T.keep _ _ _ EH λb hb o e=>(I7.pin (b,o) (List.mem_append_right _ (List.mem_append_right _ (bC hb e)))).1,λb hb=> ?_,w7⟩
   obtain⟨o,e,d⟩:=T.obj _ _ EH b hb
   exact(I7.pin (b,o) (List.mem_append_right _ (List.mem_append_right _ (bC hb e)))).2.1
  cases f with
  |next=>obtain⟨HH,H7,I7,n7⟩:=q7;exact again I7 n7
  |cont=>obtain⟨HH,H7,I7,n7⟩:=q7;exact again I7 n7
  |brk=>obtain⟨HH,H7,I7,q7⟩:=q7;exact⟨HH,H7,I7.ig,q7⟩
  |ret v=>obtain⟨x7,HH,H7,I7,r7,q7⟩:=q7;exact⟨x7,HH,H7,I7.ig,r7,q7⟩
end
theorem HJ{K:PySem.W.Frag}{a:Addr}{xs:List V}{g:TG}{tb:TS}{D:Ends}{σ:St}{H:Hp}(Pv:Nat->St->Hp->Prop)(h0:Pv 0 σ H)(hl:∀i σ H,i<=xs.length->Pv i σ H->aS K H a xs)
  (hs:∀i x σ H,xs[i]?=some x->Pv i σ H->g x σ H λσ2 H2=>tb {D with nx:=Pv (i+1),ct:=Pv (i+1),bk:=D.nx} σ2 H2)(hd:∀σ H,Pv xs.length σ H->D.nx σ H):
  ∃W:Nat->Nat->St->Hp->Prop,(∃m,W 0 m σ H)/\ ∀i m σ H,W i m σ H->
   ((NK K a).stop i H/\D.nx σ H)∨((NK K a).go i H/\ ∃N:St->Hp->Prop,(∀σ' H',N σ' H'-> ∃m',m'<m/\W (i+1) m' σ' H')/\ ∀x H',(NK K a).wL i H x H'->g x σ H' λσ2 H2=>tb {D with nx:=N,ct:=N,bk:=D.nx} σ2 H2):=by
 refine⟨λi m σ H=>m=xs.length-i/\i<=xs.length/\Pv i σ H,⟨xs.length,by simp,Nat.zero_le _,h0⟩,?_⟩
 rintro i m σ H ⟨rfl,hi,p⟩
 have q:=hl i σ H hi p
 by_cases hlt:i<xs.length
 ·refine .inr ⟨⟨xs,xs[i],q,by simp[hlt]⟩,Pv (i+1),λσ' H' p'=>⟨xs.length- (i+1),by omega,rfl,hlt,p'⟩,λx H' y=> ?_⟩
  obtain⟨e,y⟩:=y
  subst e
  exact hs i x σ _ (y xs q) p
 ·have e:i=xs.length:=by omega
  subst e
  exact .inl ⟨⟨xs,q,Nat.le_refl _⟩,hd σ H p⟩
theorem fh{lo:Int}{n:Nat}{g:TG}{tb:TS}{D:Ends}{σ:St}{H:Hp}(Pv:Nat->St->Hp->Prop)(h0:Pv 0 σ H)
  (hs:∀i σ H,i<n->Pv i σ H->g (.int (lo+i)) σ H λσ2 H2=>tb {D with nx:=Pv (i+1),ct:=Pv (i+1),bk:=D.nx} σ2 H2)(hd:∀σ H,Pv n σ H->D.nx σ H):
  ∃W:Nat->Nat->St->Hp->Prop,(∃m,W 0 m σ H)/\ ∀i m σ H,W i m σ H->
   ((Dz lo n).stop i H/\D.nx σ H)∨((Dz lo n).go i H/\ ∃N:St->Hp->Prop,(∀σ' H',N σ' H'-> ∃m',m'<m/\W (i+1) m' σ' H')/\ ∀x H',(Dz lo n).wL i H x H'->g x σ H' λσ2 H2=>tb {D with nx:=N,ct:=N,bk:=D.nx} σ2 H2):=by
 refine⟨λi m σ H=>m=n-i/\i<=n/\Pv i σ H,⟨n,by simp,Nat.zero_le _,h0⟩,?_⟩
 rintro i m σ H ⟨rfl,hi,p⟩
 by_cases hlt:i<n
 ·refine .inr ⟨hlt,Pv (i+1),λσ' H' p'=>⟨n- (i+1),by omega,rfl,hlt,p'⟩,λx H' y=> ?_⟩
  obtain⟨e,y⟩:=y
  subst e y
  exact hs i σ _ hlt p
 ·have e:i=n:=by omega
  subst e
  exact .inl ⟨Nat.le_refl _,hd σ H p⟩
theorem HK{c:TT}{tb:TS}{D:Ends}{σ:St}{H:Hp}(Pv:St->Hp->Prop)(μ:St->Hp->Nat)(h0:Pv σ H)
  (hs:∀σ H,Pv σ H->c σ H λb H1=>if b=true then tb {D with nx:=λσ' H'=>Pv σ' H'/\μ σ' H'<μ σ H,ct:=λσ' H'=>Pv σ' H'/\μ σ' H'<μ σ H,bk:=D.nx} σ H1 else D.nx σ H1)
  (mono:∀σ H Q Q',(∀b H1,Q b H1->Q' b H1) ->c σ H Q->c σ H Q'):HD c tb D σ H:=by
 refine⟨λm σ H=>m=μ σ H/\Pv σ H,⟨_,rfl,h0⟩,?_⟩
 rintro m σ H ⟨rfl,p⟩
 refine mono σ H _ _ (λb H1 q=> ?_) (hs σ H p)
 cases b with
 |true=>exact⟨_,λσ' H' ⟨p',l⟩=>⟨_,l,rfl,p'⟩,q⟩
 |false=>exact q
abbrev R2:=V->V->Hp->VK->Prop
def tN(X:Cx)(f:Value->Value->Sem Value)(r:R2):Prop:=
 ∀(pins:List (Addr×Obj)) (s:Shared) (σ:St) (H:Hp) (x y:V) (v u:Value) (Q:VK),Inv X pins σ H s->RelV x v->RelV y u->r x y H Q->
  wpAny (model X.prog X.w) X.A (f v u) (EP X pins σ Q) X.xe s
def Uk(X:Cx)(f:Value->Sem Value)(r:V->Hp->VK->Prop):Prop:=
 ∀(pins:List (Addr×Obj)) (s:Shared) (σ:St) (H:Hp) (x:V) (v:Value) (Q:VK),Inv X pins σ H s->RelV x v->r x H Q->
  wpAny (model X.prog X.w) X.A (f v) (EP X pins σ Q) X.xe s
def nZ(X:Cx)(f:Value)(r:List V->Hp->VK->Prop):Prop:=
 ∀(pins:List (Addr×Obj)) (s:Shared) (σ:St) (H:Hp) (xs:List V) (us:List Value) (Q:VK),Inv X pins σ H s->Vals xs us->r xs H Q->
  wpAny (model X.prog X.w) X.A (call f us) (EP X pins σ Q) X.xe s
def Ul(X:Cx)(r:V->Hp->(Bool->Hp->Prop) ->Prop):Prop:=
 ∀(pins:List (Addr×Obj)) (s:Shared) (σ:St) (H:Hp) (x:V) (v:Value) (Q:Bool->Hp->Prop),Inv X pins σ H s->RelV x v->r x H Q->
  wpAny (model X.prog X.w) X.A (truthy v) (TP X pins σ Q) X.xe s
def dH(r:R2)(ta tb:TE):TE:=λσ H Q=>ta σ H λx H1=>tb σ H1 λy H2=>r x y H2 Q
def Xo(r:V->Hp->VK->Prop)(ta:TE):TE:=λσ H Q=>ta σ H λx H1=>r x H1 Q
def rI(C:Int->Int->Prop)(g:Int->Int->V):R2:=λx y H Q=> ∃i j,x= .int i/\y= .int j/\C i j/\Q (g i j) H
def z9(g:Int->Int->V):R2:=λx y H Q=> ∃i j,x= .int i/\y= .int j/\Q (g i j) H
def rU(g:Int->V):V->Hp->VK->Prop:=λx H Q=> ∃i,x= .int i/\Q (g i) H
section
variable{X:Cx}{a b c:Expr}{ta tb tc:TE}{pos:Pos}
theorem OI(ha:PE X a ta)(hb:PE X b tb){pins:List (Addr×Obj)}{s:Shared}{σ:St}{H:Hp}{R:V->V->Hp->Prop}(I:Inv X pins σ H s)
  (h:ta σ H λx H1=>tb σ H1 λy H2=>R x y H2){Q:Value->Shared->Prop}{f:Value->Value->Sem Value}
  (hf:∀v u s2 x y H2,Inv X pins σ H2 s2->RelV x v->RelV y u->R x y H2->wpAny (model X.prog X.w) X.A (f v u) Q X.xe s2):
  wpAny (model X.prog X.w) X.A (eval a X.env) (λv s₁=>wpAny (model X.prog X.w) X.A (eval b X.env) (λu s₂=>wpAny (model X.prog X.w) X.A (f v u) Q X.xe s₂) X.xe s₁) X.xe s:=by
 refine fN (ha pins s σ H _ I h) λv s1 ⟨x,H1,I1,r1,q1⟩=> ?_
 refine fN (hb pins s1 σ H1 _ I1 q1) λu s2 ⟨y,H2,I2,r2,q2⟩=> ?_
 exact hf v u s2 x y H2 I2 r1 r2 q2
theorem av{op:Operator}{r:R2}(ho:tN X (binaryOp op) r)(ha:PE X a ta)(hb:PE X b tb):PE X (.BinOp a op b pos) (dH r ta tb):=by
 intro pins s σ H Q I h
 exact wpAny_BinOp (OI ha hb I h λv u s2 x y H2 I2 rx ry q=>ho pins s2 σ H2 x y v u Q I2 rx ry q)
theorem NL{op:UnaryOp}{r:V->Hp->VK->Prop}(ho:Uk X (unaryOp op) r)(ha:PE X a ta):PE X (.UnaryOp op a pos) (Xo r ta):=by
 intro pins s σ H Q I h
 exact UnaryOp_ (fN (ha pins s σ H _ I h) λv s1 ⟨x,H1,I1,r1,q1⟩=>ho pins s1 σ H1 x v Q I1 r1 q1)
theorem OJ{f:Value->Value->Sem Value}{C:Int->Int->Prop}{g:Int->Int->Int}
  (rule:∀(i j:Int) (t u:Tok) (s:Shared) (Q:Value->Shared->Prop) (E:Value->Shared->Prop),C i j->Q (.int (g i j) s.toks) {s with toks:=s.toks+1} ->wpAny (model X.prog X.w) X.A (f (.int i t) (.int j u)) Q E s):
  tN X f (rI C λi j=> .int (g i j)):=by
 intro pins s σ H x y v u Q I rx ry h
 obtain⟨i,j,rfl,rfl,hc,q⟩:=h
 obtain⟨t,rfl⟩:=rx
 obtain⟨t',rfl⟩:=ry
 exact rule i j t t' s _ _ hc ⟨.int (g i j),H,I.tok _,⟨_,rfl⟩,q⟩
theorem QY{f:Value->Value->Sem Value}{g:Int->Int->Int}
  (rule:∀(i j:Int) (t u:Tok) (s:Shared) (Q:Value->Shared->Prop) (E:Value->Shared->Prop),Q (.int (g i j) s.toks) {s with toks:=s.toks+1} ->wpAny (model X.prog X.w) X.A (f (.int i t) (.int j u)) Q E s):
  tN X f (z9 λi j=> .int (g i j)):=by
 intro pins s σ H x y v u Q I rx ry h
 obtain⟨i,j,rfl,rfl,q⟩:=h
 obtain⟨t,rfl⟩:=rx
 obtain⟨t',rfl⟩:=ry
 exact rule i j t t' s _ _ ⟨.int (g i j),H,I.tok _,⟨_,rfl⟩,q⟩
theorem LK{f:Value->Value->Sem Value}{g:Int->Int->Bool}
  (rule:∀(i j:Int) (t u:Tok) (s:Shared) (Q:Value->Shared->Prop) (E:Value->Shared->Prop),Q (.bool (g i j)) s->wpAny (model X.prog X.w) X.A (f (.int i t) (.int j u)) Q E s):
  tN X f (z9 λi j=> .bl (g i j)):=by
 intro pins s σ H x y v u Q I rx ry h
 obtain⟨i,j,rfl,rfl,q⟩:=h
 obtain⟨t,rfl⟩:=rx
 obtain⟨t',rfl⟩:=ry
 exact rule i j t t' s _ _ ⟨.bl (g i j),H,I,rfl,q⟩
def Um(i j:Int):Prop:=0<j/\j<1073741824
def Uo(i j:Int):Prop:=0<=j/\j<=1000000/\i.natAbs<2^64
def rC(i j:Int):Prop:=(-(2^64)<i/\i<2^64)∨(-(2^64)<j/\j<2^64)
theorem rC.ok{i j:Int}(h:rC i j):IntMulOk i j:=by
 rcases h with⟨h1,h2⟩|⟨h1,h2⟩
 ·exact .of_left (intBits_le_64 h1 h2)
 ·exact .of_right (intBits_le_64 h1 h2)
theorem cV:tN X (binaryOp .Add) (z9 λi j=> .int (i+j)):=QY λ_ _ _ _ _ _ _ q=>add_int q
theorem fm:tN X (binaryOp .Sub) (z9 λi j=> .int (i-j)):=QY λ_ _ _ _ _ _ _ q=>sub_int q
theorem bQ:tN X (binaryOp .Mult) (rI rC λi j=> .int (i*j)):=OJ λ_ _ _ _ _ _ _ hc q=>mul_int q hc.ok
theorem fE:tN X (binaryOp .FloorDiv) (rI Um λi j=> .int (i/j)):=OJ λi j _ _ _ _ _ hc q=>by
 have h1:(0:Int)<j:=hc.1
 have h2:j<1073741824:=hc.2
 exact floordiv_int (by omega) (by rw[Int.fdiv_eq_ediv_of_nonneg i (by omega)];exact q) (.inl (PyProof.noPylong_small (by omega)))
theorem cH:tN X (binaryOp .Mod) (rI (λ_ j=>0<j) λi j=> .int (i%j)):=OJ λi j _ _ _ _ _ hc q=>by
 have h1:(0:Int)<j:=hc
 exact mod_int' (by omega) (by rw[Int.fmod_eq_emod_of_nonneg i (by omega)];exact q)
theorem HL:tN X (binaryOp .Pow) (rI Uo λi j=> .int (i^j.toNat)):=OJ λ_ _ _ _ _ _ _ hc q=>pow_int_small hc.1 hc.2.1 hc.2.2 q
theorem Xp{f:Value->Sem Value}{g:Int->Int}
  (rule:∀(i:Int) (t:Tok) (s:Shared) (Q:Value->Shared->Prop) (E:Value->Shared->Prop),Q (.int (g i) s.toks) {s with toks:=s.toks+1} ->wpAny (model X.prog X.w) X.A (f (.int i t)) Q E s):
  Uk X f (rU λi=> .int (g i)):=by
 intro pins s σ H x v Q I rx h
 obtain⟨i,rfl,q⟩:=h
 obtain⟨t,rfl⟩:=rx
 exact rule i t s _ _ ⟨.int (g i),H,I.tok _,⟨_,rfl⟩,q⟩
theorem HM:Uk X (unaryOp .USub) (rU λi=> .int (-i)):=Xp λ_ _ _ _ _ q=>neg_int q
end
def QZ:V->V->Bool
 | .gP,.gP=>true| .gP,.int _=>true| .int _,.gP=>true| .gP,.bl _=>true| .bl _,.gP=>true| .gP,.str _=>true| .str _,.gP=>true
 | .int _,.int _=>true| .bl _,.bl _=>true| .str _,.str _=>true| .EB _,.EB _=>true
 | .int _,.str _=>true| .str _,.int _=>true| .bl _,.str _=>true| .str _,.bl _=>true
 |_,_=>false
def DA:R2:=λx y H Q=>QZ x y=true/\Q (.bl (decide (x=y))) H
def NN:R2:=λx y H Q=>QZ x y=true/\Q (.bl (!decide (x=y))) H
theorem DB{i j:Int}:decide (V.int i=V.int j)=(i==j):=by
 rw[Bool.eq_iff_iff]
 simp
theorem HN{i j:Bool}:decide (V.bl i=V.bl j)=(i==j):=by
 rw[Bool.eq_iff_iff]
 simp
theorem DC{i j:Str}:decide (V.str i=V.str j)=(i==j):=by
 rw[Bool.eq_iff_iff]
 simp
theorem DE{i j:Array UInt8}:decide (V.EB i=V.EB j)=(i.toList==j.toList):=by
 rw[Bool.eq_iff_iff]
 cases i
 cases j
 simp
section
variable{X:Cx}{a b c:Expr}{ta tb tc:TE}{pos:Pos}
theorem cX{pins:List (Addr×Obj)}{σ:St}{H:Hp}{s:Shared}{Q:VK}{k k':Bool}(I:Inv X pins σ H s)(q:Q (.bl k) H)(e:k=k'):EP X pins σ Q (.bool k') s:=by
 subst e
 exact⟨.bl k,H,I,rfl,q⟩
theorem f6:tN X (compareOp .Eq) DA:=by
 intro pins s σ H x y v u Q I rx ry h
 obtain⟨hs,q⟩:=h
 cases x with
 |gP=>
  cases rx
  cases y with
  |gP=>cases ry;exact PySem.EqNone.eq_none_none (cX I q (by simp))
  |bl j=>cases ry;exact PySem.EqNone.eq_none_bool (cX I q (by simp))
  |int j=>obtain⟨t',rfl⟩:=ry;exact PySem.EqNone.eq_none_int (cX I q (by simp))
  |str j=>obtain⟨t',rfl⟩:=ry;exact PySem.EqNone.eq_none_str (cX I q (by simp))
  |_=>exact absurd (show false=true from hs) Bool.false_ne_true
 |bl i=>
  cases rx
  cases y with
  |gP=>cases ry;exact PySem.EqNone.eq_bool_none (cX I q (by simp))
  |bl j=>cases ry;exact eq_bool (cX I q HN)
  |str j=>obtain⟨t',rfl⟩:=ry;exact PySem.EqMixed.eq_bool_str (cX I q (by simp))
  |_=>exact absurd (show false=true from hs) Bool.false_ne_true
 |int i=>
  obtain⟨t,rfl⟩:=rx
  cases y with
  |gP=>cases ry;exact PySem.EqNone.eq_int_none (cX I q (by simp))
  |int j=>obtain⟨t',rfl⟩:=ry;exact eq_int (cX I q DB)
  |str j=>obtain⟨t',rfl⟩:=ry;exact PySem.EqMixed.eq_int_str (cX I q (by simp))
  |_=>exact absurd (show false=true from hs) Bool.false_ne_true
 |str i=>
  obtain⟨t,rfl⟩:=rx
  cases y with
  |gP=>cases ry;exact PySem.EqNone.eq_str_none (cX I q (by simp))
  |bl j=>cases ry;exact PySem.EqMixed.eq_str_bool (cX I q (by simp))
  |int j=>obtain⟨t',rfl⟩:=ry;exact PySem.EqMixed.eq_str_int (cX I q (by simp))
  |str j=>obtain⟨t',rfl⟩:=ry;exact eq_str (cX I q DC)
  |_=>exact absurd (show false=true from hs) Bool.false_ne_true
 |EB i=>
  obtain⟨t,rfl⟩:=rx
  cases y with
  |EB j=>obtain⟨t',rfl⟩:=ry;exact PySem.W.eq_bytes (cX I q DE)
  |_=>exact absurd (show false=true from hs) Bool.false_ne_true
 |_=>cases y<;>exact absurd (show false=true from hs) Bool.false_ne_true
theorem kQ:tN X (compareOp .NotEq) NN:=by
 intro pins s σ H x y v u Q I rx ry h
 obtain⟨hs,q⟩:=h
 cases x with
 |gP=>
  cases rx
  cases y with
  |gP=>cases ry;exact PySem.EqNone.ne_none_none (cX I q (by simp))
  |bl j=>cases ry;exact PySem.EqNone.ne_none_bool (cX I q (by simp))
  |int j=>obtain⟨t',rfl⟩:=ry;exact PySem.EqNone.ne_none_int (cX I q (by simp))
  |str j=>obtain⟨t',rfl⟩:=ry;exact PySem.EqNone.ne_none_str (cX I q (by simp))
  |_=>exact absurd (show false=true from hs) Bool.false_ne_true
 |bl i=>
  cases rx
  cases y with
  |gP=>cases ry;exact PySem.EqNone.ne_bool_none (cX I q (by simp))
  |bl j=>cases ry;exact ne_bool (cX I q (congrArg not HN))
  |str j=>obtain⟨t',rfl⟩:=ry;exact PySem.EqMixed.ne_bool_str (cX I q (by simp))
  |_=>exact absurd (show false=true from hs) Bool.false_ne_true
 |int i=>
  obtain⟨t,rfl⟩:=rx
  cases y with
  |gP=>cases ry;exact PySem.EqNone.ne_int_none (cX I q (by simp))
  |int j=>obtain⟨t',rfl⟩:=ry;exact ne_int (cX I q (congrArg not DB))
  |str j=>obtain⟨t',rfl⟩:=ry;exact PySem.EqMixed.ne_int_str (cX I q (by simp))
  |_=>exact absurd (show false=true from hs) Bool.false_ne_true
 |str i=>
  obtain⟨t,rfl⟩:=rx
  cases y with
  |gP=>cases ry;exact PySem.EqNone.ne_str_none (cX I q (by simp))
  |bl j=>cases ry;exact PySem.EqMixed.ne_str_bool (cX I q (by simp))
  |int j=>obtain⟨t',rfl⟩:=ry;exact PySem.EqMixed.ne_str_int (cX I q (by simp))
  |str j=>obtain⟨t',rfl⟩:=ry;exact ne_str (cX I q (congrArg not DC))
  |_=>exact absurd (show false=true from hs) Bool.false_ne_true
 |EB i=>
  obtain⟨t,rfl⟩:=rx
  cases y with
  |EB j=>obtain⟨t',rfl⟩:=ry;exact PySem.W.ne_bytes (cX I q (congrArg not DE))
  |_=>exact absurd (show false=true from hs) Bool.false_ne_true
 |_=>cases y<;>exact absurd (show false=true from hs) Bool.false_ne_true
theorem NO:tN X (compareOp .Lt) (z9 λi j=> .bl (decide (i<j))):=LK λ_ _ _ _ _ _ _ q=>lt_int q
theorem DF:tN X (compareOp .LtE) (z9 λi j=> .bl (decide (i<=j))):=LK λ_ _ _ _ _ _ _ q=>le_int q
theorem xJ:tN X (compareOp .Gt) (z9 λi j=> .bl (decide (j<i))):=LK λ_ _ _ _ _ _ _ q=>gt_int q
theorem Ra:tN X (compareOp .GtE) (z9 λi j=> .bl (decide (j<=i))):=LK λ_ _ _ _ _ _ _ q=>ge_int q
theorem OL:tN X (compareOp .Is) (λx y H Q=>y= .gP/\Q (.bl (decide (x= .gP))) H):=by
 intro pins s σ H x y v u Q I rx ry h
 obtain⟨rfl,q⟩:=h
 cases ry
 refine is_none_gen (cX I q ?_)
 cases x<;>first
  |(cases rx;rfl)
  |(obtain⟨t,rfl⟩:=rx;rfl)
theorem aZ(b:Expr){op:CmpOp}(h:op≠ .In:=by decide)(h2:op≠ .NotIn:=by decide):behindInMarks op b=false:=by
 have e1:(op==CmpOp.In)=false:=by cases op<;>first|rfl|exact absurd rfl h
 have e2:(op==CmpOp.NotIn)=false:=by cases op<;>first|rfl|exact absurd rfl h2
 cases b<;>simp[behindInMarks,e1,e2]
theorem d9{op:CmpOp}{r:R2}(ho:tN X (compareOp op) r)(ha:PE X a ta)(hb:PE X b tb)(hm:behindInMarks op b=false):PE X (.Compare a [op] [b] pos) (dH r ta tb):=by
 intro pins s σ H Q I h
 exact wpAny_Compare1 (OI ha hb I h λv u s2 x y H2 I2 rx ry q=>ho pins s2 σ H2 x y v u Q I2 rx ry q) hm
def lT(t:TE):TT:=λσ H Q=>t σ H λx H'=> ∃k,x= .bl k/\Q k H'
theorem bz{op:CmpOp}{r:R2}(ho:tN X (compareOp op) r)(ha:PE X a ta)(hb:PE X b tb)(hm:behindInMarks op b=false):PT X (.Compare a [op] [b] pos) (lT (dH r ta tb)):=by
 intro pins s σ H Q I h
 refine wpAny_isTrue_Compare1 (fN (ha pins s σ H _ I h) λv s1 ⟨x,H1,I1,r1,q1⟩=>fN (hb pins s1 σ H1 _ I1 q1) λu s2 ⟨y,H2,I2,r2,q2⟩=>
  fN (ho pins s2 σ H2 x y v u _ I2 r1 r2 q2) λc s3 ⟨z,H3,I3,r3,k,e,q3⟩=> ?_) hm
 subst e
 cases r3
 exact wpAny_truthy_bool ⟨H3,I3,q3⟩
def Rb(K:PySem.W.Frag)(x:V)(H:Hp)(k:Bool):Prop:=
 match x with
 | .gP=>k=false
 | .bl b=>k=b
 | .int i=>k=(i !=0)
 | .str y=>y.length<=sizeLine/\k=((y.length:Int) !=0)
 | .EB y=>y.size<=sizeLine/\k=((y.size:Int) !=0)
 | .ref p=>(∃xs,aS K H p xs/\k= !xs.isEmpty)∨(∃xs,pN K H p xs/\k= !xs.isEmpty)∨ ∃kvs,H p=some (.dK kvs)/\k= !kvs.isEmpty
 |_=>False
theorem BK{κ:Type}{kvs:List (κ×V)}{vs:List (κ×Value)}(r:KV kvs vs):(!vs.isEmpty)= !kvs.isEmpty:=by
 cases r<;>rfl
theorem uE{xs:List V}{its:List Value}(r:Vals xs its):(!its.toArray.isEmpty)= !xs.isEmpty:=by
 cases r<;>simp
theorem rD:(sizeLine:Nat)<2^63:=by rw[sizeLine_eq];decide
theorem OM:Ul X (λx H Q=> ∃k,Rb X.K x H k/\Q k H):=by
 intro pins s σ H x v Q I rx h
 obtain⟨k,e,q⟩:=h
 have hl:=rD
 have hs:sizeLine=16777216:=sizeLine_eq
 cases x with
 |gP=>
  cases rx
  have e':k=false:=e
  subst e'
  exact truthy_none ⟨H,I,q⟩
 |bl b=>
  cases rx
  have e':k=b:=e
  subst e'
  exact wpAny_truthy_bool ⟨H,I,q⟩
 |int i=>
  obtain⟨t,rfl⟩:=rx
  have e':k=(i !=0):=e
  subst e'
  exact PySem.P.truthy_int ⟨H,I,q⟩
 |str y=>
  obtain⟨t,rfl⟩:=rx
  obtain⟨hy,e'⟩:y.length<=sizeLine/\k=((y.length:Int) !=0):=e
  subst e'
  exact PySem.P.truthy_str (by omega) ⟨H,I.tok _,q⟩
 |EB y=>
  obtain⟨t,rfl⟩:=rx
  obtain⟨hy,e'⟩:y.size<=sizeLine/\k=((y.size:Int) !=0):=e
  subst e'
  exact PySem.W.truthy_bytes (by omega) ⟨H,I.tok _,q⟩
 |ref p=>
  cases rx
  have e':(∃xs,aS X.K H p xs/\k= !xs.isEmpty)∨(∃xs,pN X.K H p xs/\k= !xs.isEmpty)∨ ∃kvs,H p=some (.dK kvs)/\k= !kvs.isEmpty:=e
  rcases e' with⟨xs,hx,e'⟩|⟨xs,hx,e'⟩|⟨kvs,hx,e'⟩
  ·subst e'
   obtain⟨its,r,pl,hz⟩:=I.list hx
   have hlen:=r.length
   exact wpAny_truthy_list pl.isList (by simp only[List.size_toArray];omega) ⟨H,I.tok _,by rw[uE r];exact q⟩
  ·subst e'
   obtain⟨its,r,pl,hz⟩:=I.tuple hx
   have hlen:=r.length
   exact truthy_tuple pl (by simp only[List.size_toArray];omega) ⟨H,I.tok _,by rw[uE r];exact q⟩
  ·subst e'
   obtain⟨hz,hS,vs,r,m⟩:kvs.length<=sizeLine/\(p==sysModules)=false/\ ∃vs,KV kvs vs/\s.heap.DictOf (yj X.prog X.w) p vs:=I.hok p _ hx
   have hlen:kvs.length=vs.length:=Paired.length r
   exact wpAny_truthy_dict hS m (by omega) ⟨H,I.tok _,by rw[BK r];exact q⟩
 |_=>exact(show False from e).elim
theorem HP(ha:PE X a ta)(he:∀whole,isTrue a X.env whole=(do let v<-whole;standAt a.pos;holding [v] (truthy v))):
  PT X a (λσ H Q=>ta σ H λx H'=> ∃k,Rb X.K x H' k/\Q k H'):=by
 intro pins s σ H Q I h
 exact isTrue_plain (fN (ha pins s σ H _ I h) λv s1 ⟨x,H1,I1,r1,q1⟩=>OM pins s1 σ H1 x v Q I1 r1 q1) (he _)
theorem vals1{x:V}{us:List Value}(r:Vals [x] us):∃u,us=[u]/\RelV x u:=by
 cases r with
 |cons r1 r2=>cases r2;exact⟨_,rfl,r1⟩
theorem n5:nZ X (.builtin "abs") (λxs H Q=> ∃i,xs=[.int i]/\Q (.int (if i<0 then-i else i)) H):=by
 intro pins s σ H xs us Q I r h
 obtain⟨i,rfl,q⟩:=h
 obtain⟨u,rfl,t,rfl⟩:=vals1 r
 exact call_abs_int λu tk=>⟨.int (if i<0 then-i else i),H,I.tok _,⟨_,rfl⟩,q⟩
theorem pq:nZ X (.type "int") (λxs H Q=>(∃i,xs=[.int i]/\Q (.int i) H)∨ ∃k,xs=[.bl k]/\Q (.int (if k then 1 else 0)) H):=by
 intro pins s σ H xs us Q I r h
 rcases h with⟨i,rfl,q⟩|⟨k,rfl,q⟩
 ·obtain⟨u,rfl,t,rfl⟩:=vals1 r
  exact call_int_int ⟨.int i,H,I,⟨_,rfl⟩,q⟩
 ·obtain⟨u,rfl,r1⟩:=vals1 r
  cases r1
  exact call_int_bool ⟨.int (if k then 1 else 0),H,I.tok _,⟨_,rfl⟩,q⟩
end
structure ON(h:Heap)(x dx C:Addr)(mA:Str->Option Value):Prop where
 obj:h.get? x=some (PySem.W.instObj C dx)
 ns:h.Ns1 dx mA
 ne:dx≠x
theorem EI{h:Heap}{dx:Addr}{mA:Str->Option Value}(n:h.Ns1 dx mA):∃od,h.get? dx=some od/\ ∀name,PySem.W.lookIn name od=some (mA name):=by
 obtain⟨o,es,ep,ho,hd,hk,_,hm⟩:=n
 refine⟨o,ho,λname=> ?_⟩
 have e:=hm name
 unfold nsFind findBy at e
 rw[<-Array.find?_toList]at e
 unfold PySem.W.lookIn
 rw[hd]
 dsimp only
 split
 ·rename_i y q
  rw[q]at e
  exact congrArg some e
 ·rename_i q
  rw[q]at e
  have a:es.toList.any (·.refKey)=false:=by
   rw[List.any_eq_false]
   intro y hy
   obtain⟨z,t,hkey⟩:=hk y (Array.mem_toList_iff.mp hy)
   simp[DictEntry.refKey,hkey]
  have a':¬es.toList.any (·.refKey)=true:=by rw[a];exact Bool.false_ne_true
  rw[if_neg a']
  exact congrArg some e
theorem ON.look{h:Heap}{x dx C:Addr}{mA:Str->Option Value}(I:ON h x dx C mA):∃od,PySem.W.InstAt h x (PySem.W.instObj C dx) C (some od)/\ ∀name,PySem.W.lookIn name od=some (mA name):=
 let⟨od,ho,hl⟩:=EI I.ns
 ⟨od,⟨I.obj,rfl,rfl,ho⟩,hl⟩
section
variable{prog:Program}{w:World}{A:Around}{E:Value->Shared->Prop}{s:Shared}{K:PySem.W.Frag}{x dx C f:Addr}{mA:Str->Option Value}{name:Str}{v:Value}
end
section
variable{P:Program}{w:World}{H H':Hp}{h h':Heap}{a C dx:Addr}{fs fs':List (Str×V)}
theorem LL(hok:ue P w H h)(e:H a=some (.ins C dx fs)):∃mA,ON h a dx C mA/\(∀f,Ov (fs.lookup f) (mA f))/\PySem.Within mA (fs.map (·.1))/\fs.length<=1000/\H dx=some (.own a):=by
 obtain⟨d,z,ne,ob,mA,n,r,q⟩:=(show fO P w H h a (.ins C dx fs)from hok a _ e)
 exact⟨mA,⟨ob,n,ne⟩,r,q,z,d⟩
end
structure Up(K:PySem.W.Frag)(C:Addr):Prop where
 pg:PySem.W.plainGet K C Str.empty=true
 hd:PySem.W.hasDictIn K C=true
 po:PySem.W.plainOver K C=true
 sa:PySem.W.findIn K (.ref C) "__setattr__"=some (some (.builtin "object.__setattr__"))
theorem Up.get{K:PySem.W.Frag}{C:Addr}(c:Up K C)(f:Str):PySem.W.plainGet K C f=true:=c.pg
structure ZF(K:PySem.W.Frag)(C:Addr)(f:Str)(v:V)(u:Value):Prop where
 at_:PySem.W.findIn K (.ref C) f=some (some u)
 rel:RelV v u
 get:PySem.W.specialIn K u "__get__"=some none
 cp:PySem.W.copiedNames.contains f=false
structure Meth(K:PySem.W.Frag)(C:Addr)(m:Str)(f:Addr):Prop where
 at_:PySem.W.findIn K (.ref C) m=some (some (.ref f))
 fn:PySem.W.isFn K (.ref f)=true
 kp:PySem.W.keepIn K (.ref f)=true
section
variable{X:Cx}{pins:List (Addr×Obj)}{σ:St}{H:Hp}{s:Shared}{a C dx:Addr}{fs:List (Str×V)}{f:Str}{v:V}{A:Around}{E:Value->Shared->Prop}
end
section
variable{X:Cx}{o e value:Expr}{f:Str}{pos pos' tpos:Pos}{ta tv:TE}
end
section
variable{X:Cx}{pins:List (Addr×Obj)}{σ:St}{H:Hp}{s:Shared}{A:Around}{E:Value->Shared->Prop}{Q:Value->Shared->Prop}{c:Value}{b:Bool}
inductive rE (K:PySem.W.Frag) (H:Hp):V->Value->Prop where
 |gP:rE K H .gP (.type "NoneType")
 |bl (x:Bool):rE K H (.bl x) (.type "bool")
 |int (i:Int):rE K H (.int i) (.type "int")
 |str (x:Str):rE K H (.str x) (.type "str")
 |EC (x:UInt64):rE K H (.EC x) (.type "float")
 |lst {a:Addr} {xs:List V} (e:H a=some (.lst xs)):rE K H (.ref a) (.type "list")
 |yk {a:Addr} {o:Obj} {xs:List V} (e:H a=some (.yk o (.lst xs))):rE K H (.ref a) (.type "list")
 |tup {a:Addr} {xs:List V} (e:H a=some (.tup xs)):rE K H (.ref a) (.type "tuple")
 |dK {a:Addr} {kvs:List (Key×V)} (e:H a=some (.dK kvs)):rE K H (.ref a) (.type "dict")
 |dT {a:Addr} {kvs:List (List Key×V)} (e:H a=some (.dT kvs)):rE K H (.ref a) (.type "dict")
 |ins {a C dx:Addr} {fs:List (Str×V)} (e:H a=some (.ins C dx fs)) (cl:Up K C) (ha:PySem.W.findIn K (.ref C) "__class__"=some (some (.builtin "object.__class__")))
   (hn:PySem.W.specialIn K (.builtin "object.__class__") "__get__"=some (some (.builtin "getset_descriptor.__get__"))) (htk:PySem.W.takesIn K (.builtin "object.__class__")=some true)
   (hm:PySem.W.mroIn K C (.type "object")=some true):rE K H (.ref a) (.ref C)
theorem EJ{x:V}{u t:Value}(I:Inv X pins σ H s)(rx:RelV x u)(ty:rE X.K H x t)(e:PySem.W.kitOne X.K t c=some b)(h:∀tk,Q (.bool b) {s with toks:=tk}):
  wpAny (model X.prog X.w) A (call (.builtin "isinstance") [u,c]) Q E s:=by
 cases ty with
 |gP=>cases(show u=Value.none from rx);exact PySem.W.kia_one PySem.W.kitx_none I.yo True.intro e (λz=>nomatch z) h
 |bl y=>cases(show u=Value.bool y from rx);exact PySem.W.kia_one PySem.W.kitx_bool I.yo True.intro e (λz=>nomatch z) h
 |int i=>obtain⟨t,q⟩:=(show ∃t,u=Value.int i t from rx);cases q;exact PySem.W.kia_one PySem.W.kitx_int I.yo True.intro e (λz=>nomatch z) h
 |str y=>obtain⟨t,q⟩:=(show ∃t,u=Value.str y t from rx);cases q;exact PySem.W.kia_one PySem.W.kitx_str I.yo True.intro e (λz=>nomatch z) h
 |EC y=>obtain⟨t,q⟩:=(show ∃t,u=Value.float y t from rx);cases q;exact PySem.W.kia_one PySem.W.kitx_float I.yo True.intro e (λz=>nomatch z) h
 | @lst a xs ea=>
  cases(show u=Value.ref a from rx)
  obtain⟨_,_,n,_,h1⟩:=(show fO X.prog X.w H s.heap a (.lst xs)from I.hok a _ ea)
  exact PySem.W.kia_one PySem.W.kitx_list I.yo ⟨_,h1,rfl⟩ e (λz=>nomatch z) h
 | @yk a ob xs ea=>
  cases(show u=Value.ref a from rx)
  obtain⟨_,_,_,n,_,h1⟩:=(show fO X.prog X.w H s.heap a (.yk ob (.lst xs))from I.hok a _ ea)
  exact PySem.W.kia_one PySem.W.kitx_list I.yo ⟨_,h1,rfl⟩ e (λz=>nomatch z) h
 | @tup a xs ea=>
  cases(show u=Value.ref a from rx)
  obtain⟨_,_,_,p⟩:=(show fO X.prog X.w H s.heap a (.tup xs)from I.hok a _ ea)
  obtain⟨o,h1,h2,_⟩:=p
  exact PySem.W.kia_one PySem.W.kitx_tuple I.yo ⟨o,h1,h2⟩ e (λz=>nomatch z) h
 | @dK a kvs ea=>
  cases(show u=Value.ref a from rx)
  obtain⟨_,_,vs,_,p⟩:=(show fO X.prog X.w H s.heap a (.dK kvs)from I.hok a _ ea)
  obtain⟨o,es,ep,h1,h2,_⟩:=p
  exact PySem.W.kia_one PySem.W.kitx_dict I.yo ⟨o,h1,h2.1⟩ e (λz=>nomatch z) h
 | @dT a kvs ea=>
  cases(show u=Value.ref a from rx)
  obtain⟨_,_,xs,_,o,es,ep,h1,h2,_⟩:=(show fO X.prog X.w H s.heap a (.dT kvs)from I.hok a _ ea)
  exact PySem.W.kia_one PySem.W.kitx_dict I.yo ⟨o,h1,h2.1⟩ e (λz=>nomatch z) h
 | @ins a C dx fs ea cl ha hn htk hm=>
  cases(show u=Value.ref a from rx)
  obtain⟨mA,O,_⟩:=LL I.hok ea
  obtain⟨od,J,_⟩:=O.look
  exact PySem.W.kia_one (PySem.W.kitx_own (cl.get _) cl.hd ha hn htk hm) I.yo J e (λz=>nomatch z) h
end
structure gC(k:Nat)(A:Around):Prop where
 hd:A.handled=none
 dp:A.depth+3*k+5<recursionLimit
 un:A.units+16*k+200<cLine
theorem gC.mono{j k:Nat}{A:Around}(r:gC k A)(h:j<=k):gC j A:=⟨r.hd,by have:=r.dp;omega,by have:=r.un;omega⟩
theorem gC.deeper{k:Nat}{A:Around}(r:gC (k+1) A)(env:Env):gC k (A.deeper env):=
 ⟨r.hd,by have:=r.dp;show A.depth+1+3*k+5<_;omega,by have:=r.un;show A.units+3+16*k+200<_;omega⟩
theorem gC.depth{k:Nat}{A:Around}(r:gC k A):A.depth<recursionLimit:=by have:=r.dp;omega
theorem gC.units{k:Nat}{A:Around}(r:gC k A):A.units+64<cLine:=by have:=r.un;omega
def gF:TA:=λ_ H Q=>Q [] H
def bE(ta:TE)(tr:TA):TA:=λσ H Q=>ta σ H λx H1=>tr σ H1 λxs H2=>Q (x::xs) H2
section
variable{X:Cx}{e:Expr}{es:List Expr}{te:TE}{t:TA}{pos:Pos}
theorem ak:PA X [] gF:=λ_ _ _ _ H Q I h=>Calls.spliced_nil ⟨[],H,I,.nil,h⟩
theorem af(ha:PE X e te)(hr:PA X es t)(hs:starEach (e::es) X.env=(false,eval e X.env)::starEach es X.env:=by rfl):PA X (e::es) (bE te t):=by
 intro pos pins s σ H Q I h
 rw[hs]
 show wpAny _ _ (spliced ((false,eval e X.env)::backTo pos (starEach es X.env))) _ _ s
 refine Calls.spliced_cons (fN (ha pins s σ H _ I h) λu s1 ⟨x,H1,I1,r1,q1⟩=> ?_)
 exact fN (hr pos pins s1 σ H1 _ I1 q1) λus s2 ⟨xs,H2,I2,r2,q2⟩=>⟨x::xs,H2,I2,.cons r1 r2,q2⟩
def Uq(t:TA):TE:=λσ H Q=>t σ H λxs H1=>xs.length<=sizeLine/\ ∀p,H1 p=none->Q (.ref p) (upd H1 p (.tup xs))
def Rc(t:TA):TE:=λσ H Q=>t σ H λxs H1=>xs.length<=sizeLine/\ ∀p,H1 p=none->Q (.ref p) (upd H1 p (.lst xs))
theorem yr{x1}(h:PA X es t):PE X (.Tuple es x1 pos) (Uq t):=by
 intro pins s σ H Q I hq
 refine wpAny_Tuple_spliced (fN (h pos pins s σ H _ I hq) λus s1 ⟨xs,H1,I1,r,z,q⟩=>⟨by rw[<-r.length];exact z,?_⟩)
 have hf:H1 s1.heap.objs.size=none:=I1.hok.fresh (Nat.le_refl _)
 refine⟨.ref s1.heap.objs.size,upd H1 s1.heap.objs.size (.tup xs),I1.laid (t':=s1.toks) (λb u e=>Heap.get?_push_of_some _ e) (Nat.le_refl _) ?_,rfl,q _ hf⟩
 exact⟨z,us,r,⟨_,Heap.get?_push_size _ rfl,rfl,_,rfl⟩⟩
theorem gS(h:PA X es t):PE X (.List es pos) (Rc t):=by
 intro pins s σ H Q I hq
 refine wpAny_List_spliced (fN (h pos pins s σ H _ I hq) λus s1 ⟨xs,H1,I1,r,z,q⟩=>⟨by rw[<-r.length];exact z,?_⟩)
 have hf:H1 s1.heap.objs.size=none:=I1.hok.fresh (Nat.le_refl _)
 refine⟨.ref s1.heap.objs.size,upd H1 s1.heap.objs.size (.lst xs),I1.laid (t':=s1.toks) (λb u e=>Heap.get?_push_of_some _ e) (Nat.le_refl _) ?_,rfl,q _ hf⟩
 exact⟨z,us,0,r,Heap.get?_push_size _ rfl⟩
end
abbrev Sp:=List V->Hp->VK->XK->Prop
abbrev EK:=List Env->Hp->Shared->XK->Value->Shared->Prop
structure HQ(P:Program)(w:World)(K:PySem.W.Frag)(mg:Str->Option Value)(base:Heap)(A:Around)(outer:List Env)(s:Shared)(H:Hp):Prop where
 frames:A.frames=some outer
 mod:Mod K mg base
 bs:∀b o,base.get? b=some o->s.heap.get? b=some o/\H b=none
 LD:base.objs.size<=s.heap.objs.size
 tM:s.heap.FunFrames base outer
 Qm:∀b∈frs outer,H b=none
 hok:ue P w H s.heap
 bare:AllBare s.gens
def CE(outer:List Env)(P:Program)(w:World)(H:Hp)(s:Shared)(Q:VK)(u:Value)(s':Shared):Prop:=
 ∃v H',s'.os=s.os/\Hr s.gens s'.gens/\Un (frs outer) [] H H' s.heap s'.heap/\ue P w H' s'.heap/\RelV v u/\Q v H'
def CR(CX:EK)(outer:List Env)(P:Program)(w:World)(H:Hp)(s:Shared)(Q:VK)(E:XK)(r:Result)(s':Shared):Prop:=
 match r with
 | .ok (.ret u)=>CE outer P w H s Q u s'
 | .ok _=>False
 | .error e=>CX outer H s E e s'
structure qA(P:Program)(w:World)(K:PySem.W.Frag)(mg:Str->Option Value)(base:Heap)(CX:EK)(k:Nat)(f:Addr)(fd:FuncData)(ps:List Str)(sp:Sp):Prop where
 len:∀vs H Q E,sp vs H Q E->vs.length=ps.length
 run:∀(A:Around) (outer:List Env) (s:Shared) (H:Hp) (args:Args) (us:List Value) (vs:List V) (Q:VK) (E:XK),gC k A->HQ P w K mg base A outer s H->BindsTo s fd args (ps.zip us) ->Vals vs us->sp vs H Q E->
  codeAny (model P w) A (.call (.ref f) args) (CR CX outer P w H s Q E) s
theorem qA.mono{P:Program}{w:World}{K:PySem.W.Frag}{mg:Str->Option Value}{base:Heap}{CX:EK}{j k:Nat}{f:Addr}{fd:FuncData}{ps:List Str}{sp:Sp}(F:qA P w K mg base CX j f fd ps sp)(h:j<=k):
  qA P w K mg base CX k f fd ps sp:=⟨F.len,λA outer s H args us vs Q E hr=>F.run A outer s H args us vs Q E (hr.mono h)⟩
section
variable{X:Cx}{pins:List (Addr×Obj)}{σ:St}{H:Hp}{s s':Shared}
theorem Inv.Ur(I:Inv X pins σ H s):HQ X.prog X.w X.K X.mg X.base X.A X.stack s H:=
 ⟨I.ok.frames,I.ok.mod,I.bs,Nat.le_trans I.ok.LD I.sz,I.stack,I.uf,I.hok,I.bare.bare⟩
theorem Inv.after{Q:VK}{u:Value}(I:Inv X pins σ H s)(h:CE X.stack X.prog X.w H s Q u s'):EP X pins σ Q u s':=by
 obtain⟨v,H',os,bare,un,hok,r,q⟩:=h
 obtain⟨hh,g,d,t,os'⟩:=s'
 obtain rfl:os'=s.os:=os
 exact⟨v,H',I.call (h':=hh) (g':=g) (d':=d) (t':=t) (ch:=[]) un hok bare (λb z=>absurd z (by simp)),r,q⟩
end
def jW(sp:Sp)(NP:List V)(E:XK)(t:TA):TE:=λσ H Q=>t σ H λvs H1=>sp (vs++NP) H1 Q E
def Binds(K:PySem.W.Frag)(fd:FuncData)(ps:List Str)(ds:List Value):Prop:=
 ∀(s:Shared) (us:List Value),K.In s.heap->(us++ds).length=ps.length->BindsTo s fd ⟨us,[]⟩ (ps.zip (us++ds))
theorem Binds.all{K:PySem.W.Frag}{fd:FuncData}{ps:List Str}(h:∀us:List Value,us.length=ps.length->bindArgs fd ⟨us,[]⟩=pure (ps.zip us)):Binds K fd ps []:=λs us _ hl=>by
 rw[List.append_nil]at hl ⊢
 exact .of_eq (h us hl)
def Passes(CX:EK)(X:Cx)(E:XK):Prop:=∀(pins:List (Addr×Obj)) (σ:St) (H:Hp) (s:Shared) (e:Value) (s':Shared),Inv X pins σ H s->CX X.stack H s E e s'->X.xe e s'
section
variable{X:Cx}{CX:EK}{k:Nat}{f C:Addr}{fd:FuncData}{ps:List Str}{sp:Sp}{NP:List V}{ds:List Value}{E:XK}{x m:Str}{p pos apos:Pos}{e o:Expr}{es:List Expr}{ta:TE}{t:TA}
theorem OO{pins:List (Addr×Obj)}{σ:St}{H:Hp}{s:Shared}{Q:VK}{us:List Value}{vs:List V}(F:qA X.prog X.w X.K X.mg X.base CX k f fd ps sp)(hr:gC k X.A)(hb:Binds X.K fd ps ds)(hd:Vals NP ds)(hx:Passes CX X E)
  (I:Inv X pins σ H s)(r:Vals vs us)(h:sp (vs++NP) H Q E):wpAny (model X.prog X.w) X.A (call (.ref f) us) (EP X pins σ Q) X.xe s:=by
 have r2:Vals (vs++NP) (us++ds):=r.append hd
 have hl:(us++ds).length=ps.length:=by rw[<-r2.length];exact F.len _ _ _ _ h
 refine wpAny_call (codeAny_mono (F.run X.A X.stack s H ⟨us,[]⟩ (us++ds) (vs++NP) Q E hr I.Ur (hb s us I.yo hl) r2 h) λr s' hq=> ?_)
 cases r with
 |error e=>exact hx pins σ H s e s' I hq
 |ok fl=>
  cases fl with
  |ret u=>exact I.after hq
  |next=>exact False.elim hq
  |brk=>exact False.elim hq
  |cont=>exact False.elim hq
theorem LM(F:qA X.prog X.w X.K X.mg X.base CX k f fd ps sp)(hr:gC k X.A)(hg:Gl X x)(hm:X.mg x=some (.ref f))(hk:PySem.W.keepIn X.K (.ref f)=true)(hb:Binds X.K fd ps ds)(hd:Vals NP ds)(hx:Passes CX X E)
  (ha:PA X (e::es) t)(hdb:(x==("__debug__":Str))=false:=by decide)(he:starEach (e::es) X.env=(false,eval e X.env)::starEach es X.env:=by rfl)(hpl:(backTo pos (starEach es X.env)).any (·.1)=false:=by rfl):
  PE X (.Call (.Name x p) (e::es) [] pos) (jW sp NP E t):=by
 intro pins s σ H Q I h
 refine wpAny_Call_Name_kw (Dv I hg hm ?_ hdb)
 refine PySem.W.callWith_K (h₀:=X.base) I.ok.mod.Ql hk (fN (ha pos pins s σ H _ I h) λus s1 ⟨vs,H1,I1,r,q⟩=>⟨I1.yo,?_⟩) he hpl
 exact OO F hr hb hd hx I1 r q
structure Mk(K:PySem.W.Frag)(C f:Addr):Prop where
 makes:PySem.W.makesIn K C=true
 init:PySem.W.findIn K (.ref C) "__init__"=some (some (.ref f))
 fn:PySem.W.isFn K (.ref f)=true
 kp:PySem.W.keepIn K (.ref C)=true
end
section
variable{X:Cx}{CX:EK}{k:Nat}{f C:Addr}{fd:FuncData}{ps ks:List Str}{sp:Sp}{E:XK}{x m:Str}{p pos apos kpos:Pos}{e o:Expr}{es:List Expr}{kws:List Keyword}{te ta:TE}{t tk:TA}{nm:Option Str}
structure Us(K:PySem.W.Frag)(fd:FuncData)(ps ks:List Str)(g:List Value->List Value->List Value)(gV:List V->List V->List V):Prop where
 to:∀(s:Shared) (us ws:List Value),K.In s.heap->(g us ws).length=ps.length->BindsTo s fd ⟨us,ks.zip ws⟩ (ps.zip (g us ws))
 rel:∀{vs:List V} {us:List Value} {zs:List V} {ws:List Value},Vals vs us->Vals zs ws->Vals (gV vs zs) (g us ws)
variable{g:List Value->List Value->List Value}{gV:List V->List V->List V}
end
structure aQ(N P:List Str)(sc:Scope):Prop where
 kind:sc.kind= .function
 co:sc.isCoroutine=false
 gen:sc.isGenerator=false
 nd:N.Nodup
 pre:N.take P.length=P
 par:∀x∈P,sc.names.lookup x=some .local∨sc.names.lookup x=some .cell
 OP:∀y∈sc.names,y.2≠ .free
theorem xK{kindOf:Str->Option NameKind}{x:Str}:∀{binds:List (Str×Value)} {m:Str->Option Value},(∀v,(x,v)∉binds) ->bindL kindOf binds m x=m x
 | [],_,_=>rfl
 |(n,v)::r,m,h=>by
  unfold bindL
  rw[xK λw hw=>h w (List.mem_cons_of_mem _ hw)]
  split
  ·have:x≠n:=by rintro rfl;exact h v List.mem_cons_self
   simp[this]
  ·rfl
theorem xM{kindOf:Str->Option NameKind}{x:Str}:∀{binds:List (Str×Value)} {m:Str->Option Value},(∀v,(x,v)∉binds) ->bindC kindOf binds m x=m x
 | [],_,_=>rfl
 |(n,v)::r,m,h=>by
  unfold bindC
  rw[xM λw hw=>h w (List.mem_cons_of_mem _ hw)]
  split
  ·rfl
  ·have:x≠n:=by rintro rfl;exact h v List.mem_cons_self
   simp[this]
theorem xN{kindOf:Str->Option NameKind}{x:Str}{v:Value}:∀{P:List Str} {vs:List Value} {i:Nat} {m:Str->Option Value},P.Nodup->P[i]?=some x->vs[i]?=some v->kindOf x=some .local->
  bindL kindOf (P.zip vs) m x=some v
 | [],_,_,_,_,h,_,_=>by simp at h
 |_::_,[],_,_,_,_,h,_=>by simp at h
 |p::P,w::vs,0,m,nd,h1,h2,hk=>by
  simp at h1 h2;subst h1;subst h2
  show bindL kindOf ((p,w)::P.zip vs) m p=_
  unfold bindL
  rw[xK λv hv=>(List.nodup_cons.mp nd).1 (List.of_mem_zip hv).1,if_pos hk]
  simp
 |p::P,w::vs,i+1,m,nd,h1,h2,hk=>by
  show bindL kindOf ((p,w)::P.zip vs) m x=_
  unfold bindL
  exact xN (i:=i) (List.nodup_cons.mp nd).2 (by simpa using h1) (by simpa using h2) hk
theorem xO{kindOf:Str->Option NameKind}{x:Str}{v:Value}:∀{P:List Str} {vs:List Value} {i:Nat} {m:Str->Option Value},P.Nodup->P[i]?=some x->vs[i]?=some v->kindOf x≠some .local->
  bindC kindOf (P.zip vs) m x=some v
 | [],_,_,_,_,h,_,_=>by simp at h
 |_::_,[],_,_,_,_,h,_=>by simp at h
 |p::P,w::vs,0,m,nd,h1,h2,hk=>by
  simp at h1 h2;subst h1;subst h2
  show bindC kindOf ((p,w)::P.zip vs) m p=_
  unfold bindC
  rw[xM λv hv=>(List.nodup_cons.mp nd).1 (List.of_mem_zip hv).1,if_neg hk]
  simp
 |p::P,w::vs,i+1,m,nd,h1,h2,hk=>by
  show bindC kindOf ((p,w)::P.zip vs) m x=_
  unfold bindC
  exact xO (i:=i) (List.nodup_cons.mp nd).2 (by simpa using h1) (by simpa using h2) hk
def start(N:List Str)(vs:List V):St:=vs.map some++List.replicate (N.length-vs.length) none
def yt(CX:EK)(P:Program)(w:World)(K:PySem.W.Frag)(mg:Str->Option Value)(base:Heap)(N:List Str)(qual:Str)(scope:Scope)(f:Addr)(cd:Value)(A:Around)(outer:List Env)(s:Shared)(H:Hp)(E:XK):Cx where
 prog:=P
 w:=w
 K:=K
 mg:=mg
 base:=base
 A:=A.deeper (envOfC qual scope s.heap.objs.size f cd)
 N:=N
 s₀:=s
 H₀:=H
 env:=envOfC qual scope s.heap.objs.size f cd
 outer:=outer
 stack:=envOfC qual scope s.heap.objs.size f cd::outer
 ex:=[]
 calm:=true
 fn:=λ_=>true
 pn:=[]
 xe:=λe s'=>wpAny (model P w) (A.deeper (envOfC qual scope s.heap.objs.size f cd)) (leaving (envOfC qual scope s.heap.objs.size f cd) e) (λ_ s''=>CX outer H s E e s'') (λe' s''=>CX outer H s E e' s'') s'
theorem Aa{sc:Scope}{n:Nat}{x:Str}(h:sc.names.lookup x=some .cell):∃c,(cellsFrom n sc.names []).lookup x=some c:=by
 have q:=PySem.W.cellsFrom_some sc.names n [] (.inl h)
 exact Option.isSome_iff_exists.mp q
theorem EL{CX:EK}{P:Program}{w:World}{K:PySem.W.Frag}{mg:Str->Option Value}{base:Heap}{N ps:List Str}{qual:Str}{scope:Scope}{f:Addr}{cd:Value}{A:Around}{outer:List Env}{s s1:Shared}{H:Hp}{E:XK}{us:List Value}{vs:List V}
  (S:aQ N ps scope)(hd:A.handled=none)(e0:HQ P w K mg base A outer s H)(hl:vs.length=ps.length)(r:Vals vs us)
  (x:InCallC s s.heap.objs.size (bindL (envOfC qual scope s.heap.objs.size f cd).kindOf (ps.zip us) λ_=>none) (cellsFrom (s.heap.objs.size+1) scope.names []) (bindC (envOfC qual scope s.heap.objs.size f cd).kindOf (ps.zip us) λ_=>none) s1):
  Inv (yt CX P w K mg base N qual scope f cd A outer s H E) [] (start N vs) H s1:=by
 have hpl:ps.length<=N.length:=by have:=congrArg List.length S.pre;rw[List.length_take]at this;omega
 obtain⟨h1,tk,rfl,hk⟩:=x.done
 have Ut:∀b:Addr,b∉(yt CX P w K mg base N qual scope f cd A outer s H E).ex:=λb z=>absurd (show b∈([]:List Addr)from z) (by simp)
 refine⟨⟨e0.mod,S.kind,rfl,rfl,Nat.le_refl _,λy z c h1 h2=> ?_,λy hy=> ?_,λy c _ h=> ?_,λ_=>hd,Around.frames_deeper e0.frames,.inr ⟨rfl,rfl⟩,λb z=>absurd z (Ut b),e0.bs,e0.LD,λb _ _=>Ut b,λb z=>absurd z (Ut b),e0.tM,e0.Qm⟩,
  rfl,.refl e0.bare,Un.kept hk,⟨_,x.toInCall.ns,λi y v h1 h2 h3=> ?_⟩,λy c h=>⟨_,x.cell y c h⟩,e0.hok.fresh (Nat.le_refl _),λy c h=> ?_,λp hp=>absurd (show p∈([]:List (Addr×Obj))from hp) (by simp),e0.hok.kept hk,?_⟩
 ·exact name_of_addr x.apart (PySem.mem_of_lookup h1) (PySem.mem_of_lookup h2)
 ·have hy:scope.names.lookup y=some .cell∨scope.names.lookup y=some .free:=hy
  rcases hy with hy|hy
  ·exact Aa hy
  ·exact absurd rfl (S.OP _ (PySem.mem_of_lookup hy))
 ·exact Nat.le_of_lt (x.above y c (PySem.mem_of_lookup h))
 ·have hi:i<vs.length:=by
   unfold start at h2
   by_cases hi:i<vs.length
   ·exact hi
   ·rw[List.getElem?_append_right (by simpa using hi)]at h2
    rw[List.getElem?_replicate]at h2
    split at h2<;>cases h2
  have ha:vs[i]?=some v:=by
   unfold start at h2
   rw[List.getElem?_append_left (by simpa using hi),List.getElem?_map]at h2
   cases e:vs[i]? with
   |none=>rw[e]at h2;cases h2
   |some a=>rw[e]at h2;cases h2;rfl
  obtain⟨u,hu,rv⟩:=r.get ha
  have hp:ps[i]?=some y:=by
   rw[<-S.pre,List.getElem?_take_of_lt (by omega)];exact h1
  have VU:ps.Nodup:=by rw[<-S.pre];exact S.nd.sublist (List.take_sublist _ _)
  refine⟨u,rv,?_⟩
  rcases S.par y (List.mem_of_getElem? hp)with k|k
  ·exact .inl ⟨k,xN VU hp hu k⟩
  ·obtain⟨c,e⟩:=Aa (n:=s.heap.objs.size+1) k
   refine .inr ⟨.inl k,c,e,?_⟩
   have q:=x.cell y c e
   rw[xO VU hp hu (by show scope.names.lookup y≠_;rw[k];decide)]at q
   exact q
 ·exact e0.hok.fresh (Nat.le_of_lt (x.above y c (PySem.mem_of_lookup h)))
 ·unfold start
  show _=N.length
  rw[List.length_append,List.length_map,List.length_replicate]
  omega
theorem NQ{CX:EK}{P:Program}{w:World}{K:PySem.W.Frag}{mg:Str->Option Value}{base:Heap}{k:Nat}{f:Addr}{name qual:Str}{params:Arguments}{body:List Stmt}{scope:Scope}{dV kV doc pm cdv ct oc:Value}{an od:Option Addr}
  {osl:Array (Option Value)}{N ps:List Str}{sp:Sp}(lk:K.lookup f=some ⟨oc,od,.func (PySem.W.fnOf name qual params body scope dV kV doc pm an cdv ct),osl⟩)(hcd:PySem.W.codeIn K cdv qual=true)(S:aQ N ps scope)
  (len:∀vs H Q E,sp vs H Q E->vs.length=ps.length)
  (hbody:∀(A:Around) (outer:List Env) (s:Shared) (H:Hp) (vs:List V) (Q:VK) (E:XK),gC k (A.deeper (envOfC qual scope s.heap.objs.size f cdv)) ->sp vs H Q E->
   ∃t,yp (yt CX P w K mg base N qual scope f cdv A outer s H E) body t/\t {nx:=λ_ H'=>Q .gP H',rt:=Q} (start N vs) H):
  qA P w K mg base CX (k+1) f (PySem.W.fnOf name qual params body scope dV kV doc pm an cdv ct) ps sp:=by
 refine⟨len,λA outer s H args us vs Q E hr e0 hb r Lr=> ?_⟩
 have hl:=len _ _ _ _ Lr
 have KX:K.In s.heap:=e0.mod.Ql.keeps λb o e=>(e0.bs b o e).1
 have lim:s.heap.NoLimit:=e0.mod.nolimit.keeps λb o e=>(e0.bs b o e).1
 have hkind:∀y∈ps.zip us,scope.names.lookup y.1=some .local∨(scope.names.lookup y.1=some .cell/\((cellsFrom (s.heap.objs.size+1) scope.names []).lookup y.1).isSome=true):=λ ⟨n,v⟩ hy=>by
  rcases S.par n (List.of_mem_zip hy).1 with q|q
  ·exact .inl q
  ·exact .inr ⟨q,PySem.W.cellsFrom_some _ _ _ (.inl q)⟩
 refine codeAny_call_function hr.depth (KX _ _ lk) rfl S.co S.gen rfl (PySem.W.codeRec_of KX hcd) (hb _ _ _ _ ?_)
 refine wpAny_newFunctionEnv_cells S.kind hkind λenv he s1 x=> ?_
 subst he
 refine⟨lim.keeps x.toInCall.keep,codeAny_func ?_⟩
 obtain⟨t,ht,hq⟩:=hbody A outer s H vs Q E (hr.deeper _) Lr
 have I:Inv (yt CX P w K mg base N qual scope f cdv A outer s H E) [] (start N vs) H s1:=EL S hr.hd e0 hl r x
 refine wpAny_mono (ht [] s1 (start N vs) H _ I hq) (λfl s' hs=> ?_) λe s' hs=>hs
 have fin:∀{σ':St} {H':Hp} {v:V} {u:Value},Inv (yt CX P w K mg base N qual scope f cdv A outer s H E) [] σ' H' s'->RelV v u->Q v H'->CE outer P w H s Q u s':=
  λ {σ' H' v u} J rv q=>⟨v,H',J.os,J.bare,J.base,J.hok,rv,q⟩
 cases fl with
 |ret u=>
  obtain⟨v,σ',H',J,rv,q⟩:=hs
  exact fin J rv q
 |next=>
  obtain⟨σ',H',J,q⟩:=hs
  exact fin (v:=V.gP) (u:=Value.none) J rfl q
 |brk=>
  obtain⟨_,_,_,q⟩:=hs
  exact False.elim q
 |cont=>
  obtain⟨_,_,_,q⟩:=hs
  exact False.elim q
section
variable{X:Cx}{x:Str}{p pos:Pos}{e:Expr}{es:List Expr}{t:TA}{id T:String}{r:List V->Hp->VK->Prop}
def Hf(r:List V->Hp->VK->Prop)(t:TA):TE:=λσ H Q=>t σ H λvs H1=>r vs H1 Q
theorem bZ(hc:nZ X (.builtin id) r)(hg:Gl X x)(hm:X.mg x=none)(hv:bootBuiltins x=some (.builtin id))(ha:PA X (e::es) t)(hn:x≠ "__name__":=by decide)(hdb:(x==("__debug__":Str))=false:=by decide)
  (he:starEach (e::es) X.env=(false,eval e X.env)::starEach es X.env:=by rfl)(hpl:(backTo pos (starEach es X.env)).any (·.1)=false:=by rfl):PE X (.Call (.Name x p) (e::es) [] pos) (Hf r t):=by
 intro pins s σ H Q I h
 refine wpAny_Call_Name_kw (jU I hg hm hv ?_ hn hdb)
 exact PyProof.Rows.callWith_builtin1 (fN (ha pos pins s σ H _ I h) λus s1 ⟨vs,H1,I1,r1,q1⟩=>hc pins s1 σ H1 vs us Q I1 r1 q1) he hpl
theorem gv(hc:nZ X (.type T) r)(hg:Gl X x)(hm:X.mg x=none)(hv:bootBuiltins x=some (.type T))(ha:PA X (e::es) t)(hn:x≠ "__name__":=by decide)(hdb:(x==("__debug__":Str))=false:=by decide)
  (he:starEach (e::es) X.env=(false,eval e X.env)::starEach es X.env:=by rfl)(hpl:(backTo pos (starEach es X.env)).any (·.1)=false:=by rfl):PE X (.Call (.Name x p) (e::es) [] pos) (Hf r t):=by
 intro pins s σ H Q I h
 refine wpAny_Call_Name_kw (jU I hg hm hv ?_ hn hdb)
 exact PyProof.Rows.callWith_type1 (fN (ha pos pins s σ H _ I h) λus s1 ⟨vs,H1,I1,r1,q1⟩=>hc pins s1 σ H1 vs us Q I1 r1 q1) he hpl
end
end L2
namespace HT
open PySem PyProof.Rows
section
open PySem.SeqAt
open PySem.AutoSeq1 (wpAny_loadPart')
open PySem.MeetsSeq PySem.MeetsSeq2 PySem.MeetsSeq3
end
section
variable{prog:Program}{w:World}{A:Around}{E:Value->Shared->Prop}{s:Shared}
end
end HT
namespace L2
open PySem PySem.Spec PyProof.Rows
abbrev TO:=St->Hp->(Option Int->Hp->Prop) ->Prop
section
variable{X:Cx}{e:Expr}{te:TE}{lo hi:Option Expr}{tl th:TO}{pos p2:Pos}
end
def Lu(n:Nat)(i:Int):Option Nat:=if 0<=i then(if i<n then some i.toNat else none)else if-(n:Int)<=i then some (i+n).toNat else none
def ug{α:Type}(xs:List α)(i:Int):Option α:=(Lu xs.length i).bind λj=>xs[j]?
theorem DG{n:Nat}{i:Int}{j:Nat}(h:Lu n i=some j):seqIndex? i n=some j/\j<n/\ -(n:Int)<=i/\i<n:=by
 unfold Lu at h
 by_cases h0:0<=i
 ·rw[if_pos h0]at h
  by_cases h1:i<n
  ·rw[if_pos h1]at h
   have e:i.toNat=j:=Option.some.inj h
   exact⟨by rw[seqIndex_of h0 h1,e],by omega,by omega,h1⟩
  ·rw[if_neg h1]at h;cases h
 ·rw[if_neg h0]at h
  by_cases h1: -(n:Int)<=i
  ·rw[if_pos h1]at h
   have e:(i+n).toNat=j:=Option.some.inj h
   exact⟨by rw[seqIndex_neg (by omega) h1,e],by omega,h1,by omega⟩
  ·rw[if_neg h1]at h;cases h
theorem DH{α:Type}{xs:List α}{i:Int}{v:α}(h:ug xs i=some v):∃j,seqIndex? i xs.length=some j/\xs[j]?=some v/\j<xs.length/\ -(xs.length:Int)<=i/\i<xs.length:=by
 unfold ug at h
 cases e:Lu xs.length i with
 |none=>rw[e]at h;cases h
 |some j=>
  rw[e]at h
  obtain⟨h1,h2,h3,h4⟩:=DG e
  exact⟨j,h1,h,h2,h3,h4⟩
theorem yu{α:Type}{xs:List α}{j:Nat}{v:α}(h:xs[j]?=some v):ug xs (j:Int)=some v:=by
 have hj:j<xs.length:=(List.getElem?_eq_some_iff.mp h).1
 have e:Lu xs.length (j:Int)=some j:=by
  unfold Lu
  rw[if_pos (by omega),if_pos (by omega)];simp
 unfold ug;rw[e];exact h
def LN(b:Expr):Prop:=∀o i,subscripted b false o i=operate [o,i] (getItem o i)
def Uu(X:Cx)(r:R2):Prop:=
 ∀(value slice:Expr) (pins:List (Addr×Obj)) (s:Shared) (σ:St) (H:Hp) (x y:V) (v u:Value) (Q:VK),Inv X pins σ H s->RelV x v->RelV y u->r x y H Q->
  subscripted slice false v u=operate [v,u] (getItem v u) ->wpAny (model X.prog X.w) X.A (subscriptTail value slice v u) (EP X pins σ Q) X.xe s
def Xq(X:Cx)(id:String)(r:V->List V->Hp->VK->Prop):Prop:=
 ∀(pins:List (Addr×Obj)) (s:Shared) (σ:St) (H:Hp) (x:V) (xs:List V) (v:Value) (us:List Value) (Q:VK),Inv X pins σ H s->RelV x v->Vals xs us->r x xs H Q->
  wpAny (model X.prog X.w) X.A (call (.builtin id) (v::us)) (EP X pins σ Q) X.xe s
section
variable{X:Cx}{a b:Expr}{ta tb:TE}{pos:Pos}
theorem aF{r:R2}(hr:Uu X r)(ha:PE X a ta)(hb:PE X b tb)(hs:LN b):PE X (.Subscript a b pos) (dH r ta tb):=by
 intro pins s σ H Q I h
 exact Subscript_ (OI ha hb I h λv u s2 x y H2 I2 rx ry q=>hr a b pins s2 σ H2 x y v u Q I2 rx ry q (hs _ _))
def gc(K:PySem.W.Frag):R2:=λx y H Q=> ∃p xs i v,x= .ref p/\y= .int i/\aS K H p xs/\ug xs i=some v/\Q v H
def Uv(K:PySem.W.Frag):R2:=λx y H Q=> ∃p xs i v,x= .ref p/\y= .int i/\pN K H p xs/\ug xs i=some v/\Q v H
theorem aq:Uu X (gc X.K):=by
 intro value slice pins s σ H x y v u Q I rx ry h hs
 obtain⟨p,xs,i,z,rfl,rfl,hq,he,q⟩:=h
 cases rx
 obtain⟨t,rfl⟩:=ry
 obtain⟨its,r,pl,hz⟩:=I.list hq
 obtain⟨j,h1,h2,h3,h4,h5⟩:=DH he
 obtain⟨w,ew,rw'⟩:=r.get h2
 have hl:=r.length
 have hn:=rD
 have fin:EP X pins σ Q w s:=⟨z,H,I,rw',q⟩
 by_cases h0:0<=i
 ·have hj:i.toNat=j:=by
   rw[seqIndex_of h0 h5]at h1
   exact Option.some.inj h1
  exact item_listR pl.isList h0 (by omega) (by rw[hj];simpa using ew) fin hs
 ·have hj:(i+(its.toArray.size:Int)).toNat=j:=by
   rw[seqIndex_neg (by omega) h4]at h1
   rw[List.size_toArray,<-hl]
   exact Option.some.inj h1
  exact subscriptTail_builtinR (x:=w) pl.isList.typeIs slot_list_getitem.lookup
   (wpAny_getItem_list_neg (Q:=λr s'=>r=w/\EP X pins σ Q r s') pl.isList (by omega) (by rw[List.size_toArray]<;>omega) (by omega) (by rw[hj];simpa using ew) ⟨rfl,fin⟩) hs
theorem BL:Uu X (Uv X.K):=by
 intro value slice pins s σ H x y v u Q I rx ry h hs
 obtain⟨p,xs,i,z,rfl,rfl,hq,he,q⟩:=h
 cases rx
 obtain⟨t,rfl⟩:=ry
 obtain⟨its,r,pl,hz⟩:=I.tuple hq
 obtain⟨j,h1,h2,h3,h4,h5⟩:=DH he
 obtain⟨w,ew,rw'⟩:=r.get h2
 have hl:=r.length
 have hn:=rD
 have fin:EP X pins σ Q w s:=⟨z,H,I,rw',q⟩
 exact subscriptTail_builtinR (x:=w) pl.typeIs slot_tuple_getitem.lookup
  (getItem_tuple (j:=j) (Q:=λr s'=>r=w/\EP X pins σ Q r s') pl (by omega) (by omega) (by rw[List.size_toArray,<-hl];exact h1) (by simpa using ew) ⟨rfl,fin⟩) hs
theorem BN(its:List Value)(n j:Nat)(u:Value):Obj.mapSeq (·.setIfInBounds j u) {cls:= .type "list",data:= .seq its.toArray n}={cls:= .type "list",data:= .seq (its.set j u).toArray n}:=by
 simp[Obj.mapSeq]
theorem Inv.lst{pins:List (Addr×Obj)}{σ:St}{H:Hp}{s:Shared}{p:Addr}{xs:List V}(I:Inv X pins σ H s)(h:H p=some (.lst xs)):
  ∃(its:List Value) (n:Nat),Vals xs its/\s.heap.get? p=some {cls:= .type "list",data:= .seq its.toArray n}/\xs.length<=sizeLine:=by
 obtain⟨z,its,n,r,e⟩:=I.hok p _ h
 exact⟨its,n,r,e,z⟩
theorem Inv.OQ{pins:List (Addr×Obj)}{σ:St}{H:Hp}{s:Shared}{p:Addr}{xs ys:List V}{its its':List Value}{n n':Nat}{f:Obj->Obj}(I:Inv X pins σ H s)(h:H p=some (.lst xs))
  (ho:s.heap.get? p=some {cls:= .type "list",data:= .seq its.toArray n})(hf:f {cls:= .type "list",data:= .seq its.toArray n}={cls:= .type "list",data:= .seq its'.toArray n'})(r:Vals ys its')(hz:ys.length<=sizeLine)(t:Nat):
  Inv X pins σ (upd H p (.lst ys)) {s with heap:=s.heap.update p f,toks:=t}:=by
 have e:(s.heap.update p f).get? p=some {cls:= .type "list",data:= .seq its'.toArray n'}:=by
  rw[Heap.get?_update_self f ho (by rw[hf]<;>rfl),hf]
 refine I.write (x:=p) (e:=p) (by rw[h];trivial) (.inl rfl) (λb u hb q=>(Heap.get?_update_other _ _ (Ne.symm hb)).trans q) ⟨_,e⟩ ?_
 exact⟨hz,its',n',r,e⟩
def Rf:V->V->V->Hp->(Hp->Prop) ->Prop:=λo i v H Q=> ∃p xs k j,o= .ref p/\i= .int k/\H p=some (.lst xs)/\Lu xs.length k=some j/\Q (upd H p (.lst (xs.set j v)))
theorem set_list:OF X Rf:=by
 intro pins s σ H o i v ov iv u Q I ro ri rv h
 obtain⟨p,xs,k,j,rfl,rfl,hp,hj,q⟩:=h
 cases ro
 obtain⟨t,rfl⟩:=ri
 obtain⟨its,n,r,ho,hz⟩:=I.lst hp
 obtain⟨h1,h2,h3,h4⟩:=DG hj
 have hl:=r.length
 have hn:=rD
 have I':Inv X pins σ (upd H p (.lst (xs.set j v))) {s with heap:=s.heap.update p (Obj.mapSeq (·.setIfInBounds j u))}:=
  I.OQ hp ho (BN its n j u) (r.set rv j) (by rw[List.length_set];exact hz) s.toks
 by_cases h0:0<=k
 ·have hk:k.toNat=j:=by
   rw[seqIndex_of h0 h4]at h1
   exact Option.some.inj h1
  exact PySem.W.ki_setAt ho h0 (by omega) (by rw[List.size_toArray,<-hl];exact h4) (by rw[hk];exact⟨_,I',q⟩)
 ·have hk:(k+(its.toArray.size:Int)).toNat=j:=by
   rw[seqIndex_neg (by omega) h3]at h1
   rw[List.size_toArray,<-hl]
   exact Option.some.inj h1
  exact PySem.W.ki_setBack ho (by omega) (by rw[List.size_toArray,<-hl];exact h3) (by omega) (by rw[hk];exact⟨_,I',q⟩)
def pO:V->Bool
 | .gP=>true
 | .bl _=>true
 | .int _=>true
 | .str _=>true
 |_=>false
def HR:V->V->Bool
 | .gP,.gP=>true
 | .bl a,.bl b=>a==b
 | .bl a,.int b=>(if a then 1 else 0)==b
 | .int a,.bl b=>a==(if b then 1 else 0)
 | .int a,.int b=>a==b
 | .str a,.str b=>a==b
 |_,_=>false
theorem OR{A:Around}{s:Shared}{y x:V}{u v:Value}(ry:RelV y u)(rx:RelV x v)(fy:pO y=true)(fx:pO x=true):SeqAt.EqAt A s u v (HR y x):=by
 cases y with
 |gP=>
  cases ry
  cases x with
  |gP=>cases rx;exact SeqAt.EqAt.same _
  |bl b=>cases rx;exact SeqAt.EqAt.none_bool b
  |int b=>obtain⟨t,rfl⟩:=rx;exact SeqAt.EqAt.none_int b t
  |str b=>obtain⟨t,rfl⟩:=rx;exact SeqAt.EqAt.none_str b t
  |_=>exact absurd (show false=true from fx) Bool.false_ne_true
 |bl a=>
  cases ry
  cases x with
  |gP=>cases rx;exact SeqAt.EqAt.bool_none a
  |bl b=>cases rx;exact SeqAt.EqAt.bool_bool a b
  |int b=>obtain⟨t,rfl⟩:=rx;exact SeqAt.EqAt.bool_int a b t
  |str b=>obtain⟨t,rfl⟩:=rx;exact SeqAt.EqAt.bool_str a b t
  |_=>exact absurd (show false=true from fx) Bool.false_ne_true
 |int a=>
  obtain⟨t',rfl⟩:=ry
  cases x with
  |gP=>cases rx;exact SeqAt.EqAt.int_none a t'
  |bl b=>cases rx;exact SeqAt.EqAt.int_bool a t' b
  |int b=>obtain⟨t,rfl⟩:=rx;exact SeqAt.EqAt.int_int a t' b t
  |str b=>obtain⟨t,rfl⟩:=rx;exact SeqAt.EqAt.int_str a t' b t
  |_=>exact absurd (show false=true from fx) Bool.false_ne_true
 |str a=>
  obtain⟨t',rfl⟩:=ry
  cases x with
  |gP=>cases rx;exact SeqAt.EqAt.str_none a t'
  |bl b=>cases rx;exact SeqAt.EqAt.str_bool a t' b
  |int b=>obtain⟨t,rfl⟩:=rx;exact SeqAt.EqAt.str_int a t' b t
  |str b=>obtain⟨t,rfl⟩:=rx;exact SeqAt.EqAt.str_str a t' b t
  |_=>exact absurd (show false=true from fx) Bool.false_ne_true
 |_=>exact absurd (show false=true from fy) Bool.false_ne_true
def EM(x:V)(u:Value):Bool:=match u with
 | .none=>HR .gP x
 | .bool b=>HR (.bl b) x
 | .int i _=>HR (.int i) x
 | .str z _=>HR (.str z) x
 |_=>false
theorem BO{x y:V}{u:Value}(r:RelV y u)(f:pO y=true):EM x u=HR y x:=by
 cases y with
 |gP=>cases r;rfl
 |bl b=>cases r;rfl
 |int i=>obtain⟨t,rfl⟩:=r;rfl
 |str z=>obtain⟨t,rfl⟩:=r;rfl
 |_=>exact absurd (show false=true from f) Bool.false_ne_true
theorem yv{x:V}:∀{xs:List V} {us:List Value},Vals xs us->xs.all pO=true->us.any (EM x)=xs.any λy=>HR y x
 |_,_,.nil,_=>rfl
 |y::xs,u::us,.cons r t,f=>by
  rw[List.all_cons,Bool.and_eq_true]at f
  rw[List.any_cons,List.any_cons,BO r f.1,yv t f.2]
theorem qB{A:Around}{s:Shared}{x:V}{v:Value}(rx:RelV x v)(fx:pO x=true):∀{xs:List V} {us:List Value},Vals xs us->xs.all pO=true-> ∀u∈us,SeqAt.EqAt A s u v (EM x u)
 |_,_,.nil,_=>λu hu=>by cases hu
 |y::xs,u::us,.cons r t,f=>λu' hu=>by
  rw[List.all_cons,Bool.and_eq_true]at f
  rcases List.mem_cons.mp hu with rfl|hu
  ·rw[BO r f.1];exact OR r rx f.1 fx
  ·exact qB rx fx t f.2 u' hu
def Uw(x:V)(xs:List V):Bool:=xs.any λy=>HR y x
def Xr(K:PySem.W.Frag)(neg:Bool):R2:=λx y H Q=> ∃p xs,y= .ref p/\(aS K H p xs∨pN K H p xs)/\pO x=true/\xs.all pO=true/\Q (.bl (if neg then !Uw x xs else Uw x xs)) H
theorem EN:tN X (compareOp .In) (Xr X.K false):=by
 intro pins s σ H x y v u Q I rx ry h
 obtain⟨p,xs,rfl,hq,fx,fs,q⟩:=h
 cases ry
 rcases hq with hq|hq
 ·obtain⟨its,r,pl,hz⟩:=I.list hq
  refine SeqAt.in_listAt (EM x) pl.isList (λw hw=>qB rx fx r fs w (by simpa using hw)) ⟨.bl _,H,I,rfl,?_⟩
  rw[show its.toArray.any (EM x)=its.any (EM x)by simp,yv r fs]
  exact q
 ·obtain⟨its,r,pl,hz⟩:=I.tuple hq
  refine SeqAt.in_tupleAt (EM x) pl (λw hw=>qB rx fx r fs w (by simpa using hw)) ⟨.bl _,H,I,rfl,?_⟩
  rw[show its.toArray.any (EM x)=its.any (EM x)by simp,yv r fs]
  exact q
theorem eE:nZ X (.builtin "len") (λxs H Q=> ∃p ys,xs=[.ref p]/\(aS X.K H p ys∨pN X.K H p ys)/\Q (.int ys.length) H):=by
 intro pins s σ H xs us Q I r h
 obtain⟨p,ys,rfl,hq,q⟩:=h
 obtain⟨u,rfl,rx⟩:=vals1 r
 cases rx
 have hn:=rD
 rcases hq with hq|hq
 ·obtain⟨its,r',pl,hz⟩:=I.list hq
  have hlen:=r'.length
  exact Calls.call_len_list pl.isList (by simp only[List.size_toArray]<;>omega) ⟨.int ys.length,H,I.tok _,⟨s.toks+1,by rw[List.size_toArray,hlen]⟩,q⟩
 ·obtain⟨its,r',pl,hz⟩:=I.tuple hq
  have hlen:=r'.length
  exact len_tuple pl (by simp only[List.size_toArray]<;>omega) ⟨.int ys.length,H,I.tok _,⟨s.toks+1,by rw[List.size_toArray,hlen]⟩,q⟩
theorem ir:nZ X (.type "list") (λxs H Q=> ∃p ys,xs=[.ref p]/\(aS X.K H p ys∨pN X.K H p ys)/\ ∀l,H l=none->Q (.ref l) (upd H l (.lst ys))):=by
 intro pins s σ H xs us Q I r h
 obtain⟨p,ys,rfl,hq,q⟩:=h
 obtain⟨u,rfl,rx⟩:=vals1 r
 cases rx
 have fin:∀(its:List Value),Vals ys its->ys.length<=sizeLine-> ∀(h':Heap) (c':Nat),(∀b o',s.heap.get? b=some o'->h'.get? b=some o') ->
   h'.get? s.heap.objs.size=some {cls:= .type "list",dict:=none,data:= .seq its.toArray c',slots:= #[]} ->EP X pins σ Q (.ref s.heap.objs.size) {s with heap:=h'}:=λits r' hz h' c' kp e=>
  ⟨.ref s.heap.objs.size,_,I.laid (t':=s.toks) kp (Nat.le_refl _) (show fO X.prog X.w _ h' _ (.lst ys)from⟨hz,its,c',r',e⟩),rfl,q _ (I.hok.fresh (Nat.le_refl _))⟩
 rcases hq with hq|hq
 ·obtain⟨its,r',pl,hz⟩:=I.list hq
  have hlen:=r'.length
  obtain⟨o,ho,hc,n,hd⟩:=pl.isList
  exact call_list_seq p (.inl rfl) ho hc hd (λh' c' kp e=>fin its r' hz h' c' kp e) (by simp only[List.size_toArray]<;>omega)
 ·obtain⟨its,r',pl,hz⟩:=I.tuple hq
  have hlen:=r'.length
  obtain⟨o,ho,hc,n,hd⟩:=pl
  exact call_list_seq p (.inr rfl) ho hc hd (λh' c' kp e=>fin its r' hz h' c' kp e) (by simp only[List.size_toArray]<;>omega)
def VV(K:PySem.W.Frag)(T:String)(x:V)(H:Hp):Prop:=match x with
 | .str _=>T= "str"
 | .int _=>T= "int"
 | .ref p=>(T= "list"/\ ∃xs,aS K H p xs)∨(T= "tuple"/\ ∃o,K.lookup p=some o/\o.cls= .type "tuple"/\o.dict=none)∨
   (T= "dict"/\((∃kvs,H p=some (.dK kvs))∨ ∃kvs,H p=some (.dT kvs)))∨(T= "set"/\ ∃S n,H p=some (.set S n))
 |_=>False
theorem OS{pins:List (Addr×Obj)}{σ:St}{H:Hp}{s:Shared}{T:String}{x:V}{v:Value}(I:Inv X pins σ H s)(r:RelV x v)(ty:VV X.K T x H):
  s.TypeIs v T/\ ∀a,v= .ref a-> ∃ob,s.heap.get? a=some ob/\ob.dict=none:=by
 cases x with
 |str z=>
  obtain⟨t,rfl⟩:=r
  cases(show T= "str" from ty)
  exact⟨typeIs_str s z t,λ_ e=>nomatch e⟩
 |int i=>
  obtain⟨t,rfl⟩:=r
  cases(show T= "int" from ty)
  exact⟨typeIs_int s i t,λ_ e=>nomatch e⟩
 |ref p=>
  cases r
  rcases ty with⟨rfl,xs,hq⟩|⟨rfl,o,hk,hc,hd⟩|⟨rfl,hk⟩|⟨rfl,S,n,hk⟩
  ·obtain⟨its,_,pl,_⟩:=I.list hq
   refine⟨pl.isList.typeIs,λa e=> ?_⟩
   cases e
   obtain⟨o,n,e,c,hd,_⟩:=pl
   exact⟨o,e,hd⟩
  ·refine⟨⟨o,I.yo p o hk,hc⟩,λa e=> ?_⟩
   cases e
   exact⟨o,I.yo _ o hk,hd⟩
  ·have z:∃o,s.heap.get? p=some o/\o.ExactDict:=by
    rcases hk with⟨kvs,hk⟩|⟨kvs,hk⟩
    ·obtain⟨_,_,_,_,o,_,_,e,ex,_⟩:=I.hok p _ hk
     exact⟨o,e,ex⟩
    ·obtain⟨_,_,_,_,o,_,_,e,ex,_⟩:=I.hok p _ hk
     exact⟨o,e,ex⟩
   obtain⟨o,e,ex⟩:=z
   refine⟨⟨o,e,ex.1⟩,λa e2=> ?_⟩
   cases e2
   exact⟨o,e,ex.2.1⟩
  ·obtain⟨o,_,_,_,e,ex,_⟩:=I.hok p _ hk
   refine⟨⟨o,e,ex.1⟩,λa e2=> ?_⟩
   cases e2
   exact⟨o,e,ex.2.1⟩
 |_=>exact False.elim ty
def Xs(K:PySem.W.Frag)(T:String)(r:V->List V->Hp->VK->Prop)(to:TE)(t:TA):TE:=λσ H Q=>to σ H λx H1=>VV K T x H1/\t σ H1 λxs H2=>r x xs H2 Q
variable{o e:Expr}{es:List Expr}{to:TE}{t:TA}{name:Str}{apos cpos:Pos}{T id:String}{r:V->List V->Hp->VK->Prop}
theorem xP(pa:PlainAttrs T)(slot:Slot T name id)(hty:typeOf (.builtin id)=pure (.type "method_descriptor"))(hm:Xq X id r)(ho:PE X o to)(ha:PA X (e::es) t)
  (hbase:attributeBase o name X.env (eval o X.env)=eval o X.env:=by rfl)
  (hfew:((backTo cpos (starEach (e::es) X.env)).all (λx=> !x.1) && (backToKw cpos (keywordEach [] X.env)).all (λx=>x.1.isSome)
   && decide ((e::es).length+([]:List Keyword).length+(if([]:List Keyword).isEmpty then 0 else 1)<30))=true:=by rfl)
  (hline:(apos.endLine==cpos.line)=true:=by rfl)(hs:starEach (e::es) X.env=(false,eval e X.env)::starEach es X.env:=by rfl)(hplain:(backTo cpos (starEach es X.env)).any (·.1)=false:=by rfl):
  PE X (.Call (.Attribute o name apos) (e::es) [] cpos) (Xs X.K T r to t):=by
 intro pins s σ H Q I h
 refine wpAny_Call_method_late hbase hfew hline rfl (fN (ho pins s σ H _ I h) λv s1 ⟨x,H1,I1,r1,ty,q1⟩=> ?_)
 obtain⟨h1,h2⟩:=OS I1 r1 ty
 refine⟨T,id,pa,slot,hty,h1,h2,?_⟩
 have hA:=ha cpos pins s1 σ H1 _ I1 q1
 rw[hs]at hA ⊢
 refine Calls.callWith_builtin (by show(false||(backTo cpos (starEach es X.env)).any (·.1))=false;rw[hplain]<;>rfl) (Calls.evalArgs_plain ?_)
 exact fN hA λus s2 ⟨vs,H2,I2,r2,q2⟩=>hm pins s2 σ H2 x vs v us Q I2 r1 r2 q2
end
def VW(X:Cx)(id:String)(r:V->List V->Hp->VK->Prop):Prop:=
 ∀(pins:List (Addr×Obj)) (s:Shared) (σ:St) (H:Hp) (x:V) (xs:List V) (v:Value) (us:List Value) (Q:VK),Inv X pins σ H s->RelV x v->Vals xs us->r x xs H Q->
  wpAny (model X.prog X.w) X.A (call (.builtin id) (v::us)) (EP X pins σ Q) X.xe s
theorem Vals.one:∀{x:V} {us:List Value},Vals [x] us-> ∃u,us=[u]/\RelV x u
 |_,_,.cons r .nil=>⟨_,rfl,r⟩
theorem Vals.reverse{xs:List V}{us:List Value}(h:Vals xs us):Vals xs.reverse us.reverse:=by
 induction h with
 |nil=>exact .nil
 |cons r t ih=>rw[List.reverse_cons,List.reverse_cons];exact Vals.append ih (.cons r .nil)
section
variable{X:Cx}{pins:List (Addr×Obj)}{σ:St}{H:Hp}{s:Shared}{l b:Addr}{xs ys zs:List V}
theorem Inv.Ux{its its':List Value}{n:Nat}{f:Array Value->Array Value}{t':Nat}(I:Inv X pins σ H s)(hH:H l=some (.lst xs))
  (e:s.heap.get? l=some {cls:= .type "list",data:= .seq its.toArray n})(hf:f its.toArray=its'.toArray)(hv:Vals ys its')(hz:ys.length<=sizeLine):
  Inv X pins σ (upd H l (.lst ys)) {s with heap:=s.heap.update l (Obj.mapSeq f),toks:=t'}:=by
 have q:=PySem.IsL.update e f
 rw[hf]at q
 refine I.write (x:=l) (e:=l) (by rw[hH];exact trivial) (.inl rfl) (λb' u hb hu=>(Heap.get?_update_other s.heap (Obj.mapSeq f) (Ne.symm hb)).trans hu) ⟨_,q⟩ ?_
 exact⟨hz,its',_,hv,q⟩
theorem Inv.Uy{its:List Value}{t':Nat}(I:Inv X pins σ H s)(hv:Vals ys its)(hz:ys.length<=sizeLine):
  Inv X pins σ (upd H s.heap.objs.size (.lst ys)) {s with heap:=s.heap.push {cls:= .type "list",data:= .seq its.toArray},toks:=t'}:=
 I.laid (λ_ _ q=>Heap.get?_push_of_some _ q) (Nat.le_refl _) ⟨hz,its,0,hv,Heap.get?_push_size _ rfl⟩
theorem Inv.fresh(I:Inv X pins σ H s):H s.heap.objs.size=none:=I.hok.fresh (Nat.le_refl _)
theorem Inv.OT(I:Inv X pins σ H s)(hH:H l=some (.lst xs)):xs.length<=sizeLine/\ ∃(its:List Value) (n:Nat),Vals xs its/\xs.length=its.length/\s.heap.get? l=some {cls:= .type "list",data:= .seq its.toArray n}:=by
 obtain⟨z,its,n,r,e⟩:=I.hok l _ hH
 exact⟨z,its,n,r,r.length,e⟩
end
section
variable{X:Cx}
def LO:V->List V->Hp->VK->Prop:=λx vs H Q=> ∃l xs y,x= .ref l/\vs=[y]/\H l=some (.lst xs)/\xs.length<sizeLine/\Q .gP (upd H l (.lst (xs++ [y])))
theorem iO:VW X "list.append" LO:=by
 intro pins s σ H x vs v us Q I rx rv h
 obtain⟨l,xs,y,rfl,rfl,hH,hz,q⟩:=h
 cases rx
 obtain⟨u,rfl,ru⟩:=rv.one
 obtain⟨z,its,n,r,hl,e⟩:=I.OT hH
 refine call_meets F.slot_list_append ⟨_,e,rfl⟩ F.entry_list_append (F.args_list_append_2 _ _) (PySem.list_append l its.toArray n u (by rw[List.size_toArray];omega)) ⟨e,?_⟩
 refine⟨.gP,_,I.Ux (its':=its++ [u]) hH e (by simp) (r.append (.cons ru .nil)) ?_,rfl,q⟩
 rw[List.length_append,List.length_singleton]
 omega
def Uz:R2:=λx y H Q=> ∃l b xs zs,x= .ref l/\y= .ref b/\H l=some (.lst xs)/\H b=some (.lst zs)/\xs.length+zs.length<=sizeLine/\ ∀p,H p=none->Q (.ref p) (upd H p (.lst (xs++zs)))
theorem HS:tN X (binaryOp .Add) Uz:=by
 intro pins s σ H x y v u Q I rx ry h
 obtain⟨l,b,xs,zs,rfl,rfl,hH,hB,hz,q⟩:=h
 cases rx
 cases ry
 obtain⟨z,its,n,r,hl,e⟩:=I.OT hH
 obtain⟨z2,its2,n2,r2,hl2,e2⟩:=I.OT hB
 refine PySem.P.add_list e e2 ?_ (by rw[List.size_toArray,List.size_toArray];omega)
 have ea:its.toArray++its2.toArray=(its++its2).toArray:=by simp
 rw[ea]
 exact⟨.ref _,_,I.Uy (t':=s.toks) (r.append r2) (by rw[List.length_append];omega),rfl,q _ I.fresh⟩
end
section
variable{prog:Program}{w:World}{A:Around}{E:Value->Shared->Prop}{s:Shared}
end
section
variable{X:Cx}
end
end L2
namespace VX
open PySem PySem.W PySem.Calls PyProof.Rows
theorem tO{P:Params}{h:Heap}:∀(ns:List Int) (vs:List Value),WellAll P h vs (ns.map WData.int) ->IntsAre vs ns:=by
 intro ns
 induction ns with
 |nil=>
  intro vs w
  rw[List.map_nil]at w
  cases w
  exact .nil
 |cons n ns ih=>
  intro vs w
  rw[List.map_cons]at w
  cases w with
  |cons a b=>
   cases a
   exact .cons _ _ (ih _ b)
theorem EO{l:OpenLaw}{n:Nat}(hn:l.most=some n){P:Params}{h:Heap}{args:List WData}{vals:List Value}
  (hpre:l.row.toRowW.claim.pre args=true)(hwl:WellAll P h vals args):
  ∃a vs ns,vals=[Value.ref a]/\args=[WData.list (ns.map WData.int)]/\h.get? a=some {cls:= .type "list",data:= .seq vs.toArray}/\IntsAre vs ns/\ns.length<=n:=by
 have hsh:WShape.hasAll [] args [.list .int]=true:=(pre_splitW hpre).1
 have hc:l.pre.holds [] {args:=args}=true:=(pre_splitW hpre).2
 obtain⟨d,r,rfl,h1,h2⟩:=hasAllW_cons hsh
 obtain rfl:=hasAllW_nil h2
 obtain⟨xs,rfl,h3⟩:=hasW_list h1
 obtain⟨ns,rfl⟩:=items_int h3
 have hlen:ns.length<=n:=by
  unfold OpenLaw.pre at hc
  have h4:(WTm.not (.lt (.lit (.int (n:Int))) (.len (.arg 0)))).holds [] {args:=[.list (ns.map .int)]}=true:=by
   have h4:=(holds_andW hc).1
   rw[hn]at h4
   exact h4
  have h5:=condW_of h4 (w_not (w_lt w_lit (w_len_list (w_arg rfl))))
  rw[List.length_map]at h5
  refine Nat.le_of_not_lt λq=> ?_
  have q':(n:Int)<((ns.length:Nat):Int):=by omega
  first
   |(rw[decide_eq_true q']at h5;exact absurd h5 (by decide))
   |(simp at h5;omega)
 cases hwl with
 |cons w1 w2=>
  cases w2
  cases w1 with
  |list ho hall=>exact⟨_,_,ns,rfl,rfl,ho,tO ns _ hall,hlen⟩
theorem ER(l:OpenLaw)(args:List WData):l.row.toRowW.claim.post args (.bool true) args=true:=
 postW_of (r:=l.row.toRowW) (X:=(true==true))
  (show WShape.has [] (.bool true) .bool=true by first|rfl|decide|simp[WShape.has,WShape.arms,WShape.armsAll])
  (show(WTm.eq .res (.lit (.bool true))).value [] {args:=args,res:=some (.bool true),after:=args}=some (.bool (true==true))from w_eq_bool (w_res rfl) w_lit) rfl
theorem Ab{l:OpenLaw}{n:Nat}{q:Program}{loose:List Str}{XP:(Str->Option Value) ->Heap->Prop}{YP:World->Heap->Prop}{d:DefRec}
  (hn:l.most=some n)(hdf:d.params.defaults=[])
  (call:∀(w:World) (s₀ s₁:Shared) (mg mb:Str->Option Value) (fa:Addr) (o:Obj) (pm cd doc:Value) (a:Addr) (vs:List Value) (ns:List Int),
   Ground q loose [] XP w s₀ mg mb s₁.heap->YP w s₁.heap->
   s₁.heap.get? fa=some o->o.data= .func (docDef d.name d.params d.body d.scope pm cd doc) ->s₁.heap.CodeRec cd d.name->mg d.name=some (.ref fa) ->
   s₁.heap.get? a=some {cls:= .type "list",data:= .seq vs.toArray} ->IntsAre vs ns->ns.length<=n->s₁.gens= #[] ->
   codeAny (model l.prog w) callerA (.call (.ref fa) ⟨[.ref a],[]⟩) (λr s'=>r= .ok (.ret (.bool true))/\OldK s₁.heap s'.heap/\s'.os=s₁.os/\AllBare s'.gens) s₁):
  WalkO q loose XP YP l.row.toRowW d [] (λf vs=>PySem.call f vs):=by
 intro w s₀ s₁ mg mb G Y fa o pm cd doc dV kV ho hd hcd hD hmg hg args vals as hpre hlay hrd hwl hlo
 obtain rfl:dV= .none:=Dflts.none hD hdf
 obtain rfl:kV= .none:=Dflts.noKw hD
 obtain⟨a,vs,ns,rfl,rfl,hobj,hints,hlen⟩:=EO hn hpre hwl
 refine enter_call (codeAny_mono (call w s₀ s₁ mg mb fa o pm cd doc a vs ns G Y ho (fd_plain hd) hcd hmg hobj hints hlen hg) λr s' hq=> ?_)
 obtain⟨rfl,h2,h3,h4⟩:=hq
 exact⟨.inl ⟨.bool true,.bool true,[],rfl,λ_=>rfl,.bool true,ER l _,λ_=>⟨List.Pairwise.nil,λ_ hm=>(nomatch hm)⟩⟩,h2,h3,h4⟩
section
variable{prog:Program}{w:World}{A:Around}{E:Value->Shared->Prop}{s:Shared}{K:Frag}
def ledger(h:Heap)(L d:Addr):List (Addr×Obj):=(List.range h.objs.size).filterMap λa=>if a=L∨a=d then none else(h.get? a).map λo=>(a,o)
end
end VX
namespace L2
open PySem PySem.Spec PyProof.Rows
theorem xQ:∀{vs:List Value} {ns:List Int},IntsAre vs ns->Vals (ns.map V.int) vs
 |_,_,.nil=> .nil
 |_,_,.cons n t h=> .cons ⟨t,rfl⟩ (xQ h)
abbrev ZG {K:PySem.W.Frag} {h:Heap} (_:K.In h):PySem.W.Frag:=K
def gQ(s:Stmt):Arguments:=match s with
 | .FunctionDef _ a _ _ _ _ _ _ _ _=>a
 |_=>{posonlyargs:=[],args:=[],vararg:=none,kwonlyargs:=[],kw_defaults:=[],kwarg:=none,defaults:=[]}
def eY(s:Stmt):List Stmt:=match s with
 | .FunctionDef _ _ b _ _ _ _ _ _ _=>b
 |_=>[]
def aA(s:Stmt):Scope:=match s with
 | .FunctionDef _ _ _ _ _ _ sc _ _ _=>sc
 |_=>{kind:= .function,names:=[],isGenerator:=false,isCoroutine:=false}
abbrev cC:EK:=λ_ _ _ _ _ _=>False
abbrev E0:XK:=λ_ _ _=>False
theorem aM{X:Cx}:Passes cC X E0:=λ_ _ _ _ _ _ _ h=>h.elim
structure NR(K:PySem.W.Frag)(x qual:Str)(st:Stmt)(f:Addr)(fd:FuncData):Prop where
 ex:∃(oc:Value) (od:Option Addr) (kV doc pm:Value) (an:Option Addr) (cdv ct:Value) (osl:Array (Option Value)),
  fd=PySem.W.fnOf x qual (gQ st) (eY st) (aA st) .none kV doc pm an cdv ct/\K.lookup f=some ⟨oc,od,.func fd,osl⟩/\PySem.W.codeIn K cdv qual=true
 kp:PySem.W.keepIn K (.ref f)=true
section
variable{P:Program}{w:World}{K:PySem.W.Frag}{mg:Str->Option Value}{base:Heap}
theorem NR.ok{x qual:Str}{st:Stmt}{f:Addr}{fd:FuncData}{N ps:List Str}{k:Nat}{sp:Sp}(F:NR K x qual st f fd)(S:aQ N ps (aA st))(len:∀vs H Q E,sp vs H Q E->vs.length=ps.length)
  (hbody:∀(cdv:Value) (A:Around) (outer:List Env) (s:Shared) (H:Hp) (vs:List V) (Q:VK) (E:XK),gC k (A.deeper (envOfC qual (aA st) s.heap.objs.size f cdv)) ->sp vs H Q E->
   ∃t,yp (yt cC P w K mg base N qual (aA st) f cdv A outer s H E).GZ (eY st) t/\t {nx:=λ_ H'=>Q .gP H',rt:=Q} (start N vs) H):qA P w K mg base cC (k+1) f fd ps sp:=by
 obtain⟨oc,od,kV,doc,pm,an,cdv,ct,osl,rfl,lk,hcd⟩:=F.ex
 refine NQ lk hcd S len λA outer s H vs Q E hr Lr=> ?_
 obtain⟨t,h,q⟩:=hbody cdv A outer s H vs Q E hr Lr
 exact⟨t,h.GZ,q⟩
theorem NR.binds{x qual:Str}{st:Stmt}{f:Addr}{fd:FuncData}{ps:List Str}(F:NR K x qual st f fd)
  (h:∀(kV doc pm:Value) (an:Option Addr) (cdv ct:Value) (us:List Value),us.length=ps.length->bindArgs (PySem.W.fnOf x qual (gQ st) (eY st) (aA st) .none kV doc pm an cdv ct) ⟨us,[]⟩=pure (ps.zip us)):Binds K fd ps []:=by
 obtain⟨oc,od,kV,doc,pm,an,cdv,ct,osl,rfl,lk,hcd⟩:=F.ex
 exact .all (h kV doc pm an cdv ct)
theorem HU{x qual:Str}{st:Stmt}{f:Addr}{oc:Value}{od an:Option Addr}{osl:Array (Option Value)}{kV doc pm cdv ct:Value}(l:K.lookup f=some ⟨oc,od,.func (PySem.W.fnOf x qual (gQ st) (eY st) (aA st) .none kV doc pm an cdv ct),osl⟩)
  (c:PySem.W.codeIn K cdv qual=true)(k:PySem.W.keepIn K (.ref f)=true):NR K x qual st f (PySem.W.fnOf x qual (gQ st) (eY st) (aA st) .none kV doc pm an cdv ct):=⟨⟨oc,od,kV,doc,pm,an,cdv,ct,osl,rfl,l,c⟩,k⟩
end
theorem iP{n:Nat}(h:n<=1000):n<sizeLine:=Nat.lt_of_le_of_lt h (by decide)
section
variable{X:Cx}
theorem pv(i:Nat){x:Str}{pos:Pos}(hN:X.N[i]?=some x:=by rfl)(hv:NG X.env.scope x:=by first|exact Or.inl rfl|exact Or.inr (Or.inl rfl)|exact Or.inr (Or.inr rfl))(hd:(x==("__debug__":Str))=false:=by decide)
  (hcd:(x==("__classdict__":Str))=false:=by decide):PE X (.Name x pos) (aH i):=OA hN hv hd hcd
end
theorem pK{A B:Prop}(h:B):if false=true then A else B:=by
 rw[if_neg Bool.false_ne_true]
 exact h
theorem uF{A B:Prop}(h:A):if true=true then A else B:=by
 rw[if_pos rfl]
 exact h
theorem jo{c A B:Prop} [Decidable c](h1:c->A)(h2:¬c->B):if c then A else B:=by
 by_cases h:c
 ·rw[if_pos h]
  exact h1 h
 ·rw[if_neg h]
  exact h2 h
theorem NS{c A B:Prop} [Decidable c](hc:c)(h:B):if(!decide c)=true then A else B:=by
 rw[decide_eq_true hc]
 exact pK h
def az(H H':Hp):Prop:=∀b o,H b=some o->H' b=some o
theorem az.refl(H:Hp):az H H:=λ_ _ h=>h
theorem az.trans{H H1 H2:Hp}(a:az H H1)(b:az H1 H2):az H H2:=λc o h=>b c o (a c o h)
theorem az.free{H H':Hp}(e:az H H'){l:Addr}(h:H' l=Option.none):H l=Option.none:=by
 cases q:H l with
 |none=>rfl
 |some o=>
  rw[e l o q]at h
  cases h
theorem az.seq{K:PySem.W.Frag}{H H':Hp}{a:Addr}{xs:List V}(e:az H H')(h:aS K H a xs):aS K H' a xs:=by
 rcases h with(h|⟨o,h⟩)|h
 ·exact .inl (.inl (e _ _ h))
 ·exact .inl (.inr ⟨o,e _ _ h⟩)
 ·exact .inr h
def bR(env:Env):List (Str×NameKind) ->List (Str×Addr) ->List (Str×Addr)
 | [],acc=>acc
 |(n,k)::r,acc=>if k== .free then bR env r ((n,(env.cells.lookup n).getD 0)::acc)else bR env r acc
theorem pW{env:Env}(f:Str×NameKind->List (Str×Addr) ->Sem (ForInStep (List (Str×Addr))))
  (hf:∀n k cs,f (n,k) cs=if k==NameKind.free then(do let a<-cellOf env n;pure (.yield ((n,a)::cs)))else pure (.yield cs)):
  ∀(ns:List (Str×NameKind)) (acc:List (Str×Addr)),(∀y∈ns,y.2= .free->(env.cells.lookup y.1).isSome=true) ->forIn ns acc f=pure (bR env ns acc)
 | [],acc,_=>by rw[List.forIn_nil];rfl
 |(n,k)::r,acc,h=>by
  rw[List.forIn_cons,hf]
  have hr:∀y∈r,y.2= .free->(env.cells.lookup y.1).isSome=true:=λy hy=>h y (List.mem_cons_of_mem _ hy)
  unfold bR
  by_cases hk:(k==NameKind.free)=true
  ·rw[if_pos hk,if_pos hk]
   obtain⟨c,hc⟩:=Option.isSome_iff_exists.mp (h (n,k) List.mem_cons_self (beq_iff_eq.mp hk))
   have hc':env.cells.lookup n=some c:=hc
   have e:cellOf env n=pure c:=by unfold cellOf;rw[hc']
   rw[e,pure_bind,pure_bind,hc']
   exact pW f hf r _ hr
  ·rw[if_neg hk,if_neg hk,pure_bind]
   exact pW f hf r _ hr
theorem wM{env:Env}{scope:Scope}(h:∀y∈scope.names,y.2= .free->(env.cells.lookup y.1).isSome=true):closureFor scope env=pure (bR env scope.names []):=by
 simp only[closureFor]
 rw[pW (env:=env) _ (λn k cs=>by cases hk:k==NameKind.free<;>simp[hk]) _ _ h]
 rfl
theorem jX{env:Env}{y:Str}{c:Addr}:∀{ns:List (Str×NameKind)} {acc:List (Str×Addr)},(y,c)∈bR env ns acc->(y,c)∈acc∨((y,NameKind.free)∈ns/\c=(env.cells.lookup y).getD 0)
 | [],acc,h=> .inl h
 |(n,k)::r,acc,h=>by
  unfold bR at h
  split at h
  ·rename_i hk
   rcases jX h with h|⟨h,e⟩
   ·rcases List.mem_cons.mp h with e|h
    ·cases e
     exact .inr ⟨by rw[beq_iff_eq.mp hk];exact List.mem_cons_self,rfl⟩
    ·exact .inl h
   ·exact .inr ⟨List.mem_cons_of_mem _ h,e⟩
  ·rcases jX h with h|⟨h,e⟩
   ·exact .inl h
   ·exact .inr ⟨List.mem_cons_of_mem _ h,e⟩
theorem kZ{env:Env}{y:Str}:∀{ns:List (Str×NameKind)} {acc:List (Str×Addr)},acc.lookup y=some ((env.cells.lookup y).getD 0)∨(y,NameKind.free)∈ns->(bR env ns acc).lookup y=some ((env.cells.lookup y).getD 0)
 | [],acc,h=>by
  rcases h with h|h
  ·exact h
  ·cases h
 |(n,k)::r,acc,h=>by
  unfold bR
  split
  ·rename_i hk
   refine kZ ?_
   by_cases hy:y=n
   ·subst hy
    exact .inl (by simp[List.lookup])
   ·have hb:(y==n)=false:=by simpa using hy
    rcases h with h|h
    ·exact .inl (by rw[List.lookup_cons,hb];exact h)
    ·rcases List.mem_cons.mp h with e|h
     ·cases e;exact absurd rfl hy
     ·exact .inr h
  ·rename_i hk
   refine kZ ?_
   rcases h with h|h
   ·exact .inl h
   ·rcases List.mem_cons.mp h with e|h
    ·cases e;exact absurd rfl hk
    ·exact .inr h
theorem gf{y:Str}:∀{ns:List (Str×NameKind)} {n:Nat} {acc:List (Str×Addr)},(y,NameKind.cell)∉ns->(cellsFrom n ns acc).lookup y=acc.lookup y
 | [],_,_,_=>rfl
 |(z,k)::r,n,acc,h=>by
  unfold cellsFrom
  have hr:(y,NameKind.cell)∉r:=λq=>h (List.mem_cons_of_mem _ q)
  split
  ·rename_i hk
   rw[gf hr]
   have hy:(y==z)=false:=by
    cases e:y==z with
    |false=>rfl
    |true=>exact absurd (by rw[beq_iff_eq.mp e,beq_iff_eq.mp hk];exact List.mem_cons_self) h
   rw[List.lookup_cons,hy]
  ·exact gf hr
theorem k8{y:Str}{c:Addr}:∀{ns:List (Str×NameKind)} {n:Nat} {acc:List (Str×Addr)},(y,c)∈cellsFrom n ns acc->(y,c)∈acc∨(n<=c/\(y,NameKind.cell)∈ns)
 | [],_,_,h=> .inl h
 |(z,k)::r,n,acc,h=>by
  unfold cellsFrom at h
  split at h
  ·rename_i hk
   rcases k8 h with h|⟨h,e⟩
   ·rcases List.mem_cons.mp h with e|h
    ·cases e
     exact .inr ⟨Nat.le_refl _,by rw[beq_iff_eq.mp hk];exact List.mem_cons_self⟩
    ·exact .inl h
   ·exact .inr ⟨by omega,List.mem_cons_of_mem _ e⟩
  ·rcases k8 h with h|⟨h,e⟩
   ·exact .inl h
   ·exact .inr ⟨h,List.mem_cons_of_mem _ e⟩
theorem k9:∀{ns:List (Str×NameKind)} {n:Nat} {acc:List (Str×Addr)},(∀x y c,(x,c)∈acc->(y,c)∈acc->x=y) ->(∀y c,(y,c)∈acc->c<n) ->
  ∀x y c,(x,c)∈cellsFrom n ns acc->(y,c)∈cellsFrom n ns acc->x=y
 | [],_,_,h,_=>h
 |(z,k)::r,n,acc,h,hl=>by
  unfold cellsFrom
  split
  ·refine k9 (λx y c h1 h2=> ?_) (λy c h1=> ?_)
   ·rcases List.mem_cons.mp h1 with e1|h1<;>rcases List.mem_cons.mp h2 with e2|h2
    ·cases e1;cases e2;rfl
    ·cases e1;exact absurd (hl _ _ h2) (Nat.lt_irrefl _)
    ·cases e2;exact absurd (hl _ _ h1) (Nat.lt_irrefl _)
    ·exact h x y c h1 h2
   ·rcases List.mem_cons.mp h1 with e1|h1
    ·cases e1;exact Nat.lt_succ_self _
    ·exact Nat.lt_succ_of_lt (hl _ _ h1)
  ·exact k9 h hl
theorem jq:∀(ns:List (Str×NameKind)) (h:Heap) (acc:List (Str×Addr)) (y:Str) (c:Addr),(y,c)∈cellsFrom h.objs.size ns acc->(y,c)∈acc∨(pushCells h ns).IsCell c none
 | [],_,_,_,_,hm=> .inl hm
 |(z,k)::r,h,acc,y,c,hm=>by
  unfold cellsFrom at hm
  unfold pushCells
  split at hm
  ·rename_i hk
   rw[if_pos hk]
   have hm':(y,c)∈cellsFrom (h.push {cls:= .type "cell",data:= .cell none}).objs.size r ((z,h.objs.size)::acc):=by rw[Heap.size_push];exact hm
   rcases jq r _ _ y c hm' with hm|hm
   ·rcases List.mem_cons.mp hm with e|hm
    ·cases e
     exact .inr ⟨_,pushCells_keeps _ _ _ _ (Heap.get?_push_size _ rfl),rfl⟩
    ·exact .inl hm
   ·exact .inr hm
  ·rename_i hk
   rw[if_neg hk]
   exact jq r h acc y c hm
def kindB(names:List (Str×NameKind))(y:Str)(k:NameKind):Bool:=names.lookup y==some k
def uH:List Str->Bool
 | []=>true
 |x::r=> !r.contains x && uH r
theorem pX:∀{l:List Str},uH l=true->l.Nodup
 | [],_=>List.nodup_nil
 |x::r,h=>by
  unfold uH at h
  rw[Bool.and_eq_true]at h
  refine List.nodup_cons.mpr ⟨λhm=> ?_,pX h.2⟩
  have:r.contains x=true:=List.contains_iff_mem.mpr hm
  rw[this]at h
  exact absurd h.1 (by decide)
def BP:List Str->List Str->(Str->Str->Bool) ->Bool
 | [],[],_=>true
 |x::r,y::t,p=>p x y && BP r t p
 |_,_,_=>false
theorem Ac:∀{l m:List Str} {p:Str->Str->Bool},BP l m p=true->l.length=m.length
 | [],[],_,_=>rfl
 | [],_::_,_,h=>by cases h
 |_::_,[],_,h=>by cases h
 |x::r,y::t,p,h=>by
  unfold BP at h
  rw[Bool.and_eq_true]at h
  simp[Ac h.2]
theorem Ad:∀{l m:List Str} {p:Str->Str->Bool},BP l m p=true-> ∀(i:Nat) (x:Str),l[i]?=some x-> ∃y,m[i]?=some y/\p x y=true
 | [],[],_,_,i,x,h=>by simp at h
 | [],_::_,_,h,_,_,_=>by cases h
 |_::_,[],_,h,_,_,_=>by cases h
 |x::r,y::t,p,h,0,z,e=>by
  unfold BP at h
  rw[Bool.and_eq_true]at h
  simp at e;subst e
  exact⟨y,rfl,h.1⟩
 |x::r,y::t,p,h,i+1,z,e=>by
  unfold BP at h
  rw[Bool.and_eq_true]at h
  obtain⟨w,e1,e2⟩:=Ad h.2 i z (by simpa using e)
  exact⟨w,by simpa using e1,e2⟩
def yw(names ks:List (Str×NameKind))(own N2 N:List Str):Bool:=
 names.all (λy=>y.2 != .free||kindB ks y.1 .cell||kindB ks y.1 .free) &&
 uH (names.map (·.1)) && uH (own++N2) &&
 names.all (λy=> !(y.2== .local||y.2== .cell)||own.contains y.1||y.1==(".0":Str)) &&
 BP N2 N (λy z=>(y==z && y !=(".0":Str))||names.lookup y==none) &&
 own.all (λx=>kindB names x .local||kindB names x .cell)
structure qu(names ks:List (Str×NameKind))(own N2 N:List Str):Prop where
 fr:∀y,(y,NameKind.free)∈names->ks.lookup y=some .cell∨ks.lookup y=some .free
 nd:(names.map (·.1)).Nodup
 LP:(own++N2).Nodup
 owns:∀y k,(y,k)∈names->k= .local∨k= .cell->y∈own∨y=(".0":Str)
 zip:∀(j:Nat) (y:Str),N2[j]?=some y->(N[j]?=some y/\y≠(".0":Str))∨names.lookup y=none
 len:N2.length=N.length
 own:∀x∈own,names.lookup x=some .local∨names.lookup x=some .cell
theorem jr{names ks:List (Str×NameKind)}{own N2 N:List Str}(h:yw names ks own N2 N=true):qu names ks own N2 N:=by
 unfold yw at h
 simp only[Bool.and_eq_true]at h
 obtain⟨⟨⟨⟨⟨h1,h2⟩,h3⟩,h4⟩,h5⟩,h6⟩:=h
 refine⟨λy hy=> ?_,pX h2,pX h3,λy k hy hk=> ?_,λj y e=> ?_,Ac h5,λx hx=> ?_⟩
 ·have q:=List.all_eq_true.mp h1 _ hy
  simp only[Bool.or_eq_true]at q
  rcases q with(q|q)|q
  ·exact absurd q (by simp)
  ·exact .inl (by simpa [kindB]using q)
  ·exact .inr (by simpa [kindB]using q)
 ·have q:=List.all_eq_true.mp h4 _ hy
  simp only[Bool.or_eq_true]at q
  rcases q with(q|q)|q
  ·rcases hk with rfl|rfl<;>simp at q
  ·exact .inl (List.contains_iff_mem.mp q)
  ·exact .inr (by simpa using q)
 ·obtain⟨z,e1,e2⟩:=Ad h5 j y e
  simp only[Bool.or_eq_true,Bool.and_eq_true]at e2
  rcases e2 with⟨e2,e3⟩|e2
  ·exact .inl ⟨by rw[e1,beq_iff_eq.mp e2],by simpa using e3⟩
  ·exact .inr (by simpa using e2)
 ·have q:=List.all_eq_true.mp h6 _ hx
  simp only[Bool.or_eq_true]at q
  rcases q with q|q
  ·exact .inl (by simpa [kindB]using q)
  ·exact .inr (by simpa [kindB]using q)
theorem cy{α:Type}:∀{l:List (Str×α)} {y:Str} {k:α},(l.map (·.1)).Nodup->(y,k)∈l->l.lookup y=some k
 |(z,v)::r,y,k,nd,h=>by
  rw[List.map_cons,List.nodup_cons]at nd
  rw[List.lookup_cons]
  rcases List.mem_cons.mp h with e|h'
  ·cases e;simp
  ·have:(y==z)=false:=by
    cases e:y==z with
    |false=>rfl
    |true=>
     have e':y=z:=beq_iff_eq.mp e
     have q:y∈r.map (λx=>x.1):=List.mem_map.mpr ⟨(y,k),h',rfl⟩
     exact absurd (by rw[<-e'];exact q) nd.1
   rw[this]
   exact cy nd.2 h'
theorem jL{sc:Scope}{env:Env}{y:Str}:∀{ns:List (Str×NameKind)},
  (ns.map λ (n,k)=>if(k==NameKind.free && env.scope.kind== .function && env.kindOf n==some .cell)then(n,NameKind.cell)else(n,k)).lookup y=
   (ns.lookup y).map λk=>if(k==NameKind.free && env.scope.kind== .function && env.kindOf y==some .cell)then .cell else k
 | []=>rfl
 |(n,k)::r=>by
  have ih:= @jL sc env y r
  rw[List.map_cons,List.lookup_cons]
  show List.lookup y ((if(k==NameKind.free && env.scope.kind== .function && env.kindOf n==some .cell)=true then(n,NameKind.cell)else(n,k))::_)=_
  cases hx:y==n with
  |true=>
   have e:y=n:=beq_iff_eq.mp hx
   subst e
   by_cases hc:(k==NameKind.free && env.scope.kind== .function && env.kindOf y==some .cell)=true
   ·rw[if_pos hc]
    simp only[List.lookup_cons,hx,Option.map_some,if_pos hc]
   ·rw[if_neg hc]
    simp only[List.lookup_cons,hx,Option.map_some,if_neg hc]
  |false=>
   by_cases hc:(k==NameKind.free && env.scope.kind== .function && env.kindOf n==some .cell)=true
   ·rw[if_pos hc];simp only[List.lookup_cons,hx];exact ih
   ·rw[if_neg hc];simp only[List.lookup_cons,hx];exact ih
def Cx.comp(X:Cx)(sc:Scope)(N':List Str)(s:Shared)(H:Hp)(fp:List Addr):Cx:=
 {X with
  N:=N'
  s₀:=s
  H₀:=H
  env:=compEnvC sc (cellsFrom (s.heap.objs.size+2) sc.names (bR X.env sc.names [])) (s.heap.objs.size+1) X.env
  outer:=X.stack
  ex:=fp
  fn:=λy=>sc.names.lookup y==some .cell
  pn:=[]
  xe:=λ_ _=>False}
section
variable{X:Cx}{pins:List (Addr×Obj)}{σ:St}{H:Hp}{s:Shared}{sc:Scope}{own N2:List Str}{fp:List Addr}
theorem jY(I:Inv X pins σ H s)(B:qu sc.names X.env.scope.names own N2 X.N):∀y,(y,NameKind.free)∈sc.names-> ∃c,X.env.cells.lookup y=some c:=λy hy=>by
 rcases B.fr y hy with q|q
 ·exact I.ok.has y (.inl q)
 ·exact I.ok.has y (.inr q)
theorem qC(I:Inv X pins σ H s)(B:qu sc.names X.env.scope.names own N2 X.N):closureFor sc X.env=pure (bR X.env sc.names []):=
 wM λy hy hk=>by
  obtain⟨c,e⟩:=jY I B y.1 (by rw[<-hk];exact hy)
  rw[e];rfl
theorem jb(I:Inv X pins σ H s)(B:qu sc.names X.env.scope.names own N2 X.N){n:Nat}{y:Str}{c:Addr}(h:(y,c)∈cellsFrom n sc.names (bR X.env sc.names [])):
  (n<=c/\(y,NameKind.cell)∈sc.names)∨((y,NameKind.free)∈sc.names/\X.env.cells.lookup y=some c):=by
 rcases k8 h with h|h
 ·rcases jX h with h|⟨h,e⟩
  ·cases h
  ·obtain⟨c',e'⟩:=jY I B y h
   rw[e']at e
   exact .inr ⟨h,by rw[e',e];rfl⟩
 ·exact .inl h
theorem mK(I:Inv X pins σ H s)(B:qu sc.names X.env.scope.names own N2 X.N){n:Nat}{y:Str}{c:Addr}(hy:(y,NameKind.free)∈sc.names)(hc:X.env.cells.lookup y=some c):
  (cellsFrom n sc.names (bR X.env sc.names [])).lookup y=some c:=by
 rw[gf,kZ (.inr hy),hc]
 ·rfl
 ·intro q
  have e1:=cy B.nd hy
  rw[cy B.nd q]at e1
  cases e1
theorem ES(I:Inv X pins σ H s)(B:qu sc.names X.env.scope.names own N2 X.N){n:Nat}(hn:s.heap.objs.size<=n){x y:Str}{c:Addr}(h1:(x,c)∈cellsFrom n sc.names (bR X.env sc.names []))
  (h2:(y,c)∈cellsFrom n sc.names (bR X.env sc.names [])):x=y:=by
 have old:∀z c,(z,c)∈bR X.env sc.names [] ->X.env.cells.lookup z=some c:=λz c hm=>by
  rcases jX hm with h|⟨h,e⟩
  ·cases h
  ·obtain⟨c',e'⟩:=jY I B z h
   rw[e']at e
   rw[e',e];rfl
 refine k9 (λx y c h1 h2=>I.ok.inj x y c (old _ _ h1) (old _ _ h2)) (λz c hm=> ?_) x y c h1 h2
 obtain⟨v,q⟩:=I.cell z c (old _ _ hm)
 exact Nat.lt_of_lt_of_le q.lt hn
theorem yx(I:Inv X pins σ H s)(B:qu sc.names X.env.scope.names own N2 X.N){n:Nat}{env':Env}{h':Heap}{m:Str->Option Value}{j:Nat}{y:Str}{v:V}(hN:N2[j]?=some y)(hs:σ[j]?=some (some v))
  (hcl:env'.cells=cellsFrom n sc.names (bR X.env sc.names []))(hkd:∀y,(y,NameKind.free)∈sc.names->env'.kindOf y=some .cell∨env'.kindOf y=some .free)
  (hin:NG env'.scope y-> ∃k,sc.names.lookup y=some k)(hown:y∉own)
  (keep:∀b o,s.heap.get? b=some o->h'.get? b=some o)(hv:NG env'.scope y)(hk2:∀k,sc.names.lookup y=some k->k= .local∨k= .cell∨k= .free):∃u,RelV v u/\Look env' h' m y u:=by
 obtain⟨k,hk⟩:=hin hv
 rcases B.zip j y hN with⟨e,n0⟩|e
 ·have hm:=mem_of_lookup hk
  have kf:k= .free:=by
   rcases hk2 k hk with z|z|z
   ·rcases B.owns y k hm (.inl z)with q|q
    ·exact absurd q hown
    ·exact absurd q n0
   ·rcases B.owns y k hm (.inr z)with q|q
    ·exact absurd q hown
    ·exact absurd q n0
   ·exact z
  subst kf
  have hX:NG X.env.scope y:=by
   rcases B.fr y hm with q|q
   ·exact .inr (.inl q)
   ·exact .inr (.inr q)
  obtain⟨m0,_,hl⟩:=I.loc
  obtain⟨u,r,l⟩:=hl j y v e hs hX
  refine⟨u,r,.inr ⟨hkd y hm,?_⟩⟩
  rcases l with⟨kl,_⟩|⟨_,c,hc,z⟩
  ·rcases B.fr y hm with q|q
   ·have Rg:X.env.scope.names.lookup y=some .local:=kl
    rw[q]at Rg;cases Rg
   ·have Rg:X.env.scope.names.lookup y=some .local:=kl
    rw[q]at Rg;cases Rg
  ·exact⟨c,by rw[hcl];exact mK I B hm hc,z.keeps keep⟩
 ·rw[hk]at e;cases e
end
theorem kR{M:Model}{A:Around}{E:Value->Shared->Prop}{s:Shared}{sc:Scope}{g:Addr}{cl:List (Str×Addr)}{qual:Str}{env:Env}{Q:Env->Shared->Prop}
  (h:Q {scope:=sc,locals:=s.heap.objs.size,globals:=g,cells:=cellsFrom (s.heap.objs.size+1) sc.names cl,qual:=qual,func:=none,code:=env.code,frame:=env.frame,builtins:=env.builtins}
   {s with heap:=pushCells (s.heap.push {cls:= .type "dict",data:= .dict #[]}) sc.names}):
  wpAny M A (newFunctionEnv sc g cl [] qual none .none (some env)) Q E s:=by
 simp only[newFunctionEnv,Option.isSome_some,if_true]
 refine wpAny_bind (wpAny_alloc ?_)
 refine wpAny_bind (wpAny_layCells _ (λname kind cells=>by cases hkc:kind==NameKind.cell<;>simp[hkc]) _ _ _ _ ?_)
 rw[show({s with heap:=s.heap.push {cls:= .type "dict",data:= .dict #[]}}:Shared).heap.objs.size=s.heap.objs.size+1 from Heap.size_push ..]
 simp only[List.forIn_nil]
 exact wpAny_bind (wpAny_pure (wpAny_pure h))
section
variable{X:Cx}{pins:List (Addr×Obj)}{σ:St}{H:Hp}{s:Shared}{sc:Scope}{own N2:List Str}{fp:List Addr}
theorem uI{env:Env}{y:Str}(hv:NG (relabel sc env) y):∃k,sc.names.lookup y=some k/\(k= .local∨k= .cell∨k= .free):=by
 have q:∀k,(relabel sc env).names.lookup y=some k->(k= .local∨k= .cell∨k= .free) -> ∃k,sc.names.lookup y=some k/\(k= .local∨k= .cell∨k= .free):=λk e hk=>by
  have e':=(jL (sc:=sc) (env:=env) (y:=y) (ns:=sc.names)).symm.trans e
  cases z:sc.names.lookup y with
  |none=>rw[z]at e';cases e'
  |some k0=>
   rw[z]at e'
   simp only[Option.map_some,Option.some.injEq]at e'
   refine⟨k0,rfl,?_⟩
   split at e'
   ·rename_i hc
    simp only[Bool.and_eq_true]at hc
    exact .inr (.inr (by simpa using hc.1.1))
   ·rw[e'];exact hk
 rcases hv with e|e|e
 ·exact q _ e (.inl rfl)
 ·exact q _ e (.inr (.inl rfl))
 ·exact q _ e (.inr (.inr rfl))
theorem kind_free(B:qu sc.names X.env.scope.names own N2 X.N){env:Env}{y:Str}(hy:(y,NameKind.free)∈sc.names):(relabel sc env).names.lookup y=some .cell∨(relabel sc env).names.lookup y=some .free:=by
 have e:=jL (sc:=sc) (env:=env) (y:=y) (ns:=sc.names)
 rw[cy B.nd hy]at e
 simp only[Option.map_some]at e
 split at e
 ·exact .inl e
 ·exact .inr e
theorem jZ{env:Env}{y:Str}{k:NameKind}(hy:sc.names.lookup y=some k)(hk:k= .local∨k= .cell):(relabel sc env).names.lookup y=some k:=by
 have e:=jL (sc:=sc) (env:=env) (y:=y) (ns:=sc.names)
 rw[hy]at e
 simp only[Option.map_some]at e
 rcases hk with rfl|rfl
 ·exact e
 ·exact e
theorem LQ(I:Inv X pins σ H s)(B:qu sc.names X.env.scope.names own N2 X.N)(hk:sc.kind= .function)(hf:∀b∈fp,ff X pins H b)(ho:∀b∈fp,∃o,s.heap.get? b=some o):(X.comp sc (own++N2) s H fp).Ok:=by
 have lt:∀b∈fp,b<s.heap.objs.size:=λb hb=>let⟨o,e⟩:=ho b hb;Heap.lt_size e
 have jI:∀y c,(cellsFrom (s.heap.objs.size+2) sc.names (bR X.env sc.names [])).lookup y=some c->(s.heap.objs.size+2<=c/\(y,NameKind.cell)∈sc.names)∨((y,NameKind.free)∈sc.names/\X.env.cells.lookup y=some c):=
  λy c h=>jb I B (mem_of_lookup h)
 refine⟨I.ok.mod,hk,I.ok.glob,I.ok.blt,Nat.le_succ _,λx y c h1 h2=> ?_,λy hy=> ?_,λy c hy hc=> ?_,I.ok.hd,I.ok.frames,.inl rfl,λb hb=>⟨?_,λy c hc=> ?_⟩,I.bs,Nat.le_trans I.ok.LD I.sz,λb o e hb=> ?_,λb hb hs=> ?_,I.stack,I.uf⟩
 ·exact ES I B (by omega) (mem_of_lookup h1) (mem_of_lookup h2)
 ·have hy':(relabel sc X.env).names.lookup y=some .cell∨(relabel sc X.env).names.lookup y=some .free:=hy
  obtain⟨k,e,NT⟩:=uI (env:=X.env) (y:=y) (sc:=sc) (by rcases hy' with q|q;exact .inr (.inl q);exact .inr (.inr q))
  rcases NT with rfl|rfl|rfl
  ·have:=jZ (env:=X.env) e (.inl rfl)
   rcases hy' with q|q
   ·rw[q]at this;cases this
   ·rw[q]at this;cases this
  ·exact Option.isSome_iff_exists.mp (PySem.W.cellsFrom_some sc.names _ _ (.inl e))
  ·obtain⟨c,hc⟩:=jY I B y (mem_of_lookup e)
   exact⟨c,mK I B (mem_of_lookup e) hc⟩
 ·have hy':sc.names.lookup y=some .cell:=by
   have q:(sc.names.lookup y==some NameKind.cell)=true:=hy
   simpa using q
  rcases jI y c hc with⟨q,_⟩|⟨q,_⟩
  ·show s.heap.objs.size<=c
   omega
  ·rw[cy B.nd q]at hy';cases hy'
 ·exact Nat.ne_of_lt (Nat.lt_succ_of_lt (lt b hb))
 ·have hl:=lt b hb
  rcases jI y c hc with⟨q,_⟩|⟨_,q⟩
  ·exact Nat.ne_of_gt (Nat.lt_of_lt_of_le hl (Nat.le_trans (Nat.le_add_right _ 2) q))
  ·exact(hf b hb).2.2.2.2.1 y c q
 ·rcases(hf b hb).2.2.2.1 with z|z
  ·exact I.ok.EE b o e z
  ·exact absurd (Nat.lt_of_lt_of_le (Heap.lt_size (I.ok.bs b o e).1) z) (Nat.lt_irrefl _)
 ·rcases List.mem_cons.mp (I.uz b hs)with e|e
  ·exact(hf b hb).2.1 e
  ·exact(hf b hb).2.2.1 e
theorem Ae(I:Inv X pins σ H s)(B:qu sc.names X.env.scope.names own N2 X.N)(hk:sc.kind= .function)(hf:∀b∈fp,ff X pins H b)(ho:∀b∈fp,∃o,s.heap.get? b=some o):
  Inv (X.comp sc (own++N2) s H fp) [] (List.replicate own.length none++σ) (upd H s.heap.objs.size (.lst []))
   {s with heap:=pushCells ((s.heap.push {cls:= .type "list",dict:=none,data:= .seq ([]:List Value).toArray}).push {cls:= .type "dict",data:= .dict #[]}) sc.names}:=by
 have k1:∀b o,(s.heap.push {cls:= .type "list",dict:=none,data:= .seq ([]:List Value).toArray}).get? b=some o->
   (pushCells ((s.heap.push {cls:= .type "list",dict:=none,data:= .seq ([]:List Value).toArray}).push {cls:= .type "dict",data:= .dict #[]}) sc.names).get? b=some o:=
  λb o e=>pushCells_keeps _ _ b o (Heap.get?_push_of_some _ e)
 have k0:∀b o,s.heap.get? b=some o->
   (pushCells ((s.heap.push {cls:= .type "list",dict:=none,data:= .seq ([]:List Value).toArray}).push {cls:= .type "dict",data:= .dict #[]}) sc.names).get? b=some o:=
  λb o e=>k1 b o (Heap.get?_push_of_some _ e)
 have sz:((s.heap.push {cls:= .type "list",dict:=none,data:= .seq ([]:List Value).toArray}).push {cls:= .type "dict",data:= .dict #[]}).objs.size=s.heap.objs.size+2:=by rw[Heap.size_push,Heap.size_push]
 have jI:∀y c,(cellsFrom (s.heap.objs.size+2) sc.names (bR X.env sc.names [])).lookup y=some c->(s.heap.objs.size+2<=c/\(y,NameKind.cell)∈sc.names)∨((y,NameKind.free)∈sc.names/\X.env.cells.lookup y=some c):=
  λy c h=>jb I B (mem_of_lookup h)
 have HV:∀b,s.heap.objs.size<b->upd H s.heap.objs.size (.lst []) b=none:=λb hb=>by
  rw[aE (Nat.ne_of_gt hb)]
  exact I.hok.fresh (Nat.le_of_lt hb)
 refine⟨LQ I B hk hf ho,rfl,.refl I.bare.bare,Un.laid k0 (Nat.le_refl _) I.fresh,⟨λ_=>none,?_,λi y v e1 e2 e3=> ?_⟩,λy c hc=> ?_,HV _ (Nat.lt_succ_self _),λy c hc=> ?_,λp hp=> ?_,I.hok.laid k0 (Nat.le_refl _) ?_,?_⟩
 ·have:=Heap.Ns.new (s.heap.push {cls:= .type "list",dict:=none,data:= .seq ([]:List Value).toArray}) (.type "dict")
  rw[Heap.size_push]at this
  exact this.keeps (pushCells_keeps _ _)
 ·by_cases hi:i<own.length
  ·rw[List.getElem?_append_left (by simpa using hi),List.getElem?_replicate]at e2
   split at e2<;>cases e2
  ·have ET:(own++N2)[i]?=some y:=e1
   have hi':own.length<=i:=by omega
   rw[List.getElem?_append_right (by simpa using hi'),List.length_replicate]at e2
   rw[List.getElem?_append_right hi']at ET
   have hown:y∉own:=λhm=>by
    have nd:=B.LP
    rw[List.nodup_append]at nd
    exact nd.2.2 y hm y (List.mem_of_getElem? ET) rfl
   refine yx I B (n:=s.heap.objs.size+2) ET e2 rfl (λz hz=>kind_free B hz) (λhv=>let⟨k,e,_⟩:=uI hv;⟨k,e⟩) hown k0 e3 (λk e=> ?_)
   obtain⟨k',e',hk'⟩:=uI (sc:=sc) e3
   rw[e]at e';cases e'
   exact hk'
 ·rcases jq sc.names ((s.heap.push {cls:= .type "list",dict:=none,data:= .seq ([]:List Value).toArray}).push {cls:= .type "dict",data:= .dict #[]}) (bR X.env sc.names []) y c (by rw[sz];exact mem_of_lookup hc)with q|q
  ·rcases jX q with z|⟨z,e⟩
   ·cases z
   ·obtain⟨c',e'⟩:=jY I B y z
    rw[e']at e
    have e2:c=c':=e
    subst e2
    obtain⟨v,w⟩:=I.cell y c e'
    exact⟨v,w.keeps k0⟩
  ·exact⟨none,q⟩
 ·rcases jI y c hc with⟨q,_⟩|⟨_,q⟩
  ·exact HV c (by omega)
  ·obtain⟨v,w⟩:=I.cell y c q
   rw[aE (Nat.ne_of_lt w.lt)]
   exact I.nN y c q
 ·have wH:p∈([]:List (Addr×Obj)):=hp
  cases wH
 ·exact⟨Nat.zero_le _,[],0,.nil,k1 _ _ (Heap.get?_push_size _ rfl)⟩
 ·show(List.replicate own.length none++σ).length=(own++N2).length
  rw[List.length_append,List.length_append,List.length_replicate,I.len,B.len]
theorem Inv.yy{σ':St}{H':Hp}{s':Shared}{N':List Str}(I:Inv X pins σ H s)(hf:∀b∈fp,ff X pins H b)(J:Inv (X.comp sc N' s H fp) [] σ' H' s'):Inv X pins σ H' s':=
 I.Ht (ch:=fp) J.os J.base J.hok J.bare λb hb=>⟨(hf b hb).2.2.2.1,(hf b hb).2.1,(hf b hb).2.2.2.2.1,(hf b hb).2.2.2.2.2⟩
end
section
variable{prog:Program}{w:World}{A:Around}{R:Result->Shared->Prop}{s:Shared}
theorem n6{elt target iter:Expr}{scope:Scope}{pos:Pos}{it acc:Value}{env:Env}(I:Nat->Shared->Prop)
  (turn:∀n s,I n s->wpAny (model prog w) A (pyNext it) (λr s₁=>match r with
   |none=>R (.ok .next) s₁
   |some v=>wpAny (model prog w) A (letOwnedTupleGo target it v) (λ_ s₁'=>wpAny (model prog w) A (assign target env v) (λ_ s₂=>wpAny (model prog w) A (eval elt env) (λx s₃=>
     wpAny (model prog w) A (call (.builtin "list.append") [acc,x]) (λ_ s₄=> ∃m,m<n/\I m s₄) (λ_ _=>False) s₃)
     (λ_ _=>False) s₂) (λ_ _=>False) s₁') (λ_ _=>False) s₁) (λ_ _=>False) s)
  (n:Nat)(h:I n s):
  codeAny (model prog w) A (.compLoop (.ListComp elt [⟨target,iter,[],0⟩] scope pos) 0 it acc env) R s:=by
 refine codeAny_loop rfl I (λn s hI=> ?_) n h
 show wpAny _ _ ((compTurn (.ListComp elt [⟨target,iter,[],0⟩] scope pos) 0 it acc env).onRaise (λx=>do noteFrame x env;theTreesLotGoes x)) _ _ s
 refine wpAny_noted ?_
 rw[compTurn_list1]
 refine wpAny_bind (wpAny_standAt (wpAny_bind (wpAny_mono (turn n s hI) (λr s₁ h₁=> ?_) λ_ _ h'=>h'.elim)))
 cases r with
 |none=>exact wpAny_pure h₁
 |some v=>
  exact wpAny_bind (wpAny_mono h₁ (λ_ s₁' h₁'=>wpAny_bind (wpAny_mono h₁' (λ_ s₂ h₂=>wpAny_bind (wpAny_bind (wpAny_mono h₂ (λx s₃ h₃=>wpAny_bind (wpAny_mono h₃
   (λ_ s₄ h₄=>wpAny_pure (wpAny_pure ⟨rfl,h₄⟩)) λ_ _ h'=>h'.elim)) λ_ _ h'=>h'.elim))) λ_ _ h'=>h'.elim)) λ_ _ h'=>h'.elim)
end
def jt(k:Nat)(g:TG)(te:TE)(σ:St)(J:It)(H1:Hp)(D:Addr)(Q:VK):Prop:=∃W:Nat->Nat->List V->St->Hp->Prop,(∃m,W 0 m [] (List.replicate k none++σ) (upd H1 D (.lst [])))/\
 ∀i m acc σ' H',W i m acc σ' H'->(J.stop i H'/\H' D=some (.lst acc)/\Q (.ref D) H')∨
  (J.go i H'/\acc.length<sizeLine/\ ∀x H2,J.wL i H' x H2->g x σ' H2 λσ3 H3=>te σ3 H3 λv H4=>H4 D=some (.lst acc)/\ ∃m',m'<m/\W (i+1) m' (acc++ [v]) σ3 (upd H4 D (.lst (acc++ [v]))))
def jJ(k:Nat)(wi:TI)(g:TG)(te:TE):TE:=λσ H Q=>wi σ H λJ H1=> ∀D,H1 D=none->jt k g te σ J H1 D Q
section
variable{X:Cx}{sc:Scope}{own N2:List Str}
theorem uJ{elt iter tg:Expr}{pos OU:Pos}{wi:TI}{g:TG}{te:TE}{use:Option (Value->Sem Unit)}{Qf:Value->Shared->Prop}(hc:X.calm=true)(hi:PI X tg iter wi)(B:qu sc.names X.env.scope.names own N2 X.N)(hk:sc.kind= .function)
  (hg:∀s H fp,PG (X.comp sc (own++N2) s H fp) tg g)(he:∀s H fp,PE (X.comp sc (own++N2) s H fp) elt te)
  (hs:∀x,foldedSetIterable iter X.env x=pure x){pins:List (Addr×Obj)}{s0:Shared}{σ:St}{H0:Hp}{Q:VK}(I0:Inv X pins σ H0 s0)(h0:jJ own.length wi g te σ H0 Q)
  (OV:∀s H fp,Inv X pins σ H s->(∀b∈fp,ff X pins H b) -> ∀(σ':St) (H':Hp) (s':Shared),Inv (X.comp sc (own++N2) s H fp) [] σ' H' s'->Q (.ref s.heap.objs.size) H'->
   compPost (model X.prog X.w) X.A X.xe use Qf (.ref s.heap.objs.size) (s.heap.objs.size+1) (.ok .next) s'):
  wpAny (model X.prog X.w) X.A (comprehension (.ListComp elt [⟨tg,iter,[],0⟩] sc pos) sc X.env OU (newList []) false (eval iter X.env) use) Qf X.xe s0:=by
 refine wpAny_comprehension_free (use:=use) rfl hs (qC I0 B) hk (λy hy hl=>cy B.nd (by rw[<-hl];exact hy)) ?_
 refine wpAny_mono (hi pins s0 σ H0 _ I0 h0) (λv s1 h1=>wpAny_mono h1 (λitv s h2=> ?_) λ_ _ e=>e) λ_ _ e=>e
 obtain⟨it,fp,tn,J,H,e,I,T,st,hf,rd⟩:=h2
 subst e
 have ho:∀b∈fp,∃o,s.heap.get? b=some o:=λb hb=>let⟨o,e,_⟩:=T.obj 0 _ st b hb;⟨o,e⟩
 obtain⟨W,⟨m0,w0⟩,turn⟩:=rd s.heap.objs.size I.fresh
 refine wpAny_newObj_type ?_
 refine kR ?_
 have IB:=Ae I B hk hf ho
 have OW:∀{H':Hp},(∀b∈fp,H' b=none) -> ∀b∈fp,ff (X.comp sc (own++N2) s H fp) [] H' b:=λhn b hb=>by
  have ok:=IB.ok
  refine⟨hn b hb,(ok.NH b hb).1,ok.BF b hb,.inl hb,λy c hc=>(ok.NH b hb).2 y c hc,λp hp=> ?_⟩
  have wH:p∈([]:List (Addr×Obj)):=hp
  cases wH
 have lt:∀b∈fp,b≠s.heap.objs.size:=λb hb=>let⟨o,e⟩:=ho b hb;Nat.ne_of_lt (Heap.lt_size e)
 have fin:=OV s H fp I hf
 have loop:∀s3:Shared,s3={s with heap:=pushCells ((s.heap.push {cls:= .type "list",dict:=none,data:= .seq ([]:List Value).toArray}).push {cls:= .type "dict",data:= .dict #[]}) sc.names} ->
   codeAny (model X.prog X.w) X.A (.compLoop (.ListComp elt [⟨tg,iter,[],0⟩] sc pos) 0 (.ref it) (.ref s.heap.objs.size) (X.comp sc (own++N2) s H fp).env)
    (compPost (model X.prog X.w) X.A X.xe use Qf (.ref s.heap.objs.size) (s.heap.objs.size+1)) s3:=by
  rintro s3 rfl
  refine n6 (λn s'=> ∃i acc σ' H',Inv (X.comp sc (own++N2) s H fp) [] σ' H' s'/\tn i s'.heap/\(∀b∈fp,H' b=none)/\W i n acc σ' H') ?_ m0
   ⟨0,[],_,_,IB,T.keep _ _ _ st λb _ o e=>pushCells_keeps _ _ b o (Heap.get?_push_of_some _ (Heap.get?_push_of_some _ e)),λb hb=> ?_,w0⟩
  ·rintro n s3 ⟨i,acc,σ3,H3,I3,st3,Lq,w3⟩
   rcases turn i n acc σ3 H3 w3 with⟨stop,hD,qn⟩|⟨go,hz,step⟩
   ·refine fN (T.done (X.comp sc (own++N2) s H fp) rfl rfl rfl hc i [] s3 σ3 H3 _ I3 (OW Lq) st3 stop) λr s4 ⟨hr,I4⟩=> ?_
    subst hr
    exact fin σ3 H3 s4 I4 qn
   ·refine fN (T.item (X.comp sc (own++N2) s H fp) rfl rfl rfl hc i [] s3 σ3 H3 _ I3 (OW Lq) st3 go) λr s4 ⟨u,hr,h4⟩=> ?_
    subst hr
    refine fN h4 λ_ s5 ⟨x,H5,I5,r5,y5,EH,QW⟩=> ?_
    have QX:=I5.pinned (OW QW) (T.obj _ _ EH)
    refine fN (hg s H fp _ s5 σ3 H5 x u _ QX r5 (step x H5 y5)) λ_ s6 ⟨HG,H6,I6,q6⟩=> ?_
    refine fN (he s H fp _ s6 HG H6 _ I6 q6) λv s7 ⟨y,H7,I7,r7,Qn,m',hm',w7⟩=> ?_
    refine fN (iO _ s7 HG H7 (.ref s.heap.objs.size) [y] (.ref s.heap.objs.size) [v] (λz H8=>z= .gP/\H8=upd H7 s.heap.objs.size (.lst (acc++ [y]))) I7 rfl (.cons r7 .nil) ⟨s.heap.objs.size,acc,y,rfl,rfl,Qn,hz,rfl,rfl⟩) λz s8 ⟨zz,H8,I8,_,_,e8⟩=> ?_
    subst e8
    refine⟨m',hm',i+1,acc++ [y],HG,_,I8.ig,T.keep _ _ _ EH λb hb o e=>(I8.pin (b,o) (List.mem_append_right _ (List.mem_append_right _ (bC hb e)))).1,λb hb=> ?_,w7⟩
    obtain⟨o,e,d⟩:=T.obj _ _ EH b hb
    exact(I8.pin (b,o) (List.mem_append_right _ (List.mem_append_right _ (bC hb e)))).2.1
  ·rw[aE (lt b hb)]
   exact(hf b hb).1
 have e1:(s.heap.push {cls:= .type "list",dict:=none,data:= .seq ([]:List Value).toArray}).objs.size=s.heap.objs.size+1:=Heap.size_push ..
 dsimp only
 rw[e1]
 exact codeAny_compStart_list (loop _ rfl) (T.self _ 0 _ _ _ (T.keep _ _ _ st λb _ o e=>pushCells_keeps _ _ b o (Heap.get?_push_of_some _ (Heap.get?_push_of_some _ e))) (loop _ rfl))
theorem Inv.DI{pins:List (Addr×Obj)}{σ σ1:St}{H H1:Hp}{s s1:Shared}{h':Heap}(I:Inv X pins σ H s)(I1:Inv X pins σ1 H1 s1)(hn:H1 (s.heap.objs.size+1)=none)(sb:Heap.SameBut (s.heap.objs.size+1) s1.heap h'):Inv X pins σ1 H1 {s1 with heap:=h'}:=by
 have ne:∀b o,s.heap.get? b=some o->b≠s.heap.objs.size+1:=λb o e=>Nat.ne_of_lt (Nat.lt_succ_of_lt (Heap.lt_size e))
 refine I1.turned (it:=s.heap.objs.size+1) (t':=s1.toks) (λb o hb e=>(sb.2 b hb).trans e) hn (Nat.ne_of_gt (Nat.lt_succ_of_lt I.lt)) (.inr (Nat.le_succ_of_le I.sz)) (λy c e=> ?_) (λp hp=>ne _ _ (I.pin p hp).1)
 obtain⟨v,w⟩:=I.cell y c e
 exact Nat.ne_of_lt (Nat.lt_succ_of_lt w.lt)
theorem Af{elt iter tg:Expr}{pos:Pos}{wi:TI}{g:TG}{te:TE}(hc:X.calm=true)(hi:PI X tg iter wi)(B:qu sc.names X.env.scope.names own N2 X.N)(hk:sc.kind= .function)
  (hg:∀s H fp,PG (X.comp sc (own++N2) s H fp) tg g)(he:∀s H fp,PE (X.comp sc (own++N2) s H fp) elt te)
  (hs:∀x,foldedSetIterable iter X.env x=pure x:=by intro _;rfl):PE X (.ListComp elt [⟨tg,iter,[],0⟩] sc pos) (jJ own.length wi g te):=by
 intro pins s0 σ H0 Q I0 h0
 rw[eval_ListComp]
 refine uJ (use:=none) hc hi B hk hg he hs I0 h0 λs H fp I hf σ' H' s' JB q=> ?_
 obtain⟨m,hn,_⟩:=JB.loc
 exact⟨m,hn,λh' sb=>⟨.ref s.heap.objs.size,H',I.DI (I.yy hf JB) JB.free sb,rfl,q⟩⟩
theorem HW{i:Nat}{y:Str}{py spos:Pos}{elt iter tg:Expr}{pos:Pos}{wi:TI}{g:TG}{te:TE}(hN:X.N.Nodup)(hi':X.N[i]?=some y)(hy:X.env.scope.names.lookup y=some .local)(hc:X.calm=true)(hi:PI X tg iter wi)(B:qu sc.names X.env.scope.names own N2 X.N)(hk:sc.kind= .function)
  (hg:∀s H fp,PG (X.comp sc (own++N2) s H fp) tg g)(he:∀s H fp,PE (X.comp sc (own++N2) s H fp) elt te)
  (hsw:swapsWith (.ListComp elt [⟨tg,iter,[],0⟩] sc pos) (some (.Name y py)) spos.line X.env=pure true:=by rfl)(hs:∀x,foldedSetIterable iter X.env x=pure x:=by intro _;rfl):
  PS X (.Assign [.Name y py] (.ListComp elt [⟨tg,iter,[],0⟩] sc pos) spos) (zZ (jJ own.length wi g te) (bV i)):=by
 intro pins s0 σ H0 D I0 h0
 rw[exec_Assign_Name_used _ _ _ _ hsw]
 refine wpAny_bind (wpAny_standAt (wpAny_bind ?_))
 show wpAny _ X.A (do let _<-comprehension (.ListComp elt [⟨tg,iter,[],0⟩] sc pos) sc X.env _ (newList []) false (eval iter X.env) (some (assign (.Name y py) X.env))) _ _ s0
 refine wpAny_bind (wpAny_mono (uJ (use:=some (assign (.Name y py) X.env)) (Qf:=λ_ s'=>SP X pins D .next s') hc hi B hk hg he hs I0 h0 λs H fp I hf σ' H' s' JB q=> ?_) (λ_ s' hq=>wpAny_pure (wpAny_pure hq)) λ_ _ e=>e)
 have IX:=I.yy hf JB
 refine wpAny_assign_Name (rB IX hN hi' (.inl hy) (v:= .ref s.heap.objs.size) rfl (λs2 I2 ⟨a,Qo,ha⟩=> ?_) (.inr hy))
 obtain⟨m,hn,_⟩:=JB.loc
 have ea:a=X.env.locals∨a<s.heap.objs.size:=by
  rcases ha with z|z
  ·exact .inl z
  ·obtain⟨v,w⟩:=I.cell y a z
   exact .inr w.lt
 have NI:s.heap.objs.size+1≠a:=by
  rcases ea with z|z
  ·rw[z];exact Nat.ne_of_gt (Nat.lt_succ_of_lt I.lt)
  ·exact Nat.ne_of_gt (Nat.lt_succ_of_lt z)
 refine⟨m,hn.sameBut Qo NI,λh' sb=>⟨_,H',I.DI I2 JB.free sb,q⟩⟩
end
def bN(P:Addr):HO:= .ext λh=> ∃ps:Array Value,h.get? P=some {cls:= .none,data:= .fields ps}/\TriplesOk ps.toList
structure fY(K:PySem.W.Frag)(cd:Value)(P:Addr):Prop where
 ex:∃(c:Addr) (o:Obj) (vs:Array Value) (file:Str) (tf:Tok) (flags:Int) (tg:Tok) (HX:Bool) (text:Int) (tt:Tok),cd= .ref c/\K.lookup c=some o/\o.cls= .type "code"/\o.data= .fields vs/\vs[11]?=some (.ref P)/\
  vs.getD 18 .none= .str file tf/\vs.getD 7 .none= .int flags tg/\vs.getD 9 .none= .bool HX/\vs.getD 10 .none= .int text tt
theorem HY{P:Program}{w:World}{H:Hp}{h:Heap}{T:Addr}{ps:Array Value}(e:h.get? T=some {cls:= .none,data:= .fields ps})(t:TriplesOk ps.toList):fO P w H h T (bN T):=
 ⟨⟨ps,e,t⟩,⟨_,e⟩,λh1 h2 ⟨qs,e1,t1⟩ k=>⟨qs,k _ e1,t1⟩⟩
theorem HZ{H:Hp}{a:Addr}{o:HO}(h:H a=some o):upd H a o=H:=by
 funext b
 unfold upd
 split
 ·rename_i e;rw[e,h]
 ·rfl
section
variable{X:Cx}{pins:List (Addr×Obj)}{σ:St}{H:Hp}{s:Shared}{P:Addr}
theorem BQ{pos:Pos}{qn:Str}{sc:Scope}{Q:Value->Shared->Prop}{E:Value->Shared->Prop}{M:Model}{A:Around}(I:Inv X pins σ H s)(hcd:fY X.K X.env.code P)(hP:H P=some (bN P))
  (h:∀code h' tk,Inv X pins σ H {s with heap:=h',toks:=tk} ->Heap.ExtBut P s.heap h'->Q code {s with heap:=h',toks:=tk}):wpAny M A (genexprCode X.env pos qn sc) Q E s:=by
 obtain⟨c,o,vs,file,tf,flags,tg,HX,text,tt,ec,hc,hcl,hd,h11,Rh,h7,h9,Ri⟩:=hcd.ex
 obtain⟨⟨ps,eP,tr⟩,_,_⟩:=I.hok P _ hP
 have hcs:s.heap.get? c=some o:=I.yo c o hc
 have hcn:H c=none:=(I.bs c o (I.ok.mod.Ql c o hc)).2
 have ne:c≠P:=λe=>by rw[e,hP]at hcn;cases hcn
 have OX:vs.getD 11 .none= .ref P:=by
  have:vs.getD 11 .none=(vs[11]?).getD .none:=by simp
  rw[this,h11];rfl
 have code:s.heap.IsCode c P ps:=⟨o,vs,file,tf,flags,tg,HX,text,tt,_,hcs,hd,OX,Rh,h7,h9,Ri,eP,rfl,tr,ne⟩
 have tab:s.heap.TableAt c P ps:=⟨⟨o,vs,hcs,hcl,hd,h11⟩,eP⟩
 cases q:codeAmong pos ps.toList with
 |some c'=>exact wpAny_genexprCode_hit ec code q (h c' s.heap s.toks I (λ_ _ _ e=>e))
 |none=>
  refine wpAny_genexprCodeX ec code tab q λc' h' tk hx _ _ OY _ Ia _=>h _ h' tk ?_ hx
  have I':=I.write (x:=P) (e:=P) (o:=bN P) (h':=h') (t':=tk) (by rw[hP];exact trivial) (.inl rfl) (λb u hb e=>hx b u hb e) ⟨_,Ia.2⟩
   (HY Ia.2 (by obtain⟨_,_,_,_,_,_,_,_,_,op,_,_,_,_,_,_,_,e1,e2,e3,_⟩:=OY;rw[Ia.2]at e1;cases e1;exact e3))
  rw[HZ hP]at I'
  exact I'
end
def BM(mg:Str->Option Value)(base:Heap):Prop:=∃bm ob,mg "__builtins__"=some (.ref bm)/\bm≠builtinsNs/\base.get? bm=some ob/\ob.cls= .type "module"/\ob.dict=some builtinsNs/\ob.data= .plain
def LR(B:Around)(cenv:Env):Around:={handled:=B.handled,depth:=B.depth+1,frames:=B.frames.map (cenv:: ·),guards:=B.guards,units:=B.units+3}
def Cx.gen(X:Cx)(B:Around)(sc:Scope)(N':List Str)(code:Value)(s:Shared)(H:Hp)(fp:List Addr):Cx:=
 {X with
  N:=N'
  s₀:={s with gens:=s.gens.push .running}
  H₀:=H
  A:=LR B (genEnv sc (bR X.env sc.names []) s.heap.objs.size code builtinsNs X.env)
  env:=genEnv sc (bR X.env sc.names []) s.heap.objs.size code builtinsNs X.env
  outer:=X.stack
  stack:=genEnv sc (bR X.env sc.names []) s.heap.objs.size code builtinsNs X.env::X.stack
  ex:=fp
  fn:=λ_=>false
  pn:=[]
  xe:=λ_ _=>False}
section
variable{X:Cx}{pins:List (Addr×Obj)}{σ:St}{H:Hp}{s:Shared}{sc:Scope}{own N2:List Str}{fp:List Addr}{B:Around}{code:Value}
theorem pA{sc:Scope}{y:Str}(hv:NG sc y):∃k,sc.names.lookup y=some k/\(k= .local∨k= .cell∨k= .free):=by
 rcases hv with e|e|e
 ·exact⟨_,e,.inl rfl⟩
 ·exact⟨_,e,.inr (.inl rfl)⟩
 ·exact⟨_,e,.inr (.inr rfl)⟩
theorem eH{n:Nat}:∀{ns:List (Str×NameKind)} {acc:List (Str×Addr)},(∀y∈ns,y.2≠ .cell) ->cellsFrom n ns acc=acc
 | [],_,_=>rfl
 |(y,k)::r,acc,h=>by
  unfold cellsFrom
  have hk:(k==NameKind.cell)=false:=by simpa using h (y,k) List.mem_cons_self
  rw[hk]
  exact eH λz hz=>h z (List.mem_cons_of_mem _ hz)
theorem OZ(I:Inv X pins σ H s)(Bk:qu sc.names X.env.scope.names own N2 X.N)(hk:sc.kind= .function)(hnc:∀y∈sc.names,y.2≠ .cell)(hf:∀b∈fp,ff X pins H b)(ho:∀b∈fp,∃o,s.heap.get? b=some o)
  (hB:B.frames=some X.stack)(hh:B.handled=none):(X.gen B sc (own++N2) code s H fp).Ok:=by
 have lt:∀b∈fp,b<s.heap.objs.size:=λb hb=>let⟨o,e⟩:=ho b hb;Heap.lt_size e
 have jI:∀y c,(bR X.env sc.names []).lookup y=some c->(y,NameKind.free)∈sc.names/\X.env.cells.lookup y=some c:=λy c h=>by
  have h':(cellsFrom 0 sc.names (bR X.env sc.names [])).lookup y=some c:=by rw[eH hnc];exact h
  rcases jb I Bk (mem_of_lookup h')with⟨_,q⟩|q
  ·exact absurd rfl (hnc _ q)
  ·exact q
 refine⟨I.ok.mod,hk,I.ok.glob,rfl,Nat.le_refl _,λx y c h1 h2=> ?_,λy hy=> ?_,λy c hy hc=>absurd hy (by show ¬(false=true);decide),λ_=>hh,?_,.inr ⟨rfl,rfl⟩,λb hb=>⟨?_,λy c hc=> ?_⟩,I.bs,Nat.le_trans I.ok.LD I.sz,λb o e hb=> ?_,λb hb hs=> ?_,I.stack,I.uf⟩
 ·exact I.ok.inj x y c (jI x c h1).2 (jI y c h2).2
 ·have hy':sc.names.lookup y=some .cell∨sc.names.lookup y=some .free:=hy
  rcases hy' with e|e
  ·exact absurd rfl (hnc _ (mem_of_lookup e))
  ·obtain⟨c,hc⟩:=jY I Bk y (mem_of_lookup e)
   have:=mK (n:=0) I Bk (mem_of_lookup e) hc
   rw[eH hnc]at this
   exact⟨c,this⟩
 ·show B.frames.map _=_
  rw[hB];rfl
 ·exact Nat.ne_of_lt (lt b hb)
 ·exact(hf b hb).2.2.2.2.1 y c (jI y c hc).2
 ·rcases(hf b hb).2.2.2.1 with z|z
  ·exact I.ok.EE b o e z
  ·exact absurd (Nat.lt_of_lt_of_le (Heap.lt_size (I.ok.bs b o e).1) z) (Nat.lt_irrefl _)
 ·rcases List.mem_cons.mp (I.uz b hs)with e|e
  ·exact(hf b hb).2.1 e
  ·exact(hf b hb).2.2.1 e
theorem LS{h':Heap}{tk:Nat}{m:Str->Option Value}(I:Inv X pins σ H s)(Bk:qu sc.names X.env.scope.names own N2 X.N)(hk:sc.kind= .function)(hnc:∀y∈sc.names,y.2≠ .cell)(hf:∀b∈fp,ff X pins H b)(ho:∀b∈fp,∃o,s.heap.get? b=some o)
  (hB:B.frames=some X.stack)(hh:B.handled=none)(hn:h'.Ns s.heap.objs.size m)(keep:∀b o,s.heap.get? b=some o->h'.get? b=some o):
  Inv (X.gen B sc (own++N2) code s H fp) [] (List.replicate own.length none++σ) H {s with heap:=h',toks:=tk,gens:=s.gens.push .running}:=by
 have jI:∀y c,(bR X.env sc.names []).lookup y=some c->(y,NameKind.free)∈sc.names/\X.env.cells.lookup y=some c:=λy c h=>by
  have h':(cellsFrom 0 sc.names (bR X.env sc.names [])).lookup y=some c:=by rw[eH hnc];exact h
  rcases jb I Bk (mem_of_lookup h')with⟨_,q⟩|q
  ·exact absurd rfl (hnc _ q)
  ·exact q
 refine⟨OZ I Bk hk hnc hf ho hB hh,rfl,.refl (I.bare.bare.push rfl),Un.kept keep,⟨m,hn,λi y v e1 e2 e3=> ?_⟩,λy c hc=> ?_,I.fresh,λy c hc=>I.nN y c (jI y c hc).2,λp hp=> ?_,I.hok.kept keep,?_⟩
 ·by_cases hi:i<own.length
  ·rw[List.getElem?_append_left (by simpa using hi),List.getElem?_replicate]at e2
   split at e2<;>cases e2
  ·have ET:(own++N2)[i]?=some y:=e1
   have hi':own.length<=i:=by omega
   rw[List.getElem?_append_right (by simpa using hi'),List.length_replicate]at e2
   rw[List.getElem?_append_right hi']at ET
   have hown:y∉own:=λhm=>by
    have nd:=Bk.LP
    rw[List.nodup_append]at nd
    exact nd.2.2 y hm y (List.mem_of_getElem? ET) rfl
   refine yx I Bk (n:=0) ET e2 (eH hnc).symm (λz hz=> .inr (cy Bk.nd hz)) (λhv=>let⟨k,e,_⟩:=pA hv;⟨k,e⟩) hown keep e3 (λk e=> ?_)
   obtain⟨k',e',hk'⟩:=pA e3
   have Pa:sc.names.lookup y=some k':=e'
   rw[e]at Pa;cases Pa
   exact hk'
 ·obtain⟨v,w⟩:=I.cell y c (jI y c hc).2
  exact⟨v,w.keeps keep⟩
 ·have wH:p∈([]:List (Addr×Obj)):=hp
  cases wH
 ·show(List.replicate own.length none++σ).length=(own++N2).length
  rw[List.length_append,List.length_append,List.length_replicate,I.len,Bk.len]
theorem Inv.Ib{σ':St}{H':Hp}{s':Shared}{N':List Str}{pl:List (Addr×Obj)}{gs:GenState}(I:Inv X pins σ H s)(hf:∀b∈fp,ff X pins H b)(hb:gs.bare=true)(J:Inv (X.gen B sc N' code s H fp) pl σ' H' s'):
  Inv X pins σ H' (s'.setGen s.gens.size gs):=by
 have sz:s.gens.size+1<=s'.gens.size:=by
  have:=J.bare.size
  simpa [Cx.gen]using this
 refine I.Ht (ch:=fp) J.os J.base J.hok ⟨?_,?_,λk hk=> ?_⟩ λb hb=>⟨(hf b hb).2.2.2.1,(hf b hb).2.1,(hf b hb).2.2.2.2.1,(hf b hb).2.2.2.2.2⟩
 ·intro y hy
  simp only[Shared.setGen]at hy
  rcases Array.mem_or_eq_of_mem_setIfInBounds hy with q|q
  ·exact J.bare.bare y q
  ·rw[q];exact hb
 ·simp only[Shared.setGen,Array.size_setIfInBounds]
  omega
 ·have e:=J.bare.old k (by simp[Cx.gen];omega)
  simp only[Shared.setGen]
  rw[Array.getElem?_setIfInBounds_ne (by omega),e]
  show(s.gens.push .running)[k]?=s.gens[k]?
  rw[Array.getElem?_push_lt (by omega)]
  simp[hk]
end
theorem fq{B:Around}{elt:Expr}{gens:List Comprehension}{sc:Scope}{pos:Pos}{it acc:Value}{cenv:Env}:
  B.over (.compLoop (.GeneratorExp elt gens sc pos) 0 it acc cenv) []=LR B cenv:=by
 unfold Around.over LR
 congr 1
section
variable(X:Cx)(B:Around)(sc:Scope)(N':List Str)(code:Value)(sC:Shared)(HC:Hp)(fp Ss:List Addr)(tn:Nat->Heap->Prop)(cnt:Nat)(R:Nat->V->Prop)(W:Nat->St->Hp->Prop)
def rF:Protocol:=λn s₀ v s Xu=> ∃pl σ' H' x,(∀p∈pl,p.1∉Ss)/\Inv (X.gen B sc N' code sC HC fp) (bX Ss s₀.heap++pl) σ' H' s/\tn (cnt-n) s.heap/\(∀b∈fp,H' b=none)/\RelV x v/\R (cnt-n-1) x/\W (cnt-n) σ' H'/\
 ∀s'':Shared,(∀b∈Ss,∃o,s''.heap.get? b=some o) ->Inv (X.gen B sc N' code sC HC fp) (bX Ss s''.heap++pl) σ' H' s''->tn (cnt-n) s''.heap->Xu (.send .none) s''
def EU:GenEnd:=λn s₀ r s₁=>r= .ok .next/\n=0/\ ∃σ' H',Inv (X.gen B sc N' code sC HC fp) (bX Ss s₀.heap) σ' H' s₁/\W cnt σ' H'
end
section
variable{X:Cx}{B:Around}{sc:Scope}{N':List Str}{code:Value}{sC:Shared}{HC:Hp}{fp Ss:List Addr}{tn:Nat->Heap->Prop}{cnt:Nat}{R:Nat->V->Prop}{W:Nat->St->Hp->Prop}
variable{elt iter tg:Expr}{pos:Pos}{it:Addr}{J:It}{g:TG}{te:TE}
theorem sZ{Ss:List Addr}{h:Heap}{p:Addr×Obj}(hp:p∈bX Ss h):p.1∈Ss:=(jQ hp).1
theorem rG{pl:List (Addr×Obj)}{σ':St}{H' H2:Hp}{s:Shared}(I:Inv (X.gen B sc N' code sC HC fp) pl σ' H2 s)(hn:∀b∈fp,H' b=none)(hd:∀p∈pl,p.1∉fp):∀b∈fp,ff (X.gen B sc N' code sC HC fp) pl H' b:=λb hb=>by
 have ok:=I.ok
 refine⟨hn b hb,(ok.NH b hb).1,ok.BF b hb,.inl hb,λy c hc=>(ok.NH b hb).2 y c hc,λp hp e=> ?_⟩
 have wH:p∈pl:=by simpa [Cx.gen]using hp
 exact hd p wH (by rw[e];exact hb)
theorem LU(hco:sc.isCoroutine=false)(hc:X.calm=true)(T:Turn X.prog X.w X.K tg J fp it tn)(hg:PG (X.gen B sc N' code sC HC fp) tg g)(he:PE (X.gen B sc N' code sC HC fp) elt te)(yz:∀b∈fp,b∉Ss)
  (turn:∀i σ' H',i<cnt->W i σ' H'->J.go i H'/\ ∀x H2,J.wL i H' x H2->g x σ' H2 λσ3 H3=>te σ3 H3 λv H4=>R i v/\W (i+1) σ3 H4)
  (stop:∀σ' H',W cnt σ' H'->J.stop cnt H'):
  ∀(n i:Nat) (σ':St) (H':Hp) (s₀ s:Shared),n+i=cnt->W i σ' H'->Inv (X.gen B sc N' code sC HC fp) (bX Ss s₀.heap) σ' H' s->tn i s.heap->(∀b∈fp,H' b=none) ->
   Seg (model X.prog X.w) B (EU X B sc N' code sC HC fp Ss cnt W) (rF X B sc N' code sC HC fp Ss tn cnt R W) n s₀ (.compLoop (.GeneratorExp elt [⟨tg,iter,[],0⟩] sc pos) 0 (.ref it) .none (X.gen B sc N' code sC HC fp).env)
    ((model X.prog X.w).den (.compLoop (.GeneratorExp elt [⟨tg,iter,[],0⟩] sc pos) 0 (.ref it) .none (X.gen B sc N' code sC HC fp).env)) [] s:=by
 have Pb:∀{h:Heap},∀p∈bX Ss h,p.1∉fp:=λp hp hb=>yz p.1 hb (sZ hp)
 intro n
 induction n with
 |zero=>
  intro i σ' H' s₀ s hn w I st fr
  obtain rfl:i=cnt:=by omega
  show Seg _ B _ _ _ s₀ _ ((compTurn (.GeneratorExp elt [⟨tg,iter,[],0⟩] sc pos) 0 (.ref it) .none (X.gen B sc N' code sC HC fp).env).onRaise (leaving (X.gen B sc N' code sC HC fp).env)) [] s
  rw[compTurn_gen,Sem.onRaise_eq_wrap]
  refine seg_bind_wrap (wpAny_standAt ?_)
  refine seg_bind_wrap ?_
  rw[fq]
  refine fN (T.done (X.gen B sc N' code sC HC fp) rfl rfl rfl hc i _ s σ' H' _ I (rG I fr Pb) st (stop σ' H' w)) λr s1 ⟨hr,I1⟩=> ?_
  subst hr
  exact seg_end (.ok .next) ⟨rfl,rfl,σ',H',I1,w⟩
 |succ n ih=>
  intro i σ' H' s₀ s hn w I st fr
  have hi:i<cnt:=by omega
  obtain⟨go,step⟩:=turn i σ' H' hi w
  show Seg _ B _ _ _ s₀ _ ((compTurn (.GeneratorExp elt [⟨tg,iter,[],0⟩] sc pos) 0 (.ref it) .none (X.gen B sc N' code sC HC fp).env).onRaise (leaving (X.gen B sc N' code sC HC fp).env)) [] s
  rw[compTurn_gen,Sem.onRaise_eq_wrap]
  refine seg_bind_wrap (wpAny_standAt ?_)
  refine seg_bind_wrap ?_
  rw[fq]
  refine fN (T.item (X.gen B sc N' code sC HC fp) rfl rfl rfl hc i _ s σ' H' _ I (rG I fr Pb) st go) λr s1 ⟨u,hr,h1⟩=> ?_
  subst hr
  refine seg_bind_wrap ?_
  rw[fq]
  refine wpAny_mono h1 (λ_ s2 ⟨x,H2,I2,r2,y2,st2,Pc⟩=> ?_) λ_ _ z=>z
  have UA:=I2.pinned (rG I2 Pc Pb) (T.obj _ _ st2)
  refine seg_bind_wrap ?_
  rw[fq]
  refine wpAny_mono (hg _ s2 σ' H2 x u _ UA r2 (step x H2 y2)) (λ_ s3 ⟨σ3,H3,I3,q3⟩=> ?_) λ_ _ z=>z.elim
  simp only[List.forIn_nil,if_true]
  refine seg_bind_wrap (wpAny_pure ?_)
  have hy:∀v,yieldOut (X.gen B sc N' code sC HC fp).env v=yieldValue v:=λv=>by
   have q:(X.gen B sc N' code sC HC fp).env.scope.isCoroutine=false:=hco
   simp only[yieldOut,q,Bool.false_eq_true,if_false]
  simp only[if_true,hy]
  rw[Sem.bind_eq_wrap',Sem.bind_eq_wrap',Sem.wrap_wrap,Sem.wrap_wrap]
  refine seg_wrap ?_
  rw[fq]
  refine wpAny_mono (he _ s3 σ3 H3 _ I3 q3) (λv s4 ⟨y,H4,I4,r4,hR,w4⟩=> ?_) λ_ _ z=>z.elim
  have Rj:tn (i+1) s4.heap:=T.keep _ _ _ st2 λb hb o e=>(I4.pin (b,o) (List.mem_append_right _ (List.mem_append_right _ (bC hb e)))).1
  have Pd:∀b∈fp,H4 b=none:=λb hb=>by
   obtain⟨o,e,d⟩:=T.obj _ _ st2 b hb
   exact(I4.pin (b,o) (List.mem_append_right _ (List.mem_append_right _ (bC hb e)))).2.1
  have ei:cnt-n=i+1:=by omega
  refine seg_at (seg_yield rfl rfl rfl ⟨[],σ3,H4,y,(λ_ h=>nomatch h),(by rw[List.append_nil];exact I4.ig),by rw[ei];exact Rj,Pd,r4,by rw[ei];exact hR,by rw[ei];exact w4,λs'' _ Hg st''=> ?_⟩)
  rw[ei]at st''
  rw[List.append_nil]at Hg
  exact seg_again rfl (ih (i+1) σ3 H4 s'' s'' (by omega) w4 Hg st'' Pd)
end
theorem Ic{s:Shared}{g:Nat}{gs:GenState}(h:s.gens[g]?=some .running):(s.setGen g gs).setGen g .running=s:=by
 obtain⟨hh,gens,d,t,os⟩:=s
 have hlt:g<gens.size:=by
  rcases Nat.lt_or_ge g gens.size with q|q
  ·exact q
  ·have z:gens[g]?=none:=Array.getElem?_eq_none q
   have h':gens[g]?=some .running:=h
   rw[z]at h';cases h'
 have q:(gens.setIfInBounds g gs).setIfInBounds g .running=gens:=by
  apply Array.ext_getElem?
  intro i
  by_cases e:g=i
  ·subst e
   rw[Array.getElem?_setIfInBounds_self_of_lt (by simpa using hlt)]
   exact h.symm
  ·rw[Array.getElem?_setIfInBounds_ne e,Array.getElem?_setIfInBounds_ne e]
 show({heap:=hh,gens:=(gens.setIfInBounds g gs).setIfInBounds g .running,drawn:=d,toks:=t,os:=os}:Shared)=_
 rw[q]
theorem jM:∀{Ss:List Addr} {h h':Heap},(∀b∈Ss,∃o,h.get? b=some o/\h'.get? b=some o) ->bX Ss h'=bX Ss h
 | [],_,_,_=>rfl
 |b::r,h,h',k=>by
  obtain⟨o,e1,e2⟩:=k b List.mem_cons_self
  unfold bX
  rw[List.filterMap_cons,List.filterMap_cons,e1,e2]
  show(b,o)::bX r h'=(b,o)::bX r h
  rw[jM λc hc=>k c (List.mem_cons_of_mem _ hc)]
section
variable(X:Cx)(B:Around)(sc:Scope)(N':List Str)(code:Value)(sC:Shared)(HC:Hp)(fp Ss:List Addr)(tn:Nat->Heap->Prop)(cnt:Nat)(R:Nat->V->Prop)(W:Nat->St->Hp->Prop)
structure uK(a:Addr)(i:Nat)(s:Shared):Prop where
 gen:s.heap.IsGen a sC.gens.size
 ex:∃gs pl σ' H',(∀p∈pl,p.1∉Ss)/\s.gens[sC.gens.size]?=some gs/\gs.bare=true/\Inv (X.gen B sc N' code sC HC fp) (bX Ss s.heap++pl) σ' H' (s.setGen sC.gens.size .running)/\tn i s.heap/\(∀b∈fp,H' b=none)/\W i σ' H'/\
  ∀s'':Shared,(∀b∈Ss,∃o,s''.heap.get? b=some o) ->Inv (X.gen B sc N' code sC HC fp) (bX Ss s''.heap++pl) σ' H' s''->tn i s''.heap->gs.Goes (model X.prog X.w) B (EU X B sc N' code sC HC fp Ss cnt W) (rF X B sc N' code sC HC fp Ss tn cnt R W) (cnt-i) (.send .none) s''
end
section
variable{X:Cx}{D:Around}{sc:Scope}{N':List Str}{code:Value}{sC:Shared}{HC:Hp}{fp Ss:List Addr}{tn:Nat->Heap->Prop}{cnt:Nat}{R:Nat->V->Prop}{W:Nat->St->Hp->Prop}{a:Addr}{i:Nat}{s:Shared}
theorem Inv.Ag{pl:List (Addr×Obj)}{σ':St}{H':Hp}{s':Shared}(I:Inv X pl σ' H' s'):s'.heap.NoLimit:=I.nolimit
theorem BR{B:Around}{pl:List (Addr×Obj)}{σ':St}{H':Hp}{s':Shared}(I:Inv (X.gen B sc N' code sC HC fp) pl σ' H' s'):s'.gens[sC.gens.size]?=some .running:=by
 have e:=I.bare.old sC.gens.size (by simp[Cx.gen])
 rw[e]
 show(sC.gens.push .running)[sC.gens.size]?=_
 simp
theorem uK.item{Q:Option Value->Shared->Prop}{E:Value->Shared->Prop}(G:uK X D.in1 sc N' code sC HC fp Ss tn cnt R W a i s)(hh:D.handled=none)(hroom:D.depth<recursionLimit)(ha:a∈Ss)(hs:∀b∈Ss,∃o,s.heap.get? b=some o)(hi:i<cnt)
  (hQ:∀v x s',RelV x v->R i x->uK X D.in1 sc N' code sC HC fp Ss tn cnt R W a (i+1) s'->(∀b∈Ss,∀o,s.heap.get? b=some o->s'.heap.get? b=some o) ->Q (some v) s'):
  wpAny (model X.prog X.w) D (pyNext (.ref a)) Q E s:=by
 obtain⟨gs,pl,σ',H',hpl,e1,e2,I,st,fr,w,go⟩:=G.ex
 have gg:=go (s.setGen sC.gens.size .running) hs I st
 obtain⟨m,hm⟩:∃m,cnt-i=m+1:=⟨cnt-i-1,by omega⟩
 rw[hm]at gg
 refine wpAny_pyNext_genexpQ (P:=λn s₀ s₁=>n=0/\ ∃σ' H',Inv (X.gen D.in1 sc N' code sC HC fp) (bX Ss s₀.heap) σ' H' s₁/\W cnt σ' H') hh I.Ag hroom G.gen e1 gg (λv s1 gs' hb hy=> ?_) (λs1 hp=> ?_)
 ·obtain⟨Sx,σ1,H1,x,Pe,I1,st1,Pf,r1,hR,w1,Qp⟩:=hy
  have ei:cnt- (m+1-1)=i+1:=by omega
  rw[ei]at st1 w1 Qp hR
  have kp:∀b∈Ss,∀o,s.heap.get? b=some o->s1.heap.get? b=some o:=λb hb o e=>(I1.pin (b,o) (List.mem_append_right _ (List.mem_append_left _ (bC hb e)))).1
  have eq:bX Ss s1.heap=bX Ss s.heap:=jM λb hb=>let⟨o,e⟩:=hs b hb;⟨o,e,kp b hb o e⟩
  have run:=BR I1
  refine hQ v x _ r1 hR ⟨?_,gs',Sx,σ1,H1,Pe,setGen_self run,hb,?_,st1,Pf,w1,?_⟩ kp
  ·obtain⟨o,nm,qn,eo,r⟩:=G.gen
   exact⟨o,nm,qn,kp a ha o eo,r⟩
  ·rw[Ic run]
   show Inv _ (bX Ss s1.heap++Sx) σ1 H1 s1
   rw[eq]
   exact I1
  ·have e3:cnt- (i+1)=m:=by omega
   rw[e3]
   exact Qp
 ·exact absurd hp.1 (by omega)
theorem uK.done{pins:List (Addr×Obj)}{σ:St}{Q:Option Value->Shared->Prop}{E:Value->Shared->Prop}(G:uK X D.in1 sc N' code sC HC fp Ss tn cnt R W a cnt s)(IC:Inv X pins σ HC sC)(hf:∀b∈fp,ff X pins HC b)(hh:D.handled=none)(hroom:D.depth<recursionLimit)(hs:∀b∈Ss,∃o,s.heap.get? b=some o)
  (hQ:∀s' σ' H',Inv X pins σ H' s'->W cnt σ' H'->Q none s'):
  wpAny (model X.prog X.w) D (pyNext (.ref a)) Q E s:=by
 obtain⟨gs,pl,σ',H',hpl,e1,e2,I,st,fr,w,go⟩:=G.ex
 have gg:=go (s.setGen sC.gens.size .running) hs I st
 rw[Nat.sub_self]at gg
 refine wpAny_pyNext_genexpQ (P:=λn s₀ s₁=>n=0/\ ∃σ' H',Inv (X.gen D.in1 sc N' code sC HC fp) (bX Ss s₀.heap) σ' H' s₁/\W cnt σ' H') hh I.Ag hroom G.gen e1 gg (λv s1 gs' hb hy=> ?_) (λs1 hp h' k=> ?_)
 ·obtain⟨Sx,σ1,H1,x,Pe,I1,st1,Pf,r1,hR,w1,Qp⟩:=hy
  have kp:∀b∈Ss,∀o,s.heap.get? b=some o->s1.heap.get? b=some o:=λb hb o e=>(I1.pin (b,o) (List.mem_append_right _ (List.mem_append_left _ (bC hb e)))).1
  have eq:bX Ss s1.heap=bX Ss s.heap:=jM λb hb=>let⟨o,e⟩:=hs b hb;⟨o,e,kp b hb o e⟩
  exact False.elim (Qp s1 (λb hb=>let⟨o,e⟩:=hs b hb;⟨o,kp b hb o e⟩) (by rw[eq];exact I1) st1)
 ·obtain⟨_,σ1,H1,I1,w1⟩:=hp
  have I2:=Inv.Ib (gs:= .finished) IC hf rfl I1
  exact hQ _ σ1 H1 (I2.kept (t':=s1.toks) k) w1
end
section
variable{X:Cx}{B:Around}{sc:Scope}{N':List Str}{code:Value}{sC:Shared}{HC:Hp}{fp Ss:List Addr}{tn:Nat->Heap->Prop}{cnt:Nat}{R:Nat->V->Prop}{W:Nat->St->Hp->Prop}
variable{elt iter tg:Expr}{pos:Pos}{it:Addr}{J:It}{g:TG}{te:TE}
theorem Ie(hco:sc.isCoroutine=false)(hc:X.calm=true)(T:Turn X.prog X.w X.K tg J fp it tn)(hg:PG (X.gen B sc N' code sC HC fp) tg g)(he:PE (X.gen B sc N' code sC HC fp) elt te)(yz:∀b∈fp,b∉Ss)
  (turn:∀i σ' H',i<cnt->W i σ' H'->J.go i H'/\ ∀x H2,J.wL i H' x H2->g x σ' H2 λσ3 H3=>te σ3 H3 λv H4=>R i v/\W (i+1) σ3 H4)
  (stop:∀σ' H',W cnt σ' H'->J.stop cnt H'){σ':St}{H':Hp}{s:Shared}(w:W 0 σ' H')(I:Inv (X.gen B sc N' code sC HC fp) (bX Ss s.heap) σ' H' s)(st:tn 0 s.heap)(fr:∀b∈fp,H' b=none):
  Seg (model X.prog X.w) B (EU X B sc N' code sC HC fp Ss cnt W) (rF X B sc N' code sC HC fp Ss tn cnt R W) cnt s (.compStart (.GeneratorExp elt [⟨tg,iter,[],0⟩] sc pos) 0 (.ref it) .none (X.gen B sc N' code sC HC fp).env)
   ((model X.prog X.w).den (.compStart (.GeneratorExp elt [⟨tg,iter,[],0⟩] sc pos) 0 (.ref it) .none (X.gen B sc N' code sC HC fp).env)) [] s:=by
 have lp:=LU (iter:=iter) (pos:=pos) hco hc T hg he yz turn stop cnt 0 σ' H' s s (Nat.add_zero _) w I st fr
 show Seg _ B _ _ _ s _ ((compStart (.GeneratorExp elt [⟨tg,iter,[],0⟩] sc pos) 0 (.ref it) .none (X.gen B sc N' code sC HC fp).env).onRaise (leaving (X.gen B sc N' code sC HC fp).env)) [] s
 unfold compStart
 rw[Sem.onRaise_eq_wrap]
 show Seg _ B _ _ _ s _ ((ask>>=_).wrap _ _ _ _) [] s
 refine seg_bind_wrap (wpAny_askSetting ?_)
 split
 ·exact seg_again rfl lp
 ·first
   |exact seg_bind_wrap (wpAny_rule (seg_bind_wrap (wpAny_standAt (seg_bind_wrap (T.self _ 0 s _ _ st (seg_again rfl lp))))))
   |(refine seg_bind_wrap (wpAny_rule ?_);(show Seg _ B _ _ _ s _ ((standAt iter.pos>>=_).wrap _ _ _ _) [] s);exact seg_bind_wrap (wpAny_standAt (seg_bind_wrap (T.self _ 0 s _ _ st (seg_again rfl lp)))))
end
def uL(k:Nat)(g:TG)(te:TE)(σ:St)(F:Nat->(Nat->V->Prop) ->(Nat->St->Hp->Prop) ->Prop)(J:It)(H:Hp):Prop:=∃(cnt:Nat) (R:Nat->V->Prop) (W:Nat->St->Hp->Prop),W 0 (List.replicate k none++σ) H/\
 (∀i σ' H',i<cnt->W i σ' H'->J.go i H'/\ ∀x H2,J.wL i H' x H2->g x σ' H2 λσ3 H3=>te σ3 H3 λv H4=>R i v/\W (i+1) σ3 H4)/\(∀σ' H',W cnt σ' H'->J.stop cnt H')/\F cnt R W
theorem pY(elt target iter:Expr)(ifs:List Expr)(cls:List Comprehension)(scope:Scope)(pos:Pos)(env:Env)(hco:scope.isCoroutine=false):
  eval (.GeneratorExp elt (⟨target,iter,ifs,0⟩::cls) scope pos) env=(do
   let x<-eval iter env
   standAt iter.pos
   let x<-genFold iter env x
   let it<-holding [x] (pyIter x)
   enterFrame
   let cl<-closureFor scope env
   let code<-genexprCode env pos (env.qual++ "<genexpr>") scope
   let bi<-builtinsFor env.globals env.builtins
   let cenv<-newFunctionEnv scope env.globals cl [(".0",it)] (env.qual++ "<genexpr>.") none code none bi
   newGenerator (.compStart (.GeneratorExp elt (⟨target,iter,ifs,0⟩::cls) scope pos) 0 it .none cenv) "<genexpr>" (env.qual++ "<genexpr>")):=by
 rw[arm_eval_GeneratorExp]
 simp only[hco,Bool.false_eq_true,if_false]
 cases iter<;>rfl
section
variable{M:Model}{A:Around}{E:Value->Shared->Prop}{s:Shared}
theorem lg{env:Env}{elt target iter:Expr}{ifs:List Expr}{cls:List Comprehension}{scope:Scope}{cl:List (Str×Addr)}{pos:Pos}{Q:Value->Shared->Prop}
  (hco:scope.isCoroutine=false)(hclos:closureFor scope env=pure cl)(hcell:∀y∈scope.names,y.2≠ .cell)(h0:scope.names.lookup (".0":Str)=some NameKind.local)(hkind:scope.kind= .function)
  (hroom:A.depth<recursionLimit)
  (h:wpAny M A (eval iter env) (λxv s₁=>wpAny M A (pyIter xv) (λit s₂=>s₂.heap.NoLimit/\
   wpAny M A (genexprCode env pos (env.qual++ "<genexpr>") scope) (λcode s₃=>wpAny M A (builtinsFor env.globals env.builtins) (λbi s₄=>
    ∀h',h'.Ns s₄.heap.objs.size (λy=>if y= ".0" then some it else none) ->Heap.SameBut s₄.heap.objs.size (s₄.heap.push {cls:= .type "frame",data:= .dict #[]}) h'->
     Q (.ref h'.objs.size) {s₄ with
      gens:=s₄.gens.push (.fresh (.compStart (.GeneratorExp elt (⟨target,iter,ifs,0⟩::cls) scope pos) 0 it .none (genEnv scope cl s₄.heap.objs.size code bi env))),
      toks:=s₄.toks+1+1+1,
      heap:=h'.push {cls:= .type "generator",data:= .fields #[.int s₄.gens.size 0,.str "<genexpr>" (s₄.toks+1),.str (env.qual++ "<genexpr>") (s₄.toks+1+1)]}}) E s₃) E s₂) E s₁) E s)
  (hs:∀x,genFold iter env x=pure x):
  wpAny M A (eval (.GeneratorExp elt (⟨target,iter,ifs,0⟩::cls) scope pos) env) Q E s:=by
 rw[pY _ _ _ _ _ _ _ _ hco,hclos]
 refine wpAny_bind (wpAny_mono h (λxv s₁ h₁=> ?_) λ_ _ e=>e)
 refine wpAny_bind (wpAny_standAt ?_)
 refine wpAny_bind (wpAny_of_eq (hs xv) ?_)
 refine wpAny_bind (wpAny_holding (wpAny_mono h₁ (λit s₂ h₂=> ?_) λ_ _ e=>e))
 refine wpAny_bind (wpAny_enterFrame h₂.1 hroom ?_)
 refine wpAny_bind (wpAny_pure ?_)
 refine wpAny_bind (wpAny_mono h₂.2 (λcode s₃ h₃=> ?_) λ_ _ e=>e)
 refine wpAny_bind (wpAny_mono h₃ (λbi s₄ h₄=> ?_) λ_ _ e=>e)
 have Pg:∀y∈([((".0":Str),it)]:List (Str×Value)),scope.names.lookup y.1=some NameKind.local:=by
  intro y hy
  rcases List.mem_cons.mp hy with rfl|hy
  ·exact h0
  ·cases hy
 refine wpAny_bind (wpAny_newFunctionEnv hcell Pg (λh' hn' hs'=> ?_) hkind)
 have e:(λy:Str=>([((".0":Str),it)]:List (Str×Value)).reverse.lookup y)=λy:Str=>if y=(".0":Str)then some it else none:=by
  funext y
  by_cases hy:y= ".0"
  ·subst hy;simp
  ·have:(y==(".0":Str))=false:=by simpa using hy
   simp[List.lookup,this,hy]
 rw[e]at hn'
 simp only[newGenerator,newFields]
 refine wpAny_bind (wpAny_newGen (wpAny_bind (wpAny_mkText (wpAny_bind (wpAny_mkText (wpAny_newObj_type ?_ (by size_fits)))))))
 exact h₄ h' hn' hs'
end
section
variable{X:Cx}{sc:Scope}{own N2:List Str}{elt iter tg:Expr}{pos:Pos}{wi:TI}{g:TG}{te:TE}{P:Addr}
theorem Ah{ifs:List Expr}{cls:List Comprehension}{Rd:It->Hp->Prop}{pins:List (Addr×Obj)}{σ:St}{H0:Hp}{s0:Shared}{F:Nat->(Nat->V->Prop) ->(Nat->St->Hp->Prop) ->Prop}(more:Nat->List Addr)(hmore:∀a,∀b∈more a,a<b)
  (hc:X.calm=true)(hroom:X.A.depth<recursionLimit)(hi:PI X tg iter wi)(Bk:qu sc.names X.env.scope.names own N2 X.N)(hk:sc.kind= .function)(hco:sc.isCoroutine=false)(hnc:∀y∈sc.names,y.2≠ .cell)(UB:sc.names.lookup (".0":Str)=some NameKind.local)
  (hcd:fY X.K X.env.code P)(bm:BM X.mg X.base)
  (hs:∀x,genFold iter X.env x=pure x)
  (UC:∀code s H fp it Lv J,Turn X.prog X.w X.K tg J fp it Lv->(∀b∈fp,H b=none) ->Rd J H-> ∃cnt R W tn,F cnt R W/\W 0 (List.replicate own.length none++σ) H/\(∀h,Lv 0 h↔tn 0 h)/\(∀i h h',tn i h->(∀b∈fp,∀o,h.get? b=some o->h'.get? b=some o) ->tn i h')/\
   ∀Ss:List Addr,(∀b∈fp,b∉Ss) -> ∀s'':Shared,(∀b∈Ss,∃o,s''.heap.get? b=some o) ->Inv (X.gen X.A.in1.in1 sc (own++N2) code s H fp) (bX Ss s''.heap) (List.replicate own.length none++σ) H s''->Lv 0 s''.heap->
    Seg (model X.prog X.w) X.A.in1.in1 (EU X X.A.in1.in1 sc (own++N2) code s H fp Ss cnt W) (rF X X.A.in1.in1 sc (own++N2) code s H fp Ss tn cnt R W) cnt s'' (.compStart (.GeneratorExp elt (⟨tg,iter,ifs,0⟩::cls) sc pos) 0 (.ref it) .none (X.gen X.A.in1.in1 sc (own++N2) code s H fp).env)
     ((model X.prog X.w).den (.compStart (.GeneratorExp elt (⟨tg,iter,ifs,0⟩::cls) sc pos) 0 (.ref it) .none (X.gen X.A.in1.in1 sc (own++N2) code s H fp).env)) [] s'')
  (I0:Inv X pins σ H0 s0)(h:wi σ H0 λJ H=>H P=some (bN P)/\Rd J H):
  wpAny (model X.prog X.w) X.A (eval (.GeneratorExp elt (⟨tg,iter,ifs,0⟩::cls) sc pos) X.env) (λu s5=> ∃a cnt R W sC HC fp code tn,u= .ref a/\s5.heap.objs.size=a+1/\
   uK X X.A.in1.in1 sc (own++N2) code sC HC fp (a::more a) tn cnt R W a 0 s5/\Inv X pins σ HC sC/\(∀b∈fp,ff X pins HC b)/\sC.heap.objs.size<a/\(∀b∈fp,b<sC.heap.objs.size)/\(∀i h h',tn i h->(∀b∈fp,∀o,h.get? b=some o->h'.get? b=some o) ->tn i h')/\F cnt R W) X.xe s0:=by
 refine lg hco (qC I0 Bk) hnc UB hk hroom ?_ hs
 refine wpAny_mono (hi pins s0 σ H0 _ I0 h) (λxv s1 h1=>wpAny_mono h1 (λitv s2 h2=> ?_) λ_ _ e=>e) λ_ _ e=>e
 obtain⟨it,fp,Lv,J,H,e,I,T,st,hf,hP,Xv⟩:=h2
 subst e
 refine⟨I.Ag,BQ I hcd hP λcode h3 VY I3 ext=> ?_⟩
 obtain⟨Sy,ob,b1,b2,b3,b4,b5,b6⟩:=bm
 refine wpAny_builtinsFor (m:=X.mg) (by rw[I3.ok.glob];exact I3.mod.glob.keeps I3.bk) b1 b2 (I3.bk _ _ b3) b4 b5 b6 ?_
 intro h' hn' hs'
 have st3:Lv 0 h3:=T.keep _ _ _ st λb hb o e=>ext b o (λz=>by have:=(hf b hb).1;rw[z,hP]at this;cases this) e
 have UD:∀b∈fp,∃o,h3.get? b=some o:=λb hb=>let⟨o,e,_⟩:=T.obj 0 _ st3 b hb;⟨o,e⟩
 have NU:∀b o,h3.get? b=some o->h'.get? b=some o:=λb o e=>hs'.extBut b o (Nat.ne_of_lt (Heap.lt_size e)) (Heap.get?_push_of_some _ e)
 have sz':h'.objs.size=h3.objs.size+1:=by rw[hs'.1,Heap.size_push]
 have IG:=λ (hx:Heap) (tk:Nat) (m:Str->Option Value) (hn:hx.Ns h3.objs.size m) (kp:∀b o,h3.get? b=some o->hx.get? b=some o)=>
  LS (B:=X.A.in1.in1) (code:=code) (fp:=fp) (h':=hx) (tk:=tk) I3 Bk hk hnc hf UD I3.ok.frames (I3.ok.hd hc) hn kp
 obtain⟨cnt,R,W,tn,hF,w0,VZ,xR,sg⟩:=UC code {s2 with heap:=h3,toks:=VY} H fp it Lv J T (λb hb=>(hf b hb).1) Xv
 refine⟨h'.objs.size,cnt,R,W,{s2 with heap:=h3,toks:=VY},H,fp,code,tn,rfl,by rw[Heap.size_push],⟨⟨_,_,_,Heap.get?_push_size _ rfl,rfl,rfl,rfl⟩,.fresh _,[],List.replicate own.length none++σ,H,(λ_ h=>nomatch h),Array.getElem?_push_size ..,rfl,?_,?_,λb hb=>(hf b hb).1,w0,?_⟩,I3,hf,by show h3.objs.size<h'.objs.size;omega,λb hb=>let⟨o,e⟩:=UD b hb;Heap.lt_size e,xR,hF⟩
 ·have eg:(s2.gens.push (GenState.fresh (.compStart (.GeneratorExp elt (⟨tg,iter,ifs,0⟩::cls) sc pos) 0 (.ref it) .none (genEnv sc (bR X.env sc.names []) h3.objs.size code builtinsNs X.env)))).setIfInBounds s2.gens.size .running=s2.gens.push .running:=by
   apply Array.ext_getElem?
   intro i
   by_cases e:s2.gens.size=i
   ·subst e
    rw[Array.getElem?_setIfInBounds_self_of_lt (by simp)]
    simp
   ·rw[Array.getElem?_setIfInBounds_ne e,Array.getElem?_push,Array.getElem?_push]
    simp[Ne.symm e]
  simp only[Shared.setGen]
  rw[eg,List.append_nil]
  refine Inv.jK (pins:=[]) (IG _ _ _ (hn'.push _) (λb o e=>Heap.get?_push_of_some _ (NU b o e))) λp hp=> ?_
  obtain⟨q1,q2⟩:=jQ hp
  have ep:p.1=h'.objs.size:=by
   rcases List.mem_cons.mp q1 with z|z
   ·exact z
   ·have l1:=hmore _ _ z
    have l2:=Heap.lt_size q2
    rw[Heap.size_push]at l2
    exact absurd (Nat.lt_of_lt_of_le l1 (Nat.le_of_lt_succ l2)) (Nat.lt_irrefl _)
  have big:h3.objs.size<=p.1:=by rw[ep,sz'];exact Nat.le_succ _
  have Ph:h3.objs.size<p.1:=by rw[ep,sz'];exact Nat.lt_succ_self _
  refine⟨q2,I3.hok.fresh big,Nat.ne_of_gt Ph,λz=> ?_,λv=> ?_⟩
  ·rcases List.mem_cons.mp (I3.uz p.1 z)with y|y
   ·have l:X.env.locals<h3.objs.size:=I3.lt
    rw[y]at Ph
    exact absurd (Nat.lt_trans l Ph) (Nat.lt_irrefl _)
   ·exact I3.QD big y
  ·rw[ep]at q2
   rw[Heap.get?_push_size _ rfl]at q2
   intro z
   rw[<-Option.some.inj q2]at z
   cases z
 ·exact(VZ _).1 (T.keep _ _ _ st3 λb hb o e=>Heap.get?_push_of_some _ (NU b o e))
 ·intro s'' UE Hg st''
  rw[List.append_nil]at Hg
  refine⟨rfl,?_⟩
  rw[Nat.sub_zero]
  refine sg _ (λb hb z=> ?_) s'' UE Hg ((VZ _).2 st'')
  have l:b<h3.objs.size:=let⟨o,e⟩:=UD b hb;Heap.lt_size e
  rcases List.mem_cons.mp z with y|y
  ·rw[y,sz']at l
   exact absurd (Nat.lt_of_succ_lt l) (Nat.lt_irrefl _)
  ·have l2:=hmore _ _ y
   rw[sz']at l2
   exact absurd (Nat.lt_trans (Nat.lt_trans l (Nat.lt_succ_self _)) l2) (Nat.lt_irrefl _)
theorem yC{pins:List (Addr×Obj)}{σ:St}{H0:Hp}{s0:Shared}{F:Nat->(Nat->V->Prop) ->(Nat->St->Hp->Prop) ->Prop}(more:Nat->List Addr)(hmore:∀a,∀b∈more a,a<b)
  (hc:X.calm=true)(hroom:X.A.depth<recursionLimit)(hi:PI X tg iter wi)(Bk:qu sc.names X.env.scope.names own N2 X.N)(hk:sc.kind= .function)(hco:sc.isCoroutine=false)(hnc:∀y∈sc.names,y.2≠ .cell)(UB:sc.names.lookup (".0":Str)=some NameKind.local)
  (hcd:fY X.K X.env.code P)(bm:BM X.mg X.base)
  (hg:∀code s H fp,PG (X.gen X.A.in1.in1 sc (own++N2) code s H fp) tg g)(he:∀code s H fp,PE (X.gen X.A.in1.in1 sc (own++N2) code s H fp) elt te)
  (hs:∀x,genFold iter X.env x=pure x)(I0:Inv X pins σ H0 s0)(h:wi σ H0 λJ H=>H P=some (bN P)/\uL own.length g te σ F J H):
  wpAny (model X.prog X.w) X.A (eval (.GeneratorExp elt [⟨tg,iter,[],0⟩] sc pos) X.env) (λu s5=> ∃a cnt R W sC HC fp code tn,u= .ref a/\s5.heap.objs.size=a+1/\
   uK X X.A.in1.in1 sc (own++N2) code sC HC fp (a::more a) tn cnt R W a 0 s5/\Inv X pins σ HC sC/\(∀b∈fp,ff X pins HC b)/\sC.heap.objs.size<a/\(∀b∈fp,b<sC.heap.objs.size)/\(∀i h h',tn i h->(∀b∈fp,∀o,h.get? b=some o->h'.get? b=some o) ->tn i h')/\F cnt R W) X.xe s0:=
 Ah (cls:=[]) (Rd:=λJ H=>uL own.length g te σ F J H) more hmore hc hroom hi Bk hk hco hnc UB hcd bm hs (λcode s H fp it Lv J T hfr ⟨cnt,R,W,w0,turn,stop,hF⟩=>
  ⟨cnt,R,W,Lv,hF,w0,λ_=>Iff.rfl,T.keep,λSs hd s'' _ Hg st''=>Ie hco hc T (hg code s H fp) (he code s H fp) hd turn stop w0 Hg st'' hfr⟩) I0 h
end
section
variable{X:Cx}{B:Around}{sc:Scope}{N':List Str}{code:Value}{sC:Shared}{HC:Hp}{fp:List Addr}{tn:Nat->Heap->Prop}{cnt:Nat}{R:Nat->V->Prop}{W:Nat->St->Hp->Prop}{a S:Addr}{i:Nat}{s:Shared}
theorem uK.frame{h':Heap}{tk:Nat}{o':Obj}(G:uK X B sc N' code sC HC fp [a,S] tn cnt R W a i s)(DJ:a≠S)(hC:sC.heap.objs.size<S)(hfp:∀b∈fp,b≠S)
  (xR:∀i h h',tn i h->(∀b∈fp,∀o,h.get? b=some o->h'.get? b=some o) ->tn i h')(hS:(∃o,s.heap.get? S=some o)∨s.heap.objs.size<=S)
  (keep:∀b o,b≠S->s.heap.get? b=some o->h'.get? b=some o)(e':h'.get? S=some o')(nc:∀v,o'.data≠ .cell v):
  uK X B sc N' code sC HC fp [a,S] tn cnt R W a i {s with heap:=h',toks:=tk}:=by
 obtain⟨gs,pl,σ',H',hpl,e1,e2,I,st,fr,w,go⟩:=G.ex
 have I1:Inv (X.gen B sc N' code sC HC fp) (bX [a] s.heap++pl) σ' H' (s.setGen sC.gens.size .running):=I.jK λp hp=>by
  rcases List.mem_append.mp hp with hp|hp
  ·obtain⟨q1,q2⟩:=jQ hp
   exact I.pin p (List.mem_append_right _ (List.mem_append_left _ (bC (fp:=[a,S]) (by rw[List.mem_singleton.mp q1];simp) q2)))
  ·exact I.pin p (List.mem_append_right _ (List.mem_append_right _ hp))
 have Xw:S∉(X.gen B sc N' code sC HC fp).fs:=λhb=>by
  obtain⟨_,o,ho,_⟩:=I.ok.tM.mem hb
  exact absurd (Nat.lt_trans (Heap.lt_size ho) hC) (Nat.lt_irrefl _)
 have ea:∃oa,s.heap.get? a=some oa:=let⟨o,_,_,q,_⟩:=G.gen;⟨o,q⟩
 obtain⟨oa,ea⟩:=ea
 have I2:Inv (X.gen B sc N' code sC HC fp) (bX [a] s.heap++pl) σ' H' {s.setGen sC.gens.size .running with heap:=h',toks:=tk}/\H' S=none:=by
  rcases hS with⟨o,eo⟩|hS
  ·have pS:=I.pin (S,o) (List.mem_append_right _ (List.mem_append_left _ (bC (fp:=[a,S]) (by simp) eo)))
   refine⟨I1.turned (it:=S) (h':=h') (t':=tk) keep pS.2.1 (Nat.ne_of_gt hC) (.inr (Nat.le_of_lt hC)) (λy c hc z=> ?_) (λp hp z=> ?_),pS.2.1⟩
   ·obtain⟨v,oc,q1,q2⟩:=I.cell y c hc
    rw[z]at q1
    have Wa:s.heap.get? S=some oc:=q1
    rw[eo]at Wa
    have q3:o=oc:=Option.some.inj Wa
    exact pS.2.2.2.2 v (by rw[q3];exact q2)
   ·have wH:p∈bX [a] s.heap++pl:=hp
    rcases List.mem_append.mp wH with wH|wH
    ·exact DJ (by rw[<-z,List.mem_singleton.mp (jQ wH).1])
    ·exact hpl p wH (by rw[z];simp)
  ·refine⟨I1.kept (h':=h') (t':=tk) λb o e=>keep b o (λz=> ?_) e,I.hok.fresh hS⟩
   exact absurd (Nat.lt_of_lt_of_le (Heap.lt_size e) (by rw[z];exact hS)) (Nat.lt_irrefl _)
 obtain⟨I2,Xx⟩:=I2
 refine⟨(let⟨o,nm,qn,q,r⟩:=G.gen;⟨o,nm,qn,keep a o DJ q,r⟩),gs,pl,σ',H',hpl,e1,e2,I2.jK λp hp=> ?_,xR _ _ _ st λb hb o e=>keep b o (hfp b hb) e,fr,w,go⟩
 refine(List.mem_append.mp hp).elim (λhp=> ?_) (λhp=>I2.pin p (List.mem_append_right _ (List.mem_append_right _ hp)))
 obtain⟨q1,q2⟩:=jQ hp
 rcases List.mem_cons.mp q1 with z|z
 ·have q:=I2.pin (a,oa) (List.mem_append_right _ (List.mem_append_left _ (bC (fp:=[a]) (by simp) ea)))
  have Rk:h'.get? p.1=some p.2:=q2
  rw[z,keep a oa DJ ea]at Rk
  have q3:oa=p.2:=Option.some.inj Rk
  have ep:p=(a,oa):=by rw[<-z,q3]
  rw[ep]
  exact q
 ·have z':p.1=S:=List.mem_singleton.mp z
  have Rk:h'.get? p.1=some p.2:=q2
  rw[z',e']at Rk
  have q3:o'=p.2:=Option.some.inj Rk
  refine⟨q2,by rw[z'];exact Xx,by rw[z'];exact Nat.ne_of_gt hC,by rw[z'];exact Xw,by rw[<-q3];exact nc⟩
end
section
variable{X:Cx}{sc:Scope}{N':List Str}{code:Value}{sC:Shared}{HC:Hp}{fp:List Addr}{tn:Nat->Heap->Prop}{cnt:Nat}{R:Nat->V->Prop}{W:Nat->St->Hp->Prop}{a S:Addr}{pins:List (Addr×Obj)}{σ:St}{Rr:Result->Shared->Prop}
theorem EV(IC:Inv X pins σ HC sC)(hf:∀b∈fp,ff X pins HC b)(hh:X.A.handled=none)(hroom:X.A.depth<recursionLimit)(DJ:a≠S)(hC:sC.heap.objs.size<S)(hfp:∀b∈fp,b≠S)
  (xR:∀i h h',tn i h->(∀b∈fp,∀o,h.get? b=some o->h'.get? b=some o) ->tn i h')(val:Nat->Int)(hval:∀i v,i<cnt->R i v->v= .int (val i)):∀(k i:Nat) (s:Shared) (tA:Tok) (c:Nat) (st:Int),(st=0∨st=2) ->cnt-i=k->i<=cnt->
  uK X X.A.in1.in1 sc N' code sC HC fp [a,S] tn cnt R W a i s->s.heap.get? S=some {cls:= .type "list",dict:=none,data:= .seq #[.int (preSum val i) tA] c,slots:= #[]} ->
  (∀s' t' σ' H',Inv X pins σ H' s'->W cnt σ' H'->Rr (.ok (.ret (.int (preSum val cnt) t'))) s') ->codeAny (model X.prog X.w) X.A (.builtin "sum.loop" ⟨[.ref a,.ref S,rawInt st,rawInt 0],[]⟩) Rr s:=by
 intro k
 induction k with
 |zero=>
  intro i s tA c st hst hk hi G hS hR
  obtain rfl:i=cnt:=by omega
  refine codeAny_builtin PySem.F.entry_sum_loop (by
   rw[Around.under_plainId PySem.F.plain_sum_loop _]
   show wpAny _ X.A.in1 (seqItems? (.ref S)>>=_) _ _ s
   refine wpAny_bind (wpAny_seqItems hS rfl ?_)
   show wpAny _ X.A.in1 (tryCatch (pyNext (.ref a)) _>>=_) _ _ s
   have ex:∀b∈ [a,S],∃o,s.heap.get? b=some o:=λb hb=>by
    rcases List.mem_cons.mp hb with z|z
    ·obtain⟨o,_,_,q,_⟩:=G.gen;rw[z];exact⟨o,q⟩
    ·rw[List.mem_singleton.mp z];exact⟨_,hS⟩
   exact wpAny_bind (wpAny_tryCatch (G.done (D:=X.A.in1) IC hf hh hroom ex λs' σ' H' I' w'=>wpAny_pure (hR s' tA σ' H' I' w'))))
 |succ k ih=>
  intro i s tA c st hst hk hi G hS hR
  have hlt:i<cnt:=by omega
  have ex:∀b∈ [a,S],∃o,s.heap.get? b=some o:=λb hb=>by
   rcases List.mem_cons.mp hb with z|z
   ·obtain⟨o,_,_,q,_⟩:=G.gen;rw[z];exact⟨o,q⟩
   ·rw[List.mem_singleton.mp z];exact⟨_,hS⟩
  refine codeAny_builtin PySem.F.entry_sum_loop (by
   rw[Around.under_plainId PySem.F.plain_sum_loop _]
   show wpAny _ X.A.in1 (seqItems? (.ref S)>>=_) _ _ s
   refine wpAny_bind (wpAny_seqItems hS rfl ?_)
   show wpAny _ X.A.in1 (tryCatch (pyNext (.ref a)) _>>=_) _ _ s
   refine wpAny_bind (wpAny_tryCatch (G.item (D:=X.A.in1) hh hroom (by simp) ex hlt λv x s' rx LV G' kp=> ?_))
   obtain rfl:=hval i x hlt LV
   obtain⟨t,rfl⟩:=rx
   have hS':=kp S (by simp) _ hS
   have again:∀(h':Heap) (tk:Nat) (c':Nat) (tB:Tok) (st':Int),(st'=0∨st'=2) ->(∀b o,b≠S->s'.heap.get? b=some o->h'.get? b=some o) ->h'.get? S=some {cls:= .type "list",dict:=none,data:= .seq #[.int (preSum val i+val i) tB] c',slots:= #[]} ->
     codeAny (model X.prog X.w) X.A (.builtin "sum.loop" ⟨[.ref a,.ref S,rawInt st',rawInt 0],[]⟩) Rr {s' with heap:=h',toks:=tk}:=λh' tk c' tB st' UG Xy e'=>
    ih (i+1) _ tB c' st' UG (by omega) hlt (G'.frame DJ hC hfp xR (.inl ⟨_,hS'⟩) Xy e' (λv z=>by cases z)) e' hR
   rcases hst with rfl|rfl
   ·show wpAny _ X.A.in1 (if(_:Bool)=true then(mkInt (preSum val i+val i)>>=_)else _) _ _ _
    split
    ·refine wpAny_bind (wpAny_mkInt ?_)
     show wpAny _ X.A.in1 (updateSeq S (λ_=> #[.int (preSum val i+val i) s'.toks])>>=_) _ _ _
     exact wpAny_bind (wpAny_updateSeq hS' rfl (wpAny_pure ⟨plainId_quiet PySem.F.plain_sum_loop _,again _ _ _ _ 0 (.inl rfl) (λb o hb e=>(Heap.get?_update_other _ _ (Ne.symm hb)).trans e) (Heap.get?_update_self _ hS' rfl)⟩))
    ·refine wpAny_bind (wpAny_rule (wpAny_bind (wpAny_attempt (wpAny_holding (wpAny_add_int ?_)))))
     show wpAny _ X.A.in1 (updateSeq S (λ_=> #[.int (preSum val i+val i) s'.toks])>>=_) _ _ _
     refine wpAny_bind (wpAny_updateSeq hS' rfl ?_)
     have Ig:=Heap.get?_update_self (Obj.mapSeq λ_=> #[Value.int (preSum val i+val i) s'.toks]) hS' rfl
     exact wpAny_bind (wpAny_letGo (wpAny_bind (wpAny_updateSeq Ig rfl (wpAny_pure ⟨plainId_quiet PySem.F.plain_sum_loop _,again _ _ _ _ 2 (.inr rfl) (λb o hb e=>(Heap.get?_update_other _ _ (Ne.symm hb)).trans ((Heap.get?_update_other _ _ (Ne.symm hb)).trans e)) (Heap.get?_update_self _ Ig rfl)⟩))))
   ·show wpAny _ X.A.in1 ((holding [Value.int (val i) t] (binaryOp .Add (.int (preSum val i) tA) (.int (val i) t))).attempt>>=_) _ _ _
    refine wpAny_bind (wpAny_attempt (wpAny_holding (wpAny_add_int ?_)))
    show wpAny _ X.A.in1 (updateSeq S (λ_=> #[.int (preSum val i+val i) s'.toks])>>=_) _ _ _
    refine wpAny_bind (wpAny_updateSeq hS' rfl ?_)
    have Ig:=Heap.get?_update_self (Obj.mapSeq λ_=> #[Value.int (preSum val i+val i) s'.toks]) hS' rfl
    exact wpAny_bind (wpAny_letGo (wpAny_bind (wpAny_updateSeq Ig rfl (wpAny_pure ⟨plainId_quiet PySem.F.plain_sum_loop _,again _ _ _ _ 2 (.inr rfl) (λb o hb e=>(Heap.get?_update_other _ _ (Ne.symm hb)).trans ((Heap.get?_update_other _ _ (Ne.symm hb)).trans e)) (Heap.get?_update_self _ Ig rfl)⟩)))))
theorem EW{Q:Value->Shared->Prop}{E:Value->Shared->Prop}{s:Shared}(IC:Inv X pins σ HC sC)(hf:∀b∈fp,ff X pins HC b)(hh:X.A.handled=none)(hroom:X.A.depth<recursionLimit)(hsz:s.heap.objs.size=a+1)(hC:sC.heap.objs.size<a)(hlt:∀b∈fp,b<sC.heap.objs.size)
  (xR:∀i h h',tn i h->(∀b∈fp,∀o,h.get? b=some o->h'.get? b=some o) ->tn i h')(val:Nat->Int)(hval:∀i v,i<cnt->R i v->v= .int (val i))(G:uK X X.A.in1.in1 sc N' code sC HC fp [a,a+1] tn cnt R W a 0 s)
  (hQ:∀s' t' σ' H',Inv X pins σ H' s'->W cnt σ' H'->Q (.int (preSum val cnt) t') s'):wpAny (model X.prog X.w) X.A (call (.builtin "sum") [.ref a]) Q E s:=by
 refine call_function_tree PySem.F.kind_sum PySem.F.plain_sum PySem.F.entry_sum (PySem.F.args_sum1 _) ?_
 unfold Builtin.«sum»
 simp only[List.length_cons,List.length_nil]
 rw[if_neg (by decide)]
 refine wpAny_bind (wpAny_of_eq (a:=[none]) rfl ?_)
 refine wpAny_bind (wpAny_pyIter_gen G.gen ?_)
 refine wpAny_bind (wpAny_mkInt (wpAny_bind (wpAny_pure ?_)))
 simp only[List.forIn_cons,List.forIn_nil]
 refine wpAny_bind (wpAny_bind (wpAny_bind (wpAny_isInstance (T:= "int") (b:=false) (typeIs_int _ _ _) PySem.sub_int_str ?_)))
 simp only[Bool.false_eq_true,if_false]
 refine wpAny_pure (wpAny_bind (wpAny_bind (wpAny_isInstance (T:= "int") (b:=false) (typeIs_int _ _ _) PySem.sub_int_bytes ?_)))
 simp only[Bool.false_eq_true,if_false]
 refine wpAny_pure (wpAny_bind (wpAny_bind (wpAny_isInstance (T:= "int") (b:=false) (typeIs_int _ _ _) PySem.sub_int_bytearray ?_)))
 simp only[Bool.false_eq_true,if_false]
 refine wpAny_pure (wpAny_pure (wpAny_bind (wpAny_newObj_type ?_)))
 have DJ:a≠a+1:=Nat.ne_of_lt (Nat.lt_succ_self _)
 have NV:sC.heap.objs.size<a+1:=Nat.lt_succ_of_lt hC
 have Qq:∀b∈fp,b≠a+1:=λb hb=>Nat.ne_of_lt (Nat.lt_trans (hlt b hb) NV)
 refine wpAny_pure ⟨plainId_quiet PySem.F.plain_sum_loop _,?_⟩
 have e0:({s with toks:=s.toks+1}:Shared).heap.objs.size=a+1:=hsz
 dsimp only
 rw[hsz]
 have eS:(s.heap.push {cls:= .type "list",dict:=none,data:= .seq #[Value.int 0 s.toks]}).get? (a+1)=some {cls:= .type "list",dict:=none,data:= .seq #[Value.int 0 s.toks]}:=by
  rw[<-hsz];exact Heap.get?_push_size _ rfl
 refine EV IC hf hh hroom DJ NV Qq xR val hval cnt 0 _ s.toks 0 0 (.inl rfl) rfl (Nat.zero_le _) (G.frame DJ NV Qq xR (.inr (Nat.le_of_eq hsz)) (λb o _ e=>Heap.get?_push_of_some _ e) eS (λv z=>by cases z)) eS λs' t' σ' H' I' w'=> ?_
 exact hQ s' t' σ' H' I' w'
end
theorem set_same{s:Shared}{g:Nat}{x y:GenState}(h:s.gens[g]?=some x):(s.setGen g y).setGen g x=s:=by
 obtain⟨hh,gens,d,t,os⟩:=s
 have hlt:g<gens.size:=by
  rcases Nat.lt_or_ge g gens.size with q|q
  ·exact q
  ·have z:gens[g]?=none:=Array.getElem?_eq_none q
   have h':gens[g]?=some x:=h
   rw[z]at h';cases h'
 have q:(gens.setIfInBounds g y).setIfInBounds g x=gens:=by
  apply Array.ext_getElem?
  intro i
  by_cases e:g=i
  ·subst e
   rw[Array.getElem?_setIfInBounds_self_of_lt (by simpa using hlt)]
   exact h.symm
  ·rw[Array.getElem?_setIfInBounds_ne e,Array.getElem?_setIfInBounds_ne e]
 show({heap:=hh,gens:=(gens.setIfInBounds g y).setIfInBounds g x,drawn:=d,toks:=t,os:=os}:Shared)=_
 rw[q]
section
variable{X:Cx}{sc:Scope}{N':List Str}{code:Value}{sC:Shared}{HC:Hp}{fp Ss:List Addr}{tn:Nat->Heap->Prop}{cnt:Nat}{R:Nat->V->Prop}{W:Nat->St->Hp->Prop}{a:Addr}{pins:List (Addr×Obj)}{σ:St}{Rr:Result->Shared->Prop}
theorem uK.out{B:Around}{i:Nat}{s:Shared}(G:uK X B sc N' code sC HC fp Ss tn cnt R W a i s)(IC:Inv X pins σ HC sC)(hf:∀b∈fp,ff X pins HC b):∃σ' H',Inv X pins σ H' s/\W i σ' H':=by
 obtain⟨gs,pl,σ',H',hpl,e1,e2,I,st,fr,w,go⟩:=G.ex
 have q:=Inv.Ib (gs:=gs) IC hf e2 I
 rw[set_same e1]at q
 exact⟨σ',H',q,w⟩
theorem EX(IC:Inv X pins σ HC sC)(hf:∀b∈fp,ff X pins HC b)(hh:X.A.handled=none)(hroom:X.A.depth<recursionLimit)(bv:Nat->Bool)(hval:∀i v,i<cnt->R i v->v= .bl (bv i)):∀(k i:Nat) (s:Shared),cnt-i=k->i<=cnt->
  uK X X.A.in1.in1 sc N' code sC HC fp [a] tn cnt R W a i s->(∀j,j<i->bv j=true) ->
  ((∀j,j<cnt->bv j=true) -> ∀s' σ' H',Inv X pins σ H' s'->W cnt σ' H'->Rr (.ok (.ret (.bool true))) s') ->
  (∀j,j<cnt->bv j=false->(∀l,l<j->bv l=true) -> ∀s' σ' H',Inv X pins σ H' s'->W (j+1) σ' H'->Rr (.ok (.ret (.bool false))) s') ->codeAny (model X.prog X.w) X.A (.builtin "all.loop" ⟨[.ref a],[]⟩) Rr s:=by
 intro k
 induction k with
 |zero=>
  intro i s hk hi G hp hT hF
  obtain rfl:i=cnt:=by omega
  have ex:∀b∈ [a],∃o,s.heap.get? b=some o:=λb hb=>by
   obtain⟨o,_,_,q,_⟩:=G.gen;rw[List.mem_singleton.mp hb];exact⟨o,q⟩
  refine codeAny_builtin PySem.F.entry_all_loop (by
   rw[Around.under_plainId PySem.F.plain_all_loop _]
   show wpAny _ X.A.in1 (pyNext (.ref a)>>=_) _ _ s
   exact wpAny_bind (G.done (D:=X.A.in1) IC hf hh hroom ex λs' σ' H' I' w'=>wpAny_bind (wpAny_rule (wpAny_pure (hT hp s' σ' H' I' w')))))
 |succ k ih=>
  intro i s hk hi G hp hT hF
  have hlt:i<cnt:=by omega
  have ex:∀b∈ [a],∃o,s.heap.get? b=some o:=λb hb=>by
   obtain⟨o,_,_,q,_⟩:=G.gen;rw[List.mem_singleton.mp hb];exact⟨o,q⟩
  refine codeAny_builtin PySem.F.entry_all_loop (by
   rw[Around.under_plainId PySem.F.plain_all_loop _]
   show wpAny _ X.A.in1 (pyNext (.ref a)>>=_) _ _ s
   refine wpAny_bind (G.item (D:=X.A.in1) hh hroom (by simp) ex hlt λv x s' rx LV G' kp=> ?_)
   obtain rfl:=hval i x hlt LV
   cases rx
   refine wpAny_bind (wpAny_holding (wpAny_truthy_bool (wpAny_bind (wpAny_letGo ?_))))
   cases hb:bv i with
   |true=>
    simp only[if_true]
    exact wpAny_pure ⟨plainId_quiet PySem.F.plain_all_loop _,ih (i+1) _ (by omega) hlt G' (λj hj=>by
     rcases Nat.lt_or_ge j i with q|q
     ·exact hp j q
     ·rw[show j=i by omega];exact hb) hT hF⟩
   |false=>
    simp only[Bool.false_eq_true,if_false]
    obtain⟨σ',H',I',w'⟩:=G'.out IC hf
    exact wpAny_bind (wpAny_rule (wpAny_pure (hF i hlt hb hp s' σ' H' I' w'))))
theorem EY{Q:Value->Shared->Prop}{E:Value->Shared->Prop}{s:Shared}(IC:Inv X pins σ HC sC)(hf:∀b∈fp,ff X pins HC b)(hh:X.A.handled=none)(hroom:X.A.depth<recursionLimit)(bv:Nat->Bool)(hval:∀i v,i<cnt->R i v->v= .bl (bv i))(G:uK X X.A.in1.in1 sc N' code sC HC fp [a] tn cnt R W a 0 s)
  (hT:(∀j,j<cnt->bv j=true) -> ∀s' σ' H',Inv X pins σ H' s'->W cnt σ' H'->Q (.bool true) s')
  (hF:∀j,j<cnt->bv j=false->(∀l,l<j->bv l=true) -> ∀s' σ' H',Inv X pins σ H' s'->W (j+1) σ' H'->Q (.bool false) s'):wpAny (model X.prog X.w) X.A (call (.builtin "all") [.ref a]) Q E s:=by
 refine call_function_tree PySem.F.kind_all PySem.F.plain_all PySem.F.entry_all (PySem.F.args_all1 _) ?_
 unfold Builtin.«all»
 refine wpAny_bind (m:=oneArg "all" _) (wpAny_pure (wpAny_bind (wpAny_pyIter_gen G.gen ?_)))
 exact wpAny_pure ⟨plainId_quiet PySem.F.plain_all_loop _,EX IC hf hh hroom bv hval cnt 0 s rfl (Nat.zero_le _) G (λj hj=>absurd hj (Nat.not_lt_zero _)) hT hF⟩
theorem EZ(IC:Inv X pins σ HC sC)(hf:∀b∈fp,ff X pins HC b)(hh:X.A.handled=none)(hroom:X.A.depth<recursionLimit)(bv:Nat->Bool)(hval:∀i v,i<cnt->R i v->v= .bl (bv i)):∀(k i:Nat) (s:Shared),cnt-i=k->i<=cnt->
  uK X X.A.in1.in1 sc N' code sC HC fp [a] tn cnt R W a i s->(∀j,j<i->bv j=false) ->
  ((∀j,j<cnt->bv j=false) -> ∀s' σ' H',Inv X pins σ H' s'->W cnt σ' H'->Rr (.ok (.ret (.bool false))) s') ->
  (∀j,j<cnt->bv j=true->(∀l,l<j->bv l=false) -> ∀s' σ' H',Inv X pins σ H' s'->W (j+1) σ' H'->Rr (.ok (.ret (.bool true))) s') ->codeAny (model X.prog X.w) X.A (.builtin "any.loop" ⟨[.ref a],[]⟩) Rr s:=by
 intro k
 induction k with
 |zero=>
  intro i s hk hi G hp hT hF
  obtain rfl:i=cnt:=by omega
  have ex:∀b∈ [a],∃o,s.heap.get? b=some o:=λb hb=>by
   obtain⟨o,_,_,q,_⟩:=G.gen;rw[List.mem_singleton.mp hb];exact⟨o,q⟩
  refine codeAny_builtin PySem.F.entry_any_loop (by
   rw[Around.under_plainId PySem.F.plain_any_loop _]
   show wpAny _ X.A.in1 (pyNext (.ref a)>>=_) _ _ s
   exact wpAny_bind (G.done (D:=X.A.in1) IC hf hh hroom ex λs' σ' H' I' w'=>wpAny_bind (wpAny_rule (wpAny_pure (hT hp s' σ' H' I' w')))))
 |succ k ih=>
  intro i s hk hi G hp hT hF
  have hlt:i<cnt:=by omega
  have ex:∀b∈ [a],∃o,s.heap.get? b=some o:=λb hb=>by
   obtain⟨o,_,_,q,_⟩:=G.gen;rw[List.mem_singleton.mp hb];exact⟨o,q⟩
  refine codeAny_builtin PySem.F.entry_any_loop (by
   rw[Around.under_plainId PySem.F.plain_any_loop _]
   show wpAny _ X.A.in1 (pyNext (.ref a)>>=_) _ _ s
   refine wpAny_bind (G.item (D:=X.A.in1) hh hroom (by simp) ex hlt λv x s' rx LV G' kp=> ?_)
   obtain rfl:=hval i x hlt LV
   cases rx
   refine wpAny_bind (wpAny_holding (wpAny_truthy_bool (wpAny_bind (wpAny_letGo ?_))))
   cases hb:bv i with
   |false=>
    simp only[Bool.false_eq_true,if_false]
    exact wpAny_pure ⟨plainId_quiet PySem.F.plain_any_loop _,ih (i+1) _ (by omega) hlt G' (λj hj=>by
     rcases Nat.lt_or_ge j i with q|q
     ·exact hp j q
     ·rw[show j=i by omega];exact hb) hT hF⟩
   |true=>
    simp only[if_true]
    obtain⟨σ',H',I',w'⟩:=G'.out IC hf
    exact wpAny_bind (wpAny_rule (wpAny_pure (hF i hlt hb hp s' σ' H' I' w'))))
theorem Fb{Q:Value->Shared->Prop}{E:Value->Shared->Prop}{s:Shared}(IC:Inv X pins σ HC sC)(hf:∀b∈fp,ff X pins HC b)(hh:X.A.handled=none)(hroom:X.A.depth<recursionLimit)(bv:Nat->Bool)(hval:∀i v,i<cnt->R i v->v= .bl (bv i))(G:uK X X.A.in1.in1 sc N' code sC HC fp [a] tn cnt R W a 0 s)
  (hT:(∀j,j<cnt->bv j=false) -> ∀s' σ' H',Inv X pins σ H' s'->W cnt σ' H'->Q (.bool false) s')
  (hF:∀j,j<cnt->bv j=true->(∀l,l<j->bv l=false) -> ∀s' σ' H',Inv X pins σ H' s'->W (j+1) σ' H'->Q (.bool true) s'):wpAny (model X.prog X.w) X.A (call (.builtin "any") [.ref a]) Q E s:=by
 refine call_function_tree PySem.F.kind_any PySem.F.plain_any PySem.F.entry_any (PySem.F.args_any1 _) ?_
 unfold Builtin.«any»
 refine wpAny_bind (m:=oneArg "any" _) (wpAny_pure (wpAny_bind (wpAny_pyIter_gen G.gen ?_)))
 exact wpAny_pure ⟨plainId_quiet PySem.F.plain_any_loop _,EZ IC hf hh hroom bv hval cnt 0 s rfl (Nat.zero_le _) G (λj hj=>absurd hj (Nat.not_lt_zero _)) hT hF⟩
end
def Ih(k:Nat)(P:Addr)(g:TG)(te:TE)(σ:St)(J:It)(H1:Hp)(Q:VK):Prop:=H1 P=some (bN P)/\uL k g te σ (λcnt R W=> ∃val:Nat->Int,(∀i v,i<cnt->R i v->v= .int (val i))/\ ∀σ' H',W cnt σ' H'->Q (.int (preSum val cnt)) H') J H1
def DK(k:Nat)(P:Addr)(wi:TI)(g:TG)(te:TE):TE:=λσ H Q=>wi σ H λJ H1=>Ih k P g te σ J H1 Q
def NW(k:Nat)(P:Addr)(g:TG)(te:TE)(σ:St)(J:It)(H1:Hp)(Q:VK):Prop:=H1 P=some (bN P)/\uL k g te σ (λcnt R W=> ∃bv:Nat->Bool,(∀i v,i<cnt->R i v->v= .bl (bv i))/\
 ((∀j,j<cnt->bv j=true) -> ∀σ' H',W cnt σ' H'->Q (.bl true) H')/\(∀j,j<cnt->bv j=false->(∀l,l<j->bv l=true) -> ∀σ' H',W (j+1) σ' H'->Q (.bl false) H')) J H1
def NX(k:Nat)(P:Addr)(wi:TI)(g:TG)(te:TE):TE:=λσ H Q=>wi σ H λJ H1=>NW k P g te σ J H1 Q
def NY(k:Nat)(P:Addr)(g:TG)(te:TE)(σ:St)(J:It)(H1:Hp)(Q:VK):Prop:=H1 P=some (bN P)/\uL k g te σ (λcnt R W=> ∃bv:Nat->Bool,(∀i v,i<cnt->R i v->v= .bl (bv i))/\
 ((∀j,j<cnt->bv j=false) -> ∀σ' H',W cnt σ' H'->Q (.bl false) H')/\(∀j,j<cnt->bv j=true->(∀l,l<j->bv l=false) -> ∀σ' H',W (j+1) σ' H'->Q (.bl true) H')) J H1
def NZ(k:Nat)(P:Addr)(wi:TI)(g:TG)(te:TE):TE:=λσ H Q=>wi σ H λJ H1=>NY k P g te σ J H1 Q
section
variable{X:Cx}{sc:Scope}{own N2:List Str}{elt iter tg:Expr}{gb p pos:Pos}{wi:TI}{g:TG}{te:TE}{P:Addr}
structure Ai(X:Cx)(sc:Scope)(own N2:List Str)(P:Addr):Prop where
 calm:X.calm=true
 room:X.A.depth<recursionLimit
 LW:qu sc.names X.env.scope.names own N2 X.N
 kind:sc.kind= .function
 co:sc.isCoroutine=false
 nc:∀y∈sc.names,y.2≠ .cell
 Sz:sc.names.lookup (".0":Str)=some NameKind.local
 code:fY X.K X.env.code P
 bm:BM X.mg X.base
theorem DL(K:Ai X sc own N2 P)(Aj:Gl X "sum")(hm:X.mg "sum"=none)(hi:PI X tg iter wi)
  (hg:∀code s H fp,PG (X.gen X.A.in1.in1 sc (own++N2) code s H fp) tg g)(he:∀code s H fp,PE (X.gen X.A.in1.in1 sc (own++N2) code s H fp) elt te)
  (hs:∀x,genFold iter X.env x=pure x:=by intro _;rfl)(hst:starEach [.GeneratorExp elt [⟨tg,iter,[],0⟩] sc gb] X.env=[(false,eval (.GeneratorExp elt [⟨tg,iter,[],0⟩] sc gb) X.env)]:=by rfl):
  PE X (.Call (.Name "sum" p) [.GeneratorExp elt [⟨tg,iter,[],0⟩] sc gb] [] pos) (DK own.length P wi g te):=by
 intro pins s σ H Q I h
 refine wpAny_Call_Name_kw (jU I Aj hm PyProof.Rows.boot_sum ?_)
 refine PyProof.Rows.callWith_builtin1 ?_ hst rfl
 rw[hst]
 refine Calls.spliced_cons (fN (yC (pos:=gb) (λa=>[a+1]) (λa b hb=>by rw[List.mem_singleton.mp hb];exact Nat.lt_succ_self _) K.calm K.room hi K.LW K.kind K.co K.nc K.Sz K.code K.bm hg he hs I h) λu s5 h5=> ?_)
 obtain⟨a,cnt,R,W,sC,HC,fp,code,tn,rfl,hsz,G,IC,hf,hC,hlt,xR,val,hval,hq⟩:=h5
 exact Calls.spliced_nil (EW IC hf (I.ok.hd K.calm) K.room hsz hC hlt xR val hval G λs' t' σ' H' I' w'=>⟨.int (preSum val cnt),H',I',⟨_,rfl⟩,hq σ' H' w'⟩)
theorem LX(K:Ai X sc own N2 P)(Aj:Gl X "all")(hm:X.mg "all"=none)(hi:PI X tg iter wi)
  (hg:∀code s H fp,PG (X.gen X.A.in1.in1 sc (own++N2) code s H fp) tg g)(he:∀code s H fp,PE (X.gen X.A.in1.in1 sc (own++N2) code s H fp) elt te)
  (hs:∀x,genFold iter X.env x=pure x:=by intro _;rfl)(hst:starEach [.GeneratorExp elt [⟨tg,iter,[],0⟩] sc gb] X.env=[(false,eval (.GeneratorExp elt [⟨tg,iter,[],0⟩] sc gb) X.env)]:=by rfl):
  PE X (.Call (.Name "all" p) [.GeneratorExp elt [⟨tg,iter,[],0⟩] sc gb] [] pos) (NX own.length P wi g te):=by
 intro pins s σ H Q I h
 refine wpAny_Call_Name_kw (jU I Aj hm PyProof.Rows.boot_all ?_)
 refine PyProof.Rows.callWith_builtin1 ?_ hst rfl
 rw[hst]
 refine Calls.spliced_cons (fN (yC (pos:=gb) (λa=>[]) (λa b hb=>by cases hb) K.calm K.room hi K.LW K.kind K.co K.nc K.Sz K.code K.bm hg he hs I h) λu s5 h5=> ?_)
 obtain⟨a,cnt,R,W,sC,HC,fp,code,tn,rfl,hsz,G,IC,hf,hC,hlt,xR,bv,hval,hT,hF⟩:=h5
 exact Calls.spliced_nil (EY IC hf (I.ok.hd K.calm) K.room bv hval G (λhb s' σ' H' I' w'=>⟨.bl true,H',I',rfl,hT hb σ' H' w'⟩) (λj hj hb hp s' σ' H' I' w'=>⟨.bl false,H',I',rfl,hF j hj hb hp σ' H' w'⟩))
theorem LY(K:Ai X sc own N2 P)(Aj:Gl X "any")(hm:X.mg "any"=none)(hi:PI X tg iter wi)
  (hg:∀code s H fp,PG (X.gen X.A.in1.in1 sc (own++N2) code s H fp) tg g)(he:∀code s H fp,PE (X.gen X.A.in1.in1 sc (own++N2) code s H fp) elt te)
  (hs:∀x,genFold iter X.env x=pure x:=by intro _;rfl)(hst:starEach [.GeneratorExp elt [⟨tg,iter,[],0⟩] sc gb] X.env=[(false,eval (.GeneratorExp elt [⟨tg,iter,[],0⟩] sc gb) X.env)]:=by rfl):
  PE X (.Call (.Name "any" p) [.GeneratorExp elt [⟨tg,iter,[],0⟩] sc gb] [] pos) (NZ own.length P wi g te):=by
 intro pins s σ H Q I h
 refine wpAny_Call_Name_kw (jU I Aj hm PyProof.Rows.boot_any ?_)
 refine PyProof.Rows.callWith_builtin1 ?_ hst rfl
 rw[hst]
 refine Calls.spliced_cons (fN (yC (pos:=gb) (λa=>[]) (λa b hb=>by cases hb) K.calm K.room hi K.LW K.kind K.co K.nc K.Sz K.code K.bm hg he hs I h) λu s5 h5=> ?_)
 obtain⟨a,cnt,R,W,sC,HC,fp,code,tn,rfl,hsz,G,IC,hf,hC,hlt,xR,bv,hval,hT,hF⟩:=h5
 exact Calls.spliced_nil (Fb IC hf (I.ok.hd K.calm) K.room bv hval G (λhb s' σ' H' I' w'=>⟨.bl false,H',I',rfl,hT hb σ' H' w'⟩) (λj hj hb hp s' σ' H' I' w'=>⟨.bl true,H',I',rfl,hF j hj hb hp σ' H' w'⟩))
end
section
variable{X:Cx}{B:Around}{sc:Scope}{N':List Str}{code:Value}{sC:Shared}{HC:Hp}{fp Ss:List Addr}{tn:Nat->Heap->Prop}{R:Nat->V->Prop}{W:Nat->St->Hp->Prop}
variable{elt iter tg DM Wb:Expr}{pos:Pos}{it:Addr}{J:It}{g g':TG}{te:TE}{SA:TI}{c1 c2:Nat}
end
section
variable{X:Cx}{B:Around}{sc:Scope}{N':List Str}{code:Value}{sC:Shared}{HC:Hp}{fp Ss:List Addr}{tn:Nat->Heap->Prop}{R:Nat->V->Prop}{W:Nat->St->Hp->Prop}
variable{elt iter tg DM Wb:Expr}{pos:Pos}{it:Addr}{J:It}{g g':TG}{te:TE}{SA:TI}{c1 c2:Nat}
end
section
variable{X:Cx}{sc:Scope}{own N2:List Str}{elt iter tg DM Wb:Expr}{gb p pos:Pos}{wi SA:TI}{g g':TG}{te:TE}{P:Addr}
end
mutual
inductive Ak (K:PySem.W.Frag) (H:Hp):V->PyData->Prop
 |gP:Ak K H .gP .none
 |bl (b:Bool):Ak K H (.bl b) (.bool b)
 |int (i:Int):Ak K H (.int i) (.int i)
 |str (x:Str):Ak K H (.str x) (.str x)
 |lst {a:Addr} {xs:List V} {ds:List PyData}:aS K H a xs->BS K H xs ds->Ak K H (.ref a) (.list ds)
 |tup {a:Addr} {xs:List V} {ds:List PyData}:pN K H a xs->BS K H xs ds->Ak K H (.ref a) (.tuple ds)
inductive BS (K:PySem.W.Frag) (H:Hp):List V->List PyData->Prop
 |nil:BS K H [] []
 |cons {x:V} {d:PyData} {xs:List V} {ds:List PyData}:Ak K H x d->BS K H xs ds->BS K H (x::xs) (d::ds)
end
section
variable{X:Cx}{pins:List (Addr×Obj)}{σ:St}{H:Hp}{s:Shared}
mutual
theorem uM(I:Inv X pins σ H s):∀{x:V} {d:PyData} {u:Value},Ak X.K H x d->RelV x u-> ∃as,Reads s.heap u d as
 |_,_,_,.gP,r=>by cases r;exact⟨_,.none⟩
 |_,_,_,.bl b,r=>by cases r;exact⟨_,.bool b⟩
 |_,_,_,.int i,r=>by obtain⟨t,rfl⟩:=r;exact⟨_,.int i t⟩
 |_,_,_,.str x,r=>by obtain⟨t,rfl⟩:=r;exact⟨_,.str x t⟩
 |_,_,_,.lst hq hs,r=>by
  cases r
  obtain⟨its,rv,⟨o,n,e,c,_,dd⟩,_⟩:=I.list hq
  obtain⟨as,q⟩:=n8 I hs rv
  exact⟨_,.list e c dd (by simpa using q)⟩
 |_,_,_,.tup hq hs,r=>by
  cases r
  obtain⟨its,rv,⟨o,e,c,n,dd⟩,_⟩:=I.tuple hq
  obtain⟨as,q⟩:=n8 I hs rv
  exact⟨_,.tuple e c dd (by simpa using q)⟩
theorem n8(I:Inv X pins σ H s):∀{xs:List V} {ds:List PyData} {us:List Value},BS X.K H xs ds->Vals xs us-> ∃as,ReadsAll s.heap us ds as
 |_,_,_,.nil,r=>by cases r;exact⟨_,.nil⟩
 |_,_,_,.cons h t,r=>by
  cases r with
  |cons r1 r2=>
   obtain⟨as,q1⟩:=uM I h r1
   obtain⟨bs,q2⟩:=n8 I t r2
   exact⟨_,.cons q1 q2⟩
end
end
def Pj(K:PySem.W.Frag)(neg:Bool):R2:=λx y H Q=> ∃da db,Ak K H x da/\Ak K H y db/\SeqAt.shaped da=true/\SeqAt.shaped db=true/\Q (.bl (if neg then !PyData.eqv da db else PyData.eqv da db)) H
section
variable{X:Cx}
theorem BU(hu:X.A.units+64<cLine):tN X (compareOp .Eq) (Pj X.K false):=by
 intro pins s σ H x y v u Q I rx ry h
 obtain⟨da,db,h1,h2,s1,s2,q⟩:=h
 obtain⟨as,r1⟩:=uM I h1 rx
 obtain⟨bs,r2⟩:=uM I h2 ry
 exact eq_dataH r1 r2 s1 s2 hu ⟨.bl _,H,I,rfl,q⟩
theorem jc:nZ X (.builtin "isinstance") (λxs H Q=> ∃x n t b,xs=[x,.ty n]/\rE X.K H x t/\PySem.W.kitOne X.K t (.type n)=some b/\Q (.bl b) H):=by
 intro pins s σ H xs us Q I r h
 obtain⟨x,n,t,b,rfl,ty,e,q⟩:=h
 cases r with
 |cons r1 r2=>
  cases r2 with
  |cons r2 r3=>
   cases r3
   cases r2
   exact EJ I r1 ty e λtk=>⟨.bl b,H,I.tok _,rfl,q⟩
end
abbrev qD (r:List Int):PyData:= .list (r.map .int)
abbrev uN (m:List (List Int)):PyData:= .list (m.map qD)
theorem n9:∀m:List (List Int),PyData.canLayAll0 (m.map qD)=true
 | []=>rfl
 |r::m=>by simp[PyData.canLayAll0,PyData.canLay0,PySem.W.ke_canLayAll0,n9 m]
theorem mL:∀m:List (List Int),PyData.depthAll (m.map qD)<=1
 | []=>by simp[PyData.depthAll]
 |r::m=>by
  have:=mL m
  simp only[List.map_cons,PyData.depthAll,PyData.depth,PySem.W.ke_depthAll]
  omega
theorem BV(m:List (List Int)):SeqAt.shaped (uN m)=true:=by
 have q:=mL m
 simp only[SeqAt.shaped,PyData.canLay0,PyData.depth,n9,Bool.true_and,decide_eq_true_eq]
 exact decide_eq_true (show PyData.depthAll (m.map qD)+1<=64 by omega)
theorem uO(r:List Int):SeqAt.shaped (qD r)=true:=PySem.W.ke_shaped_ints r
theorem LZ(r t:List Int):PyData.eqv (qD r) (qD t)=decide (r=t):=by
 simp only[PyData.eqv]
 exact PySem.W.ked_eqvAll r t
structure Pk(tz:Addr->HO):Prop where
 new:∀{P:Program} {w:World} {H:Hp} {h:Heap} {T:Addr},h.get? T=some {cls:= .none,data:= .fields #[]} ->fO P w H h T (tz T)
 get:∀{P:Program} {w:World} {H:Hp} {h:Heap} {T:Addr},fO P w H h T (tz T) -> ∃ps:Array Value,h.get? T=some {cls:= .none,data:= .fields ps}
theorem DN:Pk bN:=⟨λe=>HY e (by simp[TriplesOk]),λh=>let⟨⟨ps,e,_⟩,_⟩:=h;⟨ps,e⟩⟩
theorem Pn(gT:List Addr):Pk (λT=>if T∈gT then .BE else bN T):=by
 refine⟨λ {P w H h T} e=> ?_,λ {P w H h T} x=> ?_⟩
 ·by_cases c:T∈gT
  ·rw[if_pos c]
   exact⟨#[],e,trivial,λpos cv z=>nomatch z⟩
  ·rw[if_neg c]
   exact DN.new e
 ·by_cases c:T∈gT
  ·rw[if_pos c]at x
   obtain⟨ps,e,_⟩:=x
   exact⟨ps,e⟩
  ·rw[if_neg c]at x
   exact DN.get x
theorem Fc{P:Program}{w:World}{K:PySem.W.Frag}{mg mb:Str->Option Value}{k:Nat}{fa a:Addr}{fd:FuncData}{x:Str}{sp:Sp}{s₁:Shared}{vs:List Value}{ns:List Int}{tabs:List Addr}{tz:Addr->HO}(TZ:Pk tz)
  (KX:K.In s₁.heap)(hns:s₁.heap.Ns mainGlobals mg)(hb:s₁.heap.Ns builtinsNs mb)(Xz:∀x:Str,x≠ "__name__" ->mb x=bootBuiltins x)(hlim:s₁.heap.NoLimit)(hbm:BM mg s₁.heap)(hg:s₁.gens= #[])
  (htab:∀T∈tabs,isCodeTable s₁.heap T/\s₁.heap.get? T=some {cls:= .none,data:= .fields #[]})
  (ha:s₁.heap.get? a=some {cls:= .type "list",data:= .seq vs.toArray})(hi:IntsAre vs ns)(hl:ns.length<=sizeLine)(hr:gC k callerA)(hcl:PySem.W.kb_classed K=true)
  (F:∀base:Heap,K.In base->base.Ns mainGlobals mg->BM mg base->qA P w K mg base cC k fa fd [x] sp)(hbind:∀(s:Shared) (u:Value),BindsTo s fd ⟨[u],[]⟩ [(x,u)])
  (Lr:∀H:Hp,(∀T∈tabs,H T=some (tz T)) ->aS K H a (ns.map V.int) ->sp [.ref a] H (λv H'=>v= .bl true/\ ∀T∈tabs,H' T=some (tz T)) λ_ _ _=>False):
  codeAny (model P w) callerA (.call (.ref fa) ⟨[.ref a],[]⟩) (λr s'=>r= .ok (.ret (.bool true))/\OldK s₁.heap s'.heap/\s'.os=s₁.os/\AllBare s'.gens) s₁:=by
 have rv:=xQ hi
 have UH:=hi.length
 have Wc:a∉tabs:=λz=>by
  have e:=(htab a z).2
  rw[ha]at e
  cases e
 have core:∀H:Hp,(∀T∈tabs,H T=some (tz T)) ->(∀b u,H b=some u->b∈tabs∨(b=a/\ ∃o xs,u= .yk o (.lst xs))) ->aS K H a (ns.map V.int) ->ue P w H s₁.heap->(H a≠none->K.lookup a=none) ->
   codeAny (model P w) callerA (.call (.ref fa) ⟨[.ref a],[]⟩) (λr s'=>r= .ok (.ret (.bool true))/\OldK s₁.heap s'.heap/\s'.os=s₁.os/\AllBare s'.gens) s₁:=by
  intro H hT hO hS hok hK
  have free:∀{b:Addr} {o:Obj},s₁.heap.get? b=some o->o.cls≠ .none->b≠a->H b=none:=λ {b o} e hc hba=>by
   cases q:H b with
   |none=>rfl
   |some u=>
    rcases hO b u q with z|⟨z,_⟩
    ·have e':=(htab b z).2
     rw[e]at e'
     cases e'
     exact absurd rfl hc
    ·exact absurd z hba
  have yD:∀{b:Addr} {o:Obj},s₁.heap.get? b=some o->H b=none->(wJ s₁.heap H).get? b=some o:=λe n=>Hq e n
  have UI:∀{b:Addr} {o:Obj} {es:Array DictEntry} {ep:Nat},s₁.heap.get? b=some o->o.data= .dict es ep->H b=none:=λ {b o es ep} e d=>by
   cases q:H b with
   |none=>rfl
   |some u=>
    rcases hO b u q with z|⟨z,_⟩
    ·have e':=(htab b z).2
     rw[e]at e'
     cases e'
     cases d
    ·rw[z,ha]at e
     cases e
     cases d
  have SD:∀{b:Addr} {m:Str->Option Value},s₁.heap.Ns b m->(wJ s₁.heap H).Ns b m:=λ {b m} ⟨o,es,ep,e,d,r⟩=>⟨o,es,ep,yD e (UI e d),d,r⟩
  have Wd:K.In (wJ s₁.heap H):=λb o e=>yD (KX b o e) (by
   by_cases hba:b=a
   ·cases q:H b with
    |none=>rfl
    |some u=>
     subst hba
     rw[hK (by rw[q];simp)]at e
     cases e
   ·have q:=List.all_eq_true.mp hcl (b,o) (PySem.W.kb_mem e)
    simp only[Bool.or_eq_true,decide_eq_true_eq,beq_iff_eq]at q
    rcases q with(q|q)|q
    ·exact free (KX b o e) q hba
    ·obtain⟨mc,⟨oc,es,ep,z1,z2,_⟩,_⟩:=hlim
     rw[q];exact UI z1 z2
    ·obtain⟨oc,es,ep,z1,z2,_⟩:=hns
     rw[q];exact UI z1 z2)
  have hM:Mod K mg (wJ s₁.heap H):=⟨Wd,SD hns,⟨mb,SD hb,Xz⟩,let⟨mc,h1,h2⟩:=hlim;⟨mc,SD h1,h2⟩⟩
  have XA:BM mg (wJ s₁.heap H):=by
   obtain⟨bm,ob,q1,q2,q3,q4,q5,q6⟩:=hbm
   refine⟨bm,ob,q1,q2,yD q3 (free q3 (by rw[q4];simp) λz=> ?_),q4,q5,q6⟩
   rw[z,ha]at q3
   rw[<-Option.some.inj q3]at q4
   exact absurd q4 (by simp)
  have e0:HQ P w K mg (wJ s₁.heap H) callerA [] s₁ H:=⟨rfl,hM,λb o e=>LB e,Nat.le_of_eq (ED _ _),trivial,λb hb=>absurd (show b∈([]:List Addr)from hb) (by simp),hok,.of_eq hg⟩
  refine codeAny_mono ((F _ Wd (SD hns) XA).run callerA [] s₁ H ⟨[.ref a],[]⟩ [.ref a] [.ref a] _ _ hr e0 (hbind s₁ (.ref a)) (.cons rfl .nil) (Lr H hT hS)) λr s' h=> ?_
  cases r with
  |error e=>exact False.elim h
  |ok fl=>
   cases fl with
   |next=>exact False.elim h
   |brk=>exact False.elim h
   |cont=>exact False.elim h
   |ret u=>
    obtain⟨v,H',os,bare,un,Rl,r',q⟩:=h
    obtain⟨q',XC⟩:=q
    have q':v= .bl true:=q'
    subst q'
    obtain rfl:u=Value.bool true:=r'
    refine⟨rfl,⟨λb o e=> ?_,λb o e=>un.there b o e (by simp)⟩,os,bare.bare⟩
    cases q:H b with
    |none=>exact .inl (un.keep b o e q (by intro z;exact absurd (show b∈([]:List Addr)from z) (by simp)) (by simp))
    |some u=>
     rcases hO b u q with z|⟨z,ob,xs,eu⟩
     ·obtain⟨ct,e'⟩:=htab b z
      obtain⟨ps,ep⟩:=TZ.get (Rl b _ (XC b z))
      rw[e]at e'
      cases e'
      exact .inr (.inl ⟨ct,rfl, #[],ps,rfl,by simpa using ep⟩)
     ·subst eu
      have z2:=un.tL b ob _ q
      obtain⟨e1,_⟩:=hok b _ q
      obtain⟨e2,_⟩:=Rl b _ z2
      rw[e]at e1;cases e1
      exact .inl e2
 have We:∀(H:Hp) (T:Addr),T∈tabs->fO P w H s₁.heap T (tz T):=λH T hT=>TZ.new (htab T hT).2
 cases hk:K.lookup a with
 |some o=>
  have e:=KX a o hk
  rw[ha]at e
  cases e
  refine core (λb=>if b∈tabs then some (tz b)else none) (λT hT=>if_pos hT) (λb u z=> ?_) (.inr ⟨_,vs.toArray,_,hk,rfl,rfl,rfl,by rw[List.size_toArray,UH];exact hl,by simpa using rv⟩) (λb u z=> ?_) (λz=>absurd (if_neg Wc) z)
  ·by_cases hb:b∈tabs
   ·exact .inl hb
   ·have z':=(if_neg hb).symm.trans z;cases z'
  ·by_cases hb:b∈tabs
   ·have z':=(if_pos hb).symm.trans z;cases z';exact We _ b hb
   ·have z':=(if_neg hb).symm.trans z;cases z'
 |none=>
  have q1:∀{b:Addr},b∈tabs->(if b=a then some (HO.yk {cls:= .type "list",data:= .seq vs.toArray} (.lst (ns.map V.int)))else if b∈tabs then some (tz b)else none)=some (tz b):=λ {b} hb=>by
   rw[if_neg (λ (z:b=a)=>Wc (by rw[<-z];exact hb)),if_pos hb]
  refine core (λb=>if b=a then some (.yk {cls:= .type "list",data:= .seq vs.toArray} (.lst (ns.map V.int)))else if b∈tabs then some (tz b)else none) (λT hT=>q1 hT) (λb u z=> ?_) (.inl (.inr ⟨{cls:= .type "list",data:= .seq vs.toArray},if_pos rfl⟩)) (λb u z=> ?_) λ_=>hk
  ·by_cases hb:b=a
   ·have z':=(if_pos hb).symm.trans z
    cases z'
    exact .inr ⟨hb,_,_,rfl⟩
   ·by_cases hb2:b∈tabs
    ·exact .inl hb2
    ·have z':=((if_neg hb).trans (if_neg hb2)).symm.trans z;cases z'
  ·by_cases hb:b=a
   ·have z':=(if_pos hb).symm.trans z
    cases z'
    subst hb
    exact⟨ha,by rw[List.length_map];exact hl,vs,_,rv,ha⟩
   ·by_cases hb2:b∈tabs
    ·have z':=(q1 hb2).symm.trans z
     cases z'
     exact We _ b hb2
    ·have z':=((if_neg hb).trans (if_neg hb2)).symm.trans z;cases z'
theorem BW{p:Program}{loose:List Str}{mean:ExcName->Option Value}{mg mb:Str->Option Value}{h:Heap}(T:Top p loose mean mg mb h){d:DefRec}{x qual:Str}(hf:(recsOf p).find? (λe=>e.name==x)=some d){K:PySem.W.Frag}(KX:K.In h){f:Addr}
  (hm:mg x=some (.ref f)){oc:Value}{od:Option Addr}{sl:Array (Option Value)}{fd:FuncData}(l:K.lookup f=some ⟨oc,od,.func fd,sl⟩)(c:PySem.W.codeIn K fd.code qual=true):
  ∃P,fY K fd.code P/\isCodeTable h P/\h.get? P=some {cls:= .none,data:= .fields #[]}:=by
 have hn:d.name=x:=beq_iff_eq.mp (List.find?_some (p:=λe:DefRec=>e.name==x) hf)
 obtain⟨a',o',fd',cc,P,h1,h2,h3,h4,h5,h6⟩:=T.tab d (List.mem_of_find?_eq_some hf)
 rw[hn,hm]at h1;cases h1
 rw[KX f _ l]at h2;cases h2
 cases h3
 refine⟨P,?_,h6.isCodeTable,h6.2⟩
 obtain⟨o,vs,file,tf,flags,tg,HX,text,tt,op,ho,hd,h11,Rh,h7,h9,Ri,_⟩:=h5
 obtain⟨⟨o2,ZH,g1,g2,g3,g4⟩,_⟩:=h6
 rw[ho]at g1;cases g1
 rw[hd]at g3;cases g3
 rw[h4]at c
 cases q:K.lookup cc with
 |none=>unfold PySem.W.codeIn at c;simp[q]at c
 |some o3=>
  have e3:=KX cc o3 q
  rw[ho]at e3
  have e4:o=o3:=Option.some.inj e3
  subst e4
  exact⟨cc,o,vs,file,tf,flags,tg,HX,text,tt,h4,q,g2,hd,g4,Rh,h7,h9,Ri⟩
def tabOf(K:PySem.W.Frag)(f:Addr):Option Value:=match K.lookup f with
 |some ⟨_,_,.func fd,_⟩=>match fd.code with
  | .ref c=>match K.lookup c with
   |some o=>match o.data with
    | .fields vs=>vs[11]?
    |_=>none
   |none=>none
  |_=>none
 |_=>none
def Ii(K:PySem.W.Frag)(fs gs:List Addr):Bool:=fs.all λf=>gs.all λg=>tabOf K f !=tabOf K g
theorem Al{K:PySem.W.Frag}{f P:Addr}{oc:Value}{od:Option Addr}{sl:Array (Option Value)}{fd:FuncData}(l:K.lookup f=some ⟨oc,od,.func fd,sl⟩)(c:fY K fd.code P):tabOf K f=some (.ref P):=by
 obtain⟨cc,o,vs,_,_,_,_,_,_,_,e1,e2,e3,e4,e5,_⟩:=c.ex
 unfold tabOf
 rw[l]
 simp only[e1,e2,e4,e5]
theorem jd{K:PySem.W.Frag}{fs gs:List Addr}(h:Ii K fs gs=true){f g P Q:Addr}(hf:f∈fs)(hg:g∈gs)(a:tabOf K f=some (.ref P))(b:tabOf K g=some (.ref Q)):P≠Q:=λe=>by
 have h1:=List.all_eq_true.mp (List.all_eq_true.mp h f hf) g hg
 rw[a,b,e]at h1
 simp at h1
theorem Ij{l:PySem.W.OpenLaw}{n k:Nat}{q:Program}{loose:List Str}{XP:(Str->Option Value) ->Heap->Prop}{YP:World->Heap->Prop}{d:DefRec}{K:Params->PySem.W.Frag}{x:Str}{sp:PySem.W.Frag->List Addr->List Addr->Sp}
  (hn:l.most=some n)(hn2:n<=sizeLine)(hdf:d.params.defaults=[])(hr:gC k callerA)
  (hY:∀(w:World) (h:Heap),YP w h->(K w.params).In h)
  (hcl:∀(w:World),PySem.W.kb_classed (K w.params)=true)
  (F:∀(w:World) (mg mb:Str->Option Value) (mean:ExcName->Option Value) (fa:Addr) (h:Heap),(K w.params).In h->Top q (PySem.W.looseW q loose) mean mg mb h->mg d.name=some (.ref fa) ->
   ∃(fd:FuncData) (tabs gT:List Addr),(∀(s:Shared) (u:Value),BindsTo s fd ⟨[u],[]⟩ [(x,u)])/\(∀T∈tabs++gT,isCodeTable h T/\h.get? T=some {cls:= .none,data:= .fields #[]})/\(∀T∈tabs,T∉gT)/\
    ∀base:Heap,(K w.params).In base->base.Ns mainGlobals mg->BM mg base->qA l.prog w (K w.params) mg base cC k fa fd [x] (sp (K w.params) tabs gT))
  (Lr:∀(K:PySem.W.Frag) (tabs gT:List Addr) (H:Hp) (a:Addr) (ns:List Int),ns.length<=n->(∀T∈tabs,H T=some (bN T)) ->(∀T∈gT,H T=some .BE) ->aS K H a (ns.map V.int) -> ∀Q:VK,(∀H',az H H'->Q (.bl true) H') ->sp K tabs gT [.ref a] H Q λ_ _ _=>False):
  PySem.W.WalkO q loose XP YP l.row.toRowW d [] (λf vs=>PySem.call f vs):=by
 refine VX.Ab hn hdf λw s₀ s₁ mg mb fa o pm cd doc a vs ns G Y ho hd hcd hmg hobj hints hlen hg=> ?_
 have KX:=hY w _ Y
 obtain⟨fd,tabs,gT,hb,ht,yz,hF⟩:=F w mg mb _ fa _ KX G.T hmg
 have e1:∀T∈tabs,(if T∈gT then HO.BE else bN T)=bN T:=λT hT=>if_neg (yz T hT)
 have e2:∀T∈gT,(if T∈gT then HO.BE else bN T)= .BE:=λT hT=>if_pos hT
 refine Fc (Pn gT) KX G.T.g G.T.b G.T.builtins G.T.nolimit G.T.bmain hg ht hobj hints (Nat.le_trans hlen hn2) hr (hcl w) hF hb (λH hO hS=> ?_)
 refine Lr _ tabs gT H a ns hlen (λT hT=>by rw[hO T (List.mem_append_left _ hT),e1 T hT]) (λT hT=>by rw[hO T (List.mem_append_right _ hT),e2 T hT]) hS _ λH' s=>⟨rfl,λT hT=>s _ _ (hO T hT)⟩
theorem az.up{H:Hp}{D:Addr}{o:HO}(h:H D=none):az H (upd H D o):=λb u q=>by rw[aE (dX q h)];exact q
theorem az.upd{H H':Hp}{D:Addr}{o:HO}(s:az H H')(h:H D=none):az H (upd H' D o):=λb u q=>by rw[aE (dX q h)];exact s b u q
theorem az.none{H H':Hp}(s:az H H'){D:Addr}(h:H' D=Option.none):H D=Option.none:=s.free h
theorem az.UJ{K:PySem.W.Frag}{H H':Hp}{a:Addr}{xs:List V}(e:az H H')(h:pN K H a xs):pN K H' a xs:=by
 rcases h with(h|⟨o,h⟩)|h
 ·exact .inl (.inl (e _ _ h))
 ·exact .inl (.inr ⟨o,e _ _ h⟩)
 ·exact .inr h
theorem _root_.PySem.Paired.yE{α β:Type}{F F':α->β->Prop}:∀{l:List α} {m:List β},Paired F l m->(∀a b,b∈m->F a b->F' a b) ->Paired F' l m
 |_,_,.nil,_=> .nil
 |_,_,.cons h t,k=> .cons (k _ _ List.mem_cons_self h) (t.yE λa b hb q=>k a b (List.mem_cons_of_mem _ hb) q)
structure JW(J:It)(H1:Hp)(xs:List V):Prop where
 go:∀i H',az H1 H'->i<xs.length->J.go i H'
 wL:∀i H' x H2,az H1 H'->i<xs.length->J.wL i H' x H2->H2=H'/\xs[i]?=some x
 stop:∀H',az H1 H'->J.stop xs.length H'
theorem c8{K:PySem.W.Frag}{H1:Hp}{a:Addr}{xs:List V}(h:aS K H1 a xs):JW (NK K a) H1 xs where
 go:=λi H' s hi=>⟨xs,xs[i],s.seq h,by simp[hi]⟩
 wL:=λi H' x H2 s hi ⟨e,y⟩=>⟨e,y xs (s.seq h)⟩
 stop:=λH' s=>⟨xs,s.seq h,Nat.le_refl _⟩
theorem Po{K:PySem.W.Frag}{H1:Hp}{a:Addr}{xs:List V}(h:pN K H1 a xs):JW (Uh K a) H1 xs where
 go:=λi H' s hi=>⟨xs,xs[i],s.UJ h,by simp[hi]⟩
 wL:=λi H' x H2 s hi ⟨e,y⟩=>⟨e,y xs (s.UJ h)⟩
 stop:=λH' s=>⟨xs,s.UJ h,Nat.le_refl _⟩
def iQ(n:Nat):List V:=(List.range n).map λ (i:Nat)=>V.int (i:Int)
theorem dI{H1:Hp}{n:Nat}:JW (Dz 0 n) H1 (iQ n) where
 go:=λi H' s hi=>by simpa [iQ,Dz]using hi
 wL:=λi H' x H2 s hi ⟨e,y⟩=>⟨e,by
  have hi':i<n:=by simpa [iQ]using hi
  subst y
  simp[iQ,hi']⟩
 stop:=λH' s=>by simp[iQ,Dz]
theorem qE{J:It}{H1:Hp}{xs:List V}{σ:St}{te:TE}{Q:VK}(jw:JW J H1 xs)(hz:xs.length<=sizeLine){D:Addr}(hD:H1 D=none)(P:List V->List V->Hp->Prop)(h0:P [] [] (upd H1 D (.lst [])))
  (hs:∀pre x post acc H' (Q':VK),xs=pre++x::post->acc.length=pre.length->az H1 H'->H' D=some (.lst acc) ->P pre acc H'->(∀v H4,az H' H4->P (pre++ [x]) (acc++ [v]) (upd H4 D (.lst (acc++ [v]))) ->Q' v H4) ->te (some x::σ) H' Q')
  (hq:∀acc H',acc.length=xs.length->az H1 H'->H' D=some (.lst acc) ->P xs acc H'->Q (.ref D) H'):
  jt 1 (bV 0) te σ J H1 D Q:=by
 refine⟨λi m acc σ' H'=>m=xs.length-i/\i<=xs.length/\acc.length=i/\(∃o,σ'=o::σ)/\az H1 H'/\H' D=some (.lst acc)/\P (xs.take i) acc H',⟨xs.length,rfl,Nat.zero_le _,rfl,⟨none,rfl⟩,az.up hD,au,h0⟩,?_⟩
 rintro i m acc σ' H' ⟨rfl,hi,hl,⟨o,rfl⟩,sm,eD,p⟩
 by_cases hlt:i<xs.length
 ·refine .inr ⟨jw.go i H' sm hlt,by omega,λx H2 y=> ?_⟩
  obtain⟨rfl,ex⟩:=jw.wL i H' x H2 sm hlt y
  have hx:xs[i]=x:=by rw[List.getElem?_eq_getElem hlt]at ex;exact Option.some.inj ex
  have sp:xs=xs.take i++x::xs.drop (i+1):=by
   rw[<-hx,<-List.drop_eq_getElem_cons hlt,List.take_append_drop]
  have tk:xs.take (i+1)=xs.take i++ [x]:=by rw[List.take_succ,ex];rfl
  show te (some x::σ) H2 _
  refine hs (xs.take i) x (xs.drop (i+1)) acc H2 _ sp (by rw[hl,List.length_take];omega) sm eD p λv H4 s4 p4=> ?_
  refine⟨s4 _ _ eD,xs.length- (i+1),by omega,rfl,hlt,by simp[hl],⟨_,rfl⟩,(sm.trans s4).upd hD,au,?_⟩
  rw[tk]
  exact p4
 ·have e:i=xs.length:=by omega
  subst e
  refine .inl ⟨jw.stop H' sm,eD,hq acc H' hl sm eD ?_⟩
  rw[List.take_length]at p
  exact p
section
variable{X:Cx}{sc:Scope}{N2:List Str}{x:Str}{px:Pos}{elt iter:Expr}{gb p pos:Pos}{wi:TI}{te:TE}{P:Addr}
theorem uh(B:qu sc.names X.env.scope.names [x] N2 X.N)(s:Shared)(H:Hp)(fp:List Addr):PG (X.comp sc ([x]++N2) s H fp) (.Name x px) (bV 0):=by
 rcases B.own x (by simp)with e|e
 ·exact bL (i:=0) B.LP rfl (.inl (jZ (env:=X.env) e (.inl rfl))) (.inr (jZ (env:=X.env) e (.inl rfl)))
 ·refine bL (i:=0) B.LP rfl (.inr (jZ (env:=X.env) e (.inr rfl))) (.inl ?_)
  show(sc.names.lookup x==some NameKind.cell)=true
  rw[e];rfl
theorem dZ(hc:X.calm=true)(hi:PI X (.Name x px) iter wi)(hB:yw sc.names X.env.scope.names [x] N2 X.N=true)(hk:sc.kind= .function)(he:∀s H fp,PE (X.comp sc ([x]++N2) s H fp) elt te)
  (hs:∀x,foldedSetIterable iter X.env x=pure x:=by intro _;rfl):PE X (.ListComp elt [⟨.Name x px,iter,[],0⟩] sc pos) (jJ 1 wi (bV 0) te):=
 Af (own:=[x]) hc hi (jr hB) hk (λs H fp=>uh (jr hB) s H fp) he hs
theorem rH{i:Nat}{y:Str}{py spos:Pos}(hN:X.N.Nodup)(hi':X.N[i]?=some y)(hy:X.env.scope.names.lookup y=some .local)(hc:X.calm=true)(hi:PI X (.Name x px) iter wi)(hB:yw sc.names X.env.scope.names [x] N2 X.N=true)(hk:sc.kind= .function)(he:∀s H fp,PE (X.comp sc ([x]++N2) s H fp) elt te)
  (hsw:swapsWith (.ListComp elt [⟨.Name x px,iter,[],0⟩] sc pos) (some (.Name y py)) spos.line X.env=pure true:=by rfl)(hs:∀x,foldedSetIterable iter X.env x=pure x:=by intro _;rfl):
  PS X (.Assign [.Name y py] (.ListComp elt [⟨.Name x px,iter,[],0⟩] sc pos) spos) (zZ (jJ 1 wi (bV 0) te) (bV i)):=
 HW (own:=[x]) hN hi' hy hc hi (jr hB) hk (λs H fp=>uh (jr hB) s H fp) he hsw hs
theorem BX{B:Around}(Bk:qu sc.names X.env.scope.names [x] N2 X.N)(hnc:∀y∈sc.names,y.2≠ .cell)(code:Value)(s:Shared)(H:Hp)(fp:List Addr):PG (X.gen B sc ([x]++N2) code s H fp) (.Name x px) (bV 0):=by
 rcases Bk.own x (by simp)with e|e
 ·exact bL (i:=0) Bk.LP rfl (.inl e) (.inr e)
 ·exact absurd rfl (hnc _ (mem_of_lookup e))
def BY(sc:Scope)(ks:List (Str×NameKind))(own N2 N:List Str):Bool:=
 yw sc.names ks own N2 N && (sc.kind== .function) && !sc.isCoroutine && sc.names.all (λy=>y.2 != .cell) && (sc.names.lookup (".0":Str)==some NameKind.local)
theorem oh{own:List Str}(hc:X.calm=true)(hr:X.A.depth<recursionLimit)(cd:fY X.K X.env.code P)(bm:BM X.mg X.base)(h:BY sc X.env.scope.names own N2 X.N=true):Ai X sc own N2 P:=by
 unfold BY at h
 simp only[Bool.and_eq_true]at h
 obtain⟨⟨⟨⟨h1,h2⟩,h3⟩,h4⟩,h5⟩:=h
 refine⟨hc,hr,jr h1,by simpa using h2,by simpa using h3,λy hy=> ?_,by simpa using h5,cd,bm⟩
 have q:=List.all_eq_true.mp h4 y hy
 simpa using q
theorem Ma(hc:X.calm=true)(hr:X.A.depth<recursionLimit)(cd:fY X.K X.env.code P)(bm:BM X.mg X.base)(Aj:Gl X "sum")(hm:X.mg "sum"=none)(hi:PI X (.Name x px) iter wi)(hB:BY sc X.env.scope.names [x] N2 X.N=true)
  (he:∀code s H fp,PE (X.gen X.A.in1.in1 sc ([x]++N2) code s H fp) elt te)
  (hs:∀x,genFold iter X.env x=pure x:=by intro _;rfl)(hst:starEach [.GeneratorExp elt [⟨.Name x px,iter,[],0⟩] sc gb] X.env=[(false,eval (.GeneratorExp elt [⟨.Name x px,iter,[],0⟩] sc gb) X.env)]:=by rfl):
  PE X (.Call (.Name "sum" p) [.GeneratorExp elt [⟨.Name x px,iter,[],0⟩] sc gb] [] pos) (DK 1 P wi (bV 0) te):=
 have K:=oh hc hr cd bm hB
 DL (own:=[x]) K Aj hm hi (λcode s H fp=>BX K.LW K.nc code s H fp) he hs hst
theorem um(hc:X.calm=true)(hr:X.A.depth<recursionLimit)(cd:fY X.K X.env.code P)(bm:BM X.mg X.base)(Aj:Gl X "all")(hm:X.mg "all"=none)(hi:PI X (.Name x px) iter wi)(hB:BY sc X.env.scope.names [x] N2 X.N=true)
  (he:∀code s H fp,PE (X.gen X.A.in1.in1 sc ([x]++N2) code s H fp) elt te)
  (hs:∀x,genFold iter X.env x=pure x:=by intro _;rfl)(hst:starEach [.GeneratorExp elt [⟨.Name x px,iter,[],0⟩] sc gb] X.env=[(false,eval (.GeneratorExp elt [⟨.Name x px,iter,[],0⟩] sc gb) X.env)]:=by rfl):
  PE X (.Call (.Name "all" p) [.GeneratorExp elt [⟨.Name x px,iter,[],0⟩] sc gb] [] pos) (NX 1 P wi (bV 0) te):=
 have K:=oh hc hr cd bm hB
 LX (own:=[x]) K Aj hm hi (λcode s H fp=>BX K.LW K.nc code s H fp) he hs hst
theorem uP{k:Nat}{A:Around}{e:Env}(r:gC (k+1) A):gC k (LR A.in1.in1 e):=
 ⟨r.hd,by have:=r.dp;show A.depth+1+3*k+5<_;omega,by have:=r.un;show A.units+1+1+3+16*k+200<_;omega⟩
end
theorem Ik{J:It}{H1:Hp}{xs:List V}{σ:St}{te:TE}{F:Nat->(Nat->V->Prop) ->(Nat->St->Hp->Prop) ->Prop}(jw:JW J H1 xs)(R:Nat->V->Prop)
  (hs:∀i x,xs[i]?=some x-> ∀H' (Q':VK),az H1 H'->(∀v H2,R i v->az H' H2->Q' v H2) ->te (some x::σ) H' Q')
  (hF:F xs.length R (λ_ σ' H'=>(∃o,σ'=o::σ)/\az H1 H')):uL 1 (bV 0) te σ F J H1:=by
 refine⟨xs.length,R,_,⟨⟨none,rfl⟩,az.refl _⟩,λi σ' H' hi w=> ?_,λσ' H' w=>jw.stop H' w.2,hF⟩
 obtain⟨⟨o,rfl⟩,sm⟩:=w
 refine⟨jw.go i H' sm hi,λx H2 y=> ?_⟩
 obtain⟨rfl,ex⟩:=jw.wL i H' x H2 sm hi y
 show te (some x::σ) H2 _
 exact hs i x ex H2 _ sm λv H3 r s3=>⟨r,⟨_,rfl⟩,sm.trans s3⟩
theorem Pp{J:It}{H1:Hp}{xs:List V}{σ:St}{te:TE}{Q:VK}{P:Addr}(jw:JW J H1 xs)(hP:H1 P=some (bN P))(val:Nat->Int)
  (hs:∀i x,xs[i]?=some x-> ∀H' (Q':VK),az H1 H'->(∀H2,az H' H2->Q' (.int (val i)) H2) ->te (some x::σ) H' Q')
  (hq:∀H',az H1 H'->Q (.int (preSum val xs.length)) H'):
  Ih 1 P (bV 0) te σ J H1 Q:=
 ⟨hP,Ik jw (λi v=>v= .int (val i)) (λi x ex H' Q' sm k=>hs i x ex H' Q' sm λH2 s2=>k _ _ rfl s2) ⟨val,λi v _ r=>r,λσ' H' w=>hq H' w.2⟩⟩
theorem yF{J:It}{H1:Hp}{xs:List V}{σ:St}{te:TE}{Q:VK}{P:Addr}(jw:JW J H1 xs)(hP:H1 P=some (bN P))(bv:Nat->Bool)
  (hs:∀i x,xs[i]?=some x-> ∀H' (Q':VK),az H1 H'->(∀H2,az H' H2->Q' (.bl (bv i)) H2) ->te (some x::σ) H' Q')
  (hq:∀b H',az H1 H'->(b=true↔ ∀j,j<xs.length->bv j=true) ->Q (.bl b) H'):
  NW 1 P (bV 0) te σ J H1 Q:=
 ⟨hP,Ik jw (λi v=>v= .bl (bv i)) (λi x ex H' Q' sm k=>hs i x ex H' Q' sm λH2 s2=>k _ _ rfl s2) ⟨bv,λi v _ r=>r,λhb σ' H' w=>hq _ H' w.2 ⟨λ_=>hb,λ_=>rfl⟩,
  λj hj hb _ σ' H' w=>hq _ H' w.2 ⟨λz=>(by cases z),λz=>by rw[z j hj]at hb;cases hb⟩⟩⟩
structure Fd(K:PySem.W.Frag)(x qual:Str)(st:Stmt)(f:Addr)(fd:FuncData)(T:Addr):Prop where
 ex:∃(oc:Value) (od:Option Addr) (kV doc pm:Value) (an:Option Addr) (cdv ct:Value) (osl:Array (Option Value)),
  fd=PySem.W.fnOf x qual (gQ st) (eY st) (aA st) .none kV doc pm an cdv ct/\K.lookup f=some ⟨oc,od,.func fd,osl⟩/\PySem.W.codeIn K cdv qual=true/\fY K cdv T
 kp:PySem.W.keepIn K (.ref f)=true
theorem Fd.ok{P:Program}{w:World}{K:PySem.W.Frag}{mg:Str->Option Value}{base:Heap}{x qual:Str}{st:Stmt}{f T:Addr}{fd:FuncData}{N ps:List Str}{k:Nat}{sp:Sp}(F:Fd K x qual st f fd T)(S:aQ N ps (aA st))(len:∀vs H Q E,sp vs H Q E->vs.length=ps.length)
  (hbody:∀(cdv:Value) (A:Around) (outer:List Env) (s:Shared) (H:Hp) (vs:List V) (Q:VK) (E:XK),fY K cdv T->gC k (A.deeper (envOfC qual (aA st) s.heap.objs.size f cdv)) ->sp vs H Q E->
   ∃t,yp (yt cC P w K mg base N qual (aA st) f cdv A outer s H E).GZ (eY st) t/\t {nx:=λ_ H'=>Q .gP H',rt:=Q} (start N vs) H):qA P w K mg base cC (k+1) f fd ps sp:=by
 obtain⟨oc,od,kV,doc,pm,an,cdv,ct,osl,rfl,lk,hcd,cd⟩:=F.ex
 refine NQ lk hcd S len λA outer s H vs Q E hr Lr=> ?_
 obtain⟨t,h,q⟩:=hbody cdv A outer s H vs Q E cd hr Lr
 exact⟨t,h.GZ,q⟩
theorem Fd.fn{K:PySem.W.Frag}{x qual:Str}{st:Stmt}{f T:Addr}{fd:FuncData}(F:Fd K x qual st f fd T):NR K x qual st f fd:=by
 obtain⟨oc,od,kV,doc,pm,an,cdv,ct,osl,e,lk,hcd,cd⟩:=F.ex
 exact⟨⟨oc,od,kV,doc,pm,an,cdv,ct,osl,e,lk,hcd⟩,F.kp⟩
abbrev yG (K:PySem.W.Frag):List V->Hp->VK->Prop:=λxs H Q=> ∃p ys,xs=[.ref p]/\(aS K H p ys∨pN K H p ys)/\ ∀l,H l=none->Q (.ref l) (upd H l (.lst ys))
abbrev UK:List V->Hp->VK->Prop:=λxs H Q=> ∃i,xs=[.int i]/\Q (.int (if i<0 then-i else i)) H
theorem dU{X:Cx}{e:Expr}{t:TE}(h:PE X e t):PE X e t:=h
theorem bits_le{k:Int}{n:Nat}(h:k.natAbs<2^n):Builtin.Int.intBits k<=n:=by
 unfold Builtin.Int.intBits
 split
 ·exact Nat.zero_le _
 ·rename_i h0
  have h1:k.natAbs≠0:=λz=>h0 (by have:k=0:=Int.natAbs_eq_zero.mp z;rw[this];rfl)
  exact(Nat.log2_lt h1).mpr h
def iu(i j:Int):Prop:=i.natAbs<2^4096/\j.natAbs<2^4096
theorem iu.ok{i j:Int}(h:iu i j):IntMulOk i j:=by
 have h1:=bits_le h.1
 have h2:=bits_le h.2
 have h3:Builtin.Int.intTooBig (Builtin.Int.intBits i+Builtin.Int.intBits j)=false:=by
  unfold Builtin.Int.intTooBig
  refine decide_eq_false ?_
  have:((Builtin.Int.intBits i+Builtin.Int.intBits j:Nat):Int)<=8192:=by omega
  have e:(8192:Int)<=((bitsLine:Nat):Int):=by decide
  omega
 unfold IntMulOk
 rw[h3]
 simp
section
variable{X:Cx}
theorem bA:tN X (binaryOp .Mult) (rI iu λi j=> .int (i*j)):=OJ λ_ _ _ _ _ _ _ hc q=>mul_int q hc.ok
def Rm(i j:Int):Prop:=0<j/\j.natAbs.log2<9000
theorem Il:tN X (binaryOp .FloorDiv) (rI Rm λi j=> .int (i/j)):=OJ λi j _ _ _ _ _ hc q=>by
 have h1:(0:Int)<j:=hc.1
 exact floordiv_int (by omega) (by rw[Int.fdiv_eq_ediv_of_nonneg i (by omega)];exact q) (.inl (PyProof.noPylong_of_log2 hc.2))
end
def Tab(H:Hp)(t:Addr)(bs:List Addr)(m:List (List Int)):Prop:=H t=some (.lst (bs.map V.ref))/\Paired (λrow b=>H b=some (.lst (row.map V.int))) m bs
theorem Tab.same{H H':Hp}{t:Addr}{bs:List Addr}{m:List (List Int)}(s:az H H')(h:Tab H t bs m):Tab H' t bs m:=⟨s _ _ h.1,h.2.yE λ_ _ _ q=>s _ _ q⟩
def bI(m:List (List Int)):Prop:=m.length=3/\ ∀r∈m,r.length=3
theorem yH{H:Hp}{m:List (List Int)}{bs:List Addr}(pr:Paired (λrow b=>H b=some (.lst (row.map V.int))) m bs){b:Addr}(hb:b∈bs):∃row,row∈m/\H b=some (.lst (row.map V.int)):=by
 induction pr with
 |nil=>cases hb
 | @cons r c m bs h t ih=>
  rcases List.mem_cons.mp hb with e|hb
  ·exact⟨r,List.mem_cons_self,by rw[e];exact h⟩
  ·obtain⟨row,q1,q2⟩:=ih hb
   exact⟨row,List.mem_cons_of_mem _ q1,q2⟩
theorem Tab.upd{H:Hp}{t x:Addr}{bs:List Addr}{m:List (List Int)}{o:HO}(h:Tab H t bs m)(h1:t≠x)(h2:x∉bs):Tab (upd H x o) t bs m:=
 ⟨by rw[aE h1];exact h.1,h.2.yE λr b hb e=>by rw[aE (λz=>h2 (by rw[<-z];exact hb))];exact e⟩
theorem Im{K:PySem.W.Frag}{H:Hp}:∀r:List Int,BS K H (r.map V.int) (r.map PyData.int)
 | []=> .nil
 |x::r=> .cons (.int x) (Im r)
theorem DO{K:PySem.W.Frag}{H:Hp}{t:Addr}{bs:List Addr}{m:List (List Int)}(h:Tab H t bs m):Ak K H (.ref t) (uN m):=by
 obtain⟨e,pr⟩:=h
 refine .lst (aS.of e) ?_
 clear e
 induction pr with
 |nil=>exact .nil
 | @cons r b m bs h t ih=>exact .cons (.lst (aS.of h) (Im r)) ih
theorem om{bs:List Addr}{x:V}(h:x∈bs.map V.ref):∃b,x= .ref b/\b∈bs:=by
 obtain⟨b,hb,e⟩:=List.mem_map.mp h
 exact⟨b,e.symm,hb⟩
def itemsOf(H:Hp)(g:V->V)(x:V):List V:=match x with
 | .ref b=>(match H b with|some (.lst xs)=>xs.map g|_=>[])
 |_=>[]
theorem tu{H:Hp}{g:V->V}{b:Addr}{xs:List V}(h:H b=some (.lst xs)):itemsOf H g (.ref b)=xs.map g:=by
 show(match H b with|some (.lst xs)=>xs.map g|_=>[])=_
 rw[h]
theorem xS{H H':Hp}{f:V->List V}{g:List Int->List Int}:∀{m:List (List Int)} {bs bs':List Addr},Paired (λrow b=>H b=some (.lst (row.map V.int))) m bs->Paired (λx b'=>H' b'=some (.lst (f x))) (bs.map V.ref) bs'->
  (∀row b,H b=some (.lst (row.map V.int)) ->f (.ref b)=(g row).map V.int) ->Paired (λrow b'=>H' b'=some (.lst (row.map V.int))) (m.map g) bs'
 |_,_,_,.nil,h2,_=>by cases h2;exact .nil
 |_,_,_,.cons h t,h2,k=>by
  cases h2 with
  |cons h' t'=>exact .cons (by rw[h',k _ _ h]) (xS t t' k)
def ent(m:List (List Int))(i j:Nat):Int:=(m.getD i []).getD j 0
def mk3(g:Nat->Nat->Int):List (List Int):=[[g 0 0,g 0 1,g 0 2],[g 1 0,g 1 1,g 1 2],[g 2 0,g 2 1,g 2 2]]
theorem cD(g:Nat->Nat->Int):bI (mk3 g):=⟨rfl,λr hr=>by
 simp only[mk3,List.mem_cons,List.not_mem_nil,or_false]at hr
 rcases hr with rfl|rfl|rfl<;>rfl⟩
theorem aB{i:Nat}(h:i<3):i=0∨i=1∨i=2:=by omega
theorem bO(g:Nat->Nat->Int){i j:Nat}(hi:i<3)(hj:j<3):ent (mk3 g) i j=g i j:=by
 rcases aB hi with rfl|rfl|rfl<;>rcases aB hj with rfl|rfl|rfl<;>rfl
theorem BZ{m:List (List Int)}(h:bI m):m=mk3 (ent m):=by
 obtain⟨h1,h2⟩:=h
 match m,h1,h2 with
 | [r0,r1,r2],_,h2=>
  have l0:=h2 r0 (by simp)
  have l1:=h2 r1 (by simp)
  have l2:=h2 r2 (by simp)
  match r0,r1,r2,l0,l1,l2 with
  | [a,b,c],[d,e,f],[g,h,i],_,_,_=>rfl
theorem fz{xs:List V}{i:Nat}{v:V}(h:xs[i]?=some v):ug xs (i:Int)=some v:=yu h
theorem DP{H:Hp}{t:Addr}{bs:List Addr}{m:List (List Int)}(h:Tab H t bs m){i:Nat}(hi:i<m.length):∃b row,ug (bs.map V.ref) (i:Int)=some (.ref b)/\H b=some (.lst (row.map V.int))/\m[i]?=some row/\b∈bs:=by
 obtain⟨_,pr⟩:=h
 have q:∀{m:List (List Int)} {bs:List Addr} {i:Nat},Paired (λrow b=>H b=some (.lst (row.map V.int))) m bs->i<m.length-> ∃b row,bs[i]?=some b/\H b=some (.lst (row.map V.int))/\m[i]?=some row:=by
  intro m bs i pr
  induction pr generalizing i with
  |nil=>intro hi;exact absurd hi (Nat.not_lt_zero _)
  | @cons r b m bs h t ih=>
   intro hi
   cases i with
   |zero=>exact⟨b,r,rfl,h,rfl⟩
   |succ i=>
    obtain⟨b',r',e1,e2,e3⟩:=ih (i:=i) (by simpa using hi)
    exact⟨b',r',by simpa using e1,e2,by simpa using e3⟩
 obtain⟨b,row,e1,e2,e3⟩:=q pr hi
 exact⟨b,row,fz (by rw[List.getElem?_map,e1];rfl),e2,e3,List.mem_of_getElem? e1⟩
theorem qF{H:Hp}{t:Addr}{bs:List Addr}{m:List (List Int)}(h:Tab H t bs m)(bP:bI m){i j:Nat}(hi:i<3)(hj:j<3):
  ∃(b:Addr) (row:List Int),ug (bs.map V.ref) (i:Int)=some (.ref b)/\H b=some (.lst (row.map V.int))/\ug (row.map V.int) (j:Int)=some (.int (ent m i j)):=by
 obtain⟨b,row,e1,e2,e3,_⟩:=DP h (i:=i) (by rw[bP.1];exact hi)
 refine⟨b,row,e1,e2,fz ?_⟩
 have rl:row.length=3:=bP.2 row (List.mem_of_getElem? e3)
 have e4:m.getD i []=row:=by rw[List.getD_eq_getElem?_getD,e3];rfl
 rw[List.getElem?_map,List.getElem?_eq_getElem (by rw[rl];exact hj)]
 unfold ent
 rw[e4,List.getD_eq_getElem?_getD,List.getElem?_eq_getElem (by rw[rl];exact hj)]
 rfl
theorem bf{H:Hp}{t:Addr}{bs:List Addr}{m:List (List Int)}(h:Tab H t bs m)(bP:bI m){i:Nat}(hi:i<3):
  ∃b,ug (bs.map V.ref) (i:Int)=some (.ref b)/\H b=some (.lst [.int (ent m i 0),.int (ent m i 1),.int (ent m i 2)])/\b∈bs:=by
 obtain⟨b,row,e1,e2,e3,e5⟩:=DP h (i:=i) (by rw[bP.1];exact hi)
 refine⟨b,e1,?_,e5⟩
 have rl:row.length=3:=bP.2 row (List.mem_of_getElem? e3)
 have e4:m.getD i []=row:=by rw[List.getD_eq_getElem?_getD,e3];rfl
 rw[e2]
 unfold ent
 rw[e4]
 match row,rl with
 | [a,b,c],_=>rfl
def Bd(n:Nat)(m:List (List Int)):Prop:=∀i j,i<3->j<3->(ent m i j).natAbs<2^n
theorem Bd.mono{a b:Nat}{m:List (List Int)}(h:Bd a m)(hab:a<=b):Bd b m:=λi j hi hj=>Nat.lt_of_lt_of_le (h i j hi hj) (Nat.pow_le_pow_right (by decide) hab)
theorem di{x y:Int}{a b:Nat}(hx:x.natAbs<2^a)(hy:y.natAbs<2^b):(x*y).natAbs<2^(a+b):=by
 rw[Int.natAbs_mul,Nat.pow_add]
 exact Nat.mul_lt_mul_of_lt_of_lt hx hy
theorem oq{x y:Int}{a:Nat}(hx:x.natAbs<2^a)(hy:y.natAbs<2^a):(x+y).natAbs<2^(a+1):=by
 have e:2^(a+1)=2^a+2^a:=by rw[Nat.pow_succ];omega
 omega
theorem pZ{x y:Int}{a:Nat}(hx:x.natAbs<2^a)(hy:y.natAbs<2^a):(x-y).natAbs<2^(a+1):=by
 have e:2^(a+1)=2^a+2^a:=by rw[Nat.pow_succ];omega
 omega
theorem aG{x:Int}{a b:Nat}(hx:x.natAbs<2^a)(h:a<=b):x.natAbs<2^b:=Nat.lt_of_lt_of_le hx (Nat.pow_le_pow_right (by decide) h)
def ie(a b:List (List Int)):List (List Int):=mk3 λi j=>ent a i 0*ent b 0 j+ent a i 1*ent b 1 j+ent a i 2*ent b 2 j
def dW(a:List (List Int)):List (List Int):=mk3 λi j=>ent a j i
theorem qG{a b:List (List Int)}{p q:Nat}(ha:Bd p a)(hb:Bd q b):Bd (p+q+2) (ie a b):=λi j hi hj=>by
 unfold ie
 rw[bO _ hi hj]
 exact oq (oq (di (ha i 0 hi (by decide)) (hb 0 j (by decide) hj)) (di (ha i 1 hi (by decide)) (hb 1 j (by decide) hj))) (aG (di (ha i 2 hi (by decide)) (hb 2 j (by decide) hj)) (Nat.le_succ _))
theorem Am{a:List (List Int)}{p:Nat}(ha:Bd p a):Bd p (dW a):=λi j hi hj=>by
 unfold dW
 rw[bO _ hi hj]
 exact ha j i hj hi
theorem qH(K:PySem.W.Frag)(n:String):PySem.W.kitOne K (.type n) (.type n)=some true:=by
 unfold PySem.W.kitOne
 rw[if_pos (by simp)]
theorem yI(K:PySem.W.Frag):PySem.W.kitOne K (.type "int") (.type "bool")=some false:=by kernel_rfl
theorem yJ{xs:List V}{k:Int}(h0:0<=k)(h:k<(xs.length:Int)):∃v,ug xs k=some v/\xs[k.toNat]?=some v:=by
 have hk:k.toNat<xs.length:=by omega
 have ek:k=((k.toNat:Nat):Int):=by omega
 have q:ug xs ((k.toNat:Nat):Int)=some xs[k.toNat]:=yu (by rw[List.getElem?_eq_getElem hk])
 rw[<-ek]at q
 exact⟨xs[k.toNat],q,by rw[List.getElem?_eq_getElem hk]⟩
theorem Mb{ns:List Int}{k:Int}(h0:0<=k)(h:k<(ns.length:Int)):∃z:Int,ug (ns.map V.int) k=some (.int z):=by
 obtain⟨v,h1,h2⟩:=yJ (xs:=ns.map V.int) h0 (by rw[List.length_map];exact h)
 rw[List.getElem?_map]at h2
 cases q:ns[k.toNat]? with
 |none=>rw[q]at h2;cases h2
 |some z=>rw[q]at h2;cases h2;exact⟨z,h1⟩
theorem small{n:Nat}(h:n<=1000):n<=sizeLine:=Nat.le_of_lt (iP h)
theorem at2{x y:V}{i:Int}(h0:0<=i)(h:i<2):∃v,ug [x,y] i=some v/\(v=x∨v=y):=by
 have c:i=0∨i=1:=by omega
 rcases c with rfl|rfl
 ·exact⟨x,rfl,.inl rfl⟩
 ·exact⟨y,rfl,.inr rfl⟩
section
variable{X:Cx}
theorem Io{bs:List Bool}{its:List Value}{i:Nat}{v:Value}(r:Vals (bs.map V.bl) its)(h:its[i]?=some v):∃b,bs[i]?=some b/\v= .bool b:=by
 have hl:=r.length
 rw[List.length_map]at hl
 have hi:i<bs.length:=by
  have:=(List.getElem?_eq_some_iff.mp h).1
  omega
 have e:(bs.map V.bl)[i]?=some (.bl bs[i]):=by rw[List.getElem?_map,List.getElem?_eq_getElem hi];rfl
 obtain⟨u,h1,h2⟩:=r.get e
 rw[h]at h1
 cases h1
 exact⟨bs[i],List.getElem?_eq_getElem hi,h2⟩
theorem pP(hc:X.calm=true):nZ X (.builtin "all") (λxs H Q=> ∃p bs,xs=[.ref p]/\aS X.K H p ((bs:List Bool).map V.bl)/\Q (.bl (bs.all id)) H):=by
 intro pins s σ H xs us Q I r h
 obtain⟨p,bs,rfl,hq,q⟩:=h
 obtain⟨u,rfl,rx⟩:=vals1 r
 cases rx
 obtain⟨its,rv,pl,hz⟩:=I.list hq
 have hl:=rv.length
 rw[List.length_map]at hl
 refine call_all_walk (wpAny_pyIter_list pl.isList ?_)
 have hp:p<s.heap.objs.size:=let⟨o,n,e,_⟩:=pl;Heap.lt_size e
 have keep:∀b o,s.heap.get? b=some o->(s.heap.push {cls:= .type "list_iterator",data:= .fields #[rawInt 0,.ref p]}).get? b=some o:=λb o e=>Heap.get?_push_of_some _ e
 refine⟨s.heap.objs.size,[s.heap.objs.size,p],[s.heap.objs.size],its.toArray.size,_,_,λi=>(bs[i]?).getD true,rfl,Walks.list (A:=X.A.in1) (show X.A.in1.handled=none from I.ok.hd hc) s.heap.objs.size p (Nat.ne_of_lt hp) its.toArray,⟨⟨_,Heap.get?_push_size _ rfl,rfl,rfl⟩,pl.isList.at λo e=>Heap.get?_push_of_some _ e⟩,λi v s' Q' E' hv UL=> ?_,λh' tk k=> ?_⟩
 ·obtain⟨b,e1,rfl⟩:=Io rv (by simpa using hv)
  have Oa:Q' ((bs[i]?).getD true) s':=UL
  rw[e1]at Oa
  exact wpAny_truthy_bool Oa
 ·refine⟨.bl (bs.all id),H,I.kept (t':=tk) λb o e=>k b o (λz=> ?_) (Heap.get?_push_of_some _ e),?_,q⟩
  ·exact absurd (Heap.lt_size e) (by rw[List.mem_singleton.mp z];exact Nat.lt_irrefl _)
  ·have e:(List.range its.toArray.size).all (λi=>(bs[i]?).getD true)=bs.all id:=by
    rw[List.size_toArray,<-hl,Bool.eq_iff_iff,List.all_eq_true,List.all_eq_true]
    constructor
    ·intro h b hb
     obtain⟨j,hj,rfl⟩:=List.getElem_of_mem hb
     have:=h j (List.mem_range.mpr hj)
     rw[List.getElem?_eq_getElem hj]at this
     exact this
    ·intro h j hj
     have hj':=List.mem_range.mp hj
     rw[List.getElem?_eq_getElem hj']
     exact h _ (List.getElem_mem hj')
   show Value.bool _=Value.bool _
   rw[e]
end
theorem eZ{J:It}{xs:List V}{H1:Hp}{σ:St}{te:TE}{Q:VK}{D:Addr}(jw:JW J H1 xs)(h3:xs.length=3)(hD:H1 D=none)(g:Nat->Int)(hs:∀j x,j<3->xs[j]?=some x-> ∀H' (Q':VK),az H1 H'->(∀H2,az H' H2->Q' (.int (g j)) H2) ->te (some x::σ) H' Q')
  (hq:∀H',az H1 H'->H' D=some (.lst [.int (g 0),.int (g 1),.int (g 2)]) ->Q (.ref D) H'):jt 1 (bV 0) te σ J H1 D Q:=by
 refine qE jw (by rw[h3];decide) hD (λpre acc H'=>acc=(List.range pre.length).map λj=>V.int (g j)) rfl (λpre x post acc H' Q' e hl sm eD p k=> ?_) (λacc H' hl sm eD p=> ?_)
 ·have hlen:pre.length<3:=by
   have:=congrArg List.length e
   rw[h3]at this
   simp at this
   omega
  refine hs pre.length x hlen (by rw[e];simp) H' Q' sm λH2 s2=>k _ H2 s2 ?_
  rw[p]
  simp[List.range_succ]
 ·refine hq H' sm ?_
  rw[eD,p,h3]
  rfl
theorem yK{J:It}{xs:List V}{H1:Hp}{σ:St}{te:TE}{Q:VK}{D:Addr}(jw:JW J H1 xs)(h3:xs.length=3)(hD:H1 D=none)(g:Nat->Nat->Int)
  (hs:∀i x,i<3->xs[i]?=some x-> ∀H' (Q':VK),az H1 H'->(∀b H2,H' b=none->az H' H2->H2 b=some (.lst [.int (g i 0),.int (g i 1),.int (g i 2)]) ->Q' (.ref b) H2) ->te (some x::σ) H' Q')
  (hq:∀bs H',az H1 H'->(∀b∈bs,H1 b=none) ->D∉bs->Tab H' D bs (mk3 g) ->Q (.ref D) H'):jt 1 (bV 0) te σ J H1 D Q:=by
 refine qE jw (by rw[h3];decide) hD (λpre acc H'=> ∃bs:List Addr,acc=bs.map V.ref/\(∀b∈bs,H1 b=none)/\D∉bs/\Paired (λi b=>H' b=some (.lst [.int (g i 0),.int (g i 1),.int (g i 2)])) (List.range pre.length) bs) ⟨[],rfl,λ_ h=>(nomatch h),by simp,.nil⟩ (λpre x post acc H' Q' e hl sm eD p k=> ?_) (λacc H' hl sm eD p=> ?_)
 ·obtain⟨bs,rfl,fr,nD,pr⟩:=p
  have hlen:pre.length<3:=by
   have:=congrArg List.length e
   rw[h3]at this
   simp at this
   omega
  refine hs pre.length x hlen (by rw[e];simp) H' _ sm λb H2 hb s2 eb=>k _ _ s2 ⟨bs++ [b],by simp,?_,?_,?_⟩
  ·intro c hc
   rcases List.mem_append.mp hc with z|z
   ·exact fr c z
   ·rw[List.mem_singleton.mp z];exact sm.none hb
  ·intro z
   rcases List.mem_append.mp z with z|z
   ·exact nD z
   ·rw[<-List.mem_singleton.mp z,eD]at hb;cases hb
  ·have nb:b≠D:=λz=>by rw[z,eD]at hb;cases hb
   have er:List.range (pre++ [x]).length=List.range pre.length++ [pre.length]:=by simp[List.range_succ]
   rw[er]
   refine Paired.snoc (pr.yE λy c hc q=> ?_) (by rw[aE nb];exact eb)
   rw[aE (λz=>nD (by rw[<-z];exact hc))]
   exact s2 _ _ q
 ·obtain⟨bs,rfl,fr,nD,pr⟩:=p
  refine hq bs H' sm fr nD ⟨eD,?_⟩
  rw[h3]at pr
  have UM:Paired (λi b=>H' b=some (.lst [.int (g i 0),.int (g i 1),.int (g i 2)])) [0,1,2] bs:=pr
  cases UM with
  |cons h0 t0=>cases t0 with
   |cons h1 t1=>cases t1 with
    |cons h2 t2=>
     cases t2
     exact .cons h0 (.cons h1 (.cons h2 .nil))
theorem cz{n k:Nat}{x:V}(h:(iQ n)[k]?=some x):k<n/\x= .int (k:Int):=by
 unfold iQ at h
 rw[List.getElem?_map]at h
 cases q:(List.range n)[k]? with
 |none=>rw[q]at h;cases h
 |some z=>
  rw[q]at h
  have hz:=List.getElem?_eq_some_iff.mp q
  obtain⟨h1,h2⟩:=hz
  have XD:k<n:=by simpa using h1
  rw[List.getElem_range]at h2
  subst h2
  cases h
  exact⟨XD,rfl⟩
theorem UN(val:Nat->Int):preSum val 3=val 0+val 1+val 2:=by simp[preSum]
abbrev Rn (K:PySem.W.Frag):List V->Hp->VK->Prop:=λxs H Q=> ∃p bs,xs=[.ref p]/\aS K H p ((bs:List Bool).map V.bl)/\Q (.bl (bs.all id)) H
theorem Ip{d:PyData}(h:SeqAt.shaped d=true):PyData.eqv d d=true:=SeqAt.eqv_refl d (SeqAt.canLay_of_shaped h)
theorem DQ{K:PySem.W.Frag}{H:Hp}{x y:V}{Q:VK}(d:PyData)(hx:Ak K H x d)(hy:Ak K H y d)(hs:SeqAt.shaped d=true)(q:Q (.bl true) H):Pj K false x y H Q:=
 ⟨d,d,hx,hy,hs,hs,by rw[Ip hs];exact q⟩
theorem jR{f g:Nat->Nat->Int}(h:∀i j,i<3->j<3->f i j=g i j):mk3 f=mk3 g:=by
 simp only[mk3,h 0 0 (by decide) (by decide),h 0 1 (by decide) (by decide),h 0 2 (by decide) (by decide),h 1 0 (by decide) (by decide),h 1 1 (by decide) (by decide),h 1 2 (by decide) (by decide),h 2 0 (by decide) (by decide),h 2 1 (by decide) (by decide),h 2 2 (by decide) (by decide)]
theorem aV(a b:List (List Int)){i j:Nat}(hi:i<3)(hj:j<3):ent (ie a b) i j=ent a i 0*ent b 0 j+ent a i 1*ent b 1 j+ent a i 2*ent b 2 j:=bO _ hi hj
theorem bh(a:List (List Int)){i j:Nat}(hi:i<3)(hj:j<3):ent (dW a) i j=ent a j i:=bO _ hi hj
theorem Ca(a b c:List (List Int)):ie (ie a b) c=ie a (ie b c):=by
 refine jR λi j hi hj=> ?_
 rw[aV a b hi (by decide),aV a b hi (by decide),aV a b hi (by decide),aV b c (by decide) hj,aV b c (by decide) hj,aV b c (by decide) hj]
 grind
theorem uQ(a b:List (List Int)):dW (ie a b)=ie (dW b) (dW a):=by
 refine jR λi j hi hj=> ?_
 rw[aV a b hj hi,bh b hi (by decide),bh b hi (by decide),bh b hi (by decide),bh a (by decide) hj,bh a (by decide) hj,bh a (by decide) hj]
 grind
theorem An{a:List (List Int)}(h:bI a):dW (dW a)=a:=by
 rw[BZ h]
 refine jR λi j hi hj=> ?_
 rw[bh _ hj hi,bO _ hi hj]
def mO(m b:List (List Int)):List (List Int):=ie (ie b m) (dW b)
theorem xT{m:List (List Int)}(b:List (List Int))(hb:bI b):dW (mO m b)=mO (dW m) b:=by
 unfold mO
 rw[uQ,uQ,An hb,Ca]
def uR(m:List (List Int))(i j:Nat):Int:=ent m ((i+1)%3) ((j+1)%3)*ent m ((i+2)%3) ((j+2)%3) -ent m ((i+1)%3) ((j+2)%3)*ent m ((i+2)%3) ((j+1)%3)
def aX(m:List (List Int)):Int:=ent m 0 0*uR m 0 0+ent m 0 1*uR m 0 1+ent m 0 2*uR m 0 2
theorem cZ(m:List (List Int)):aX m=ent m 0 0*(ent m 1 1*ent m 2 2-ent m 1 2*ent m 2 1)+ent m 0 1*(ent m 1 2*ent m 2 0-ent m 1 0*ent m 2 2)+ent m 0 2*(ent m 1 0*ent m 2 1-ent m 1 1*ent m 2 0):=rfl
theorem rJ(a b:List (List Int)):aX (ie a b)=aX a*aX b:=by
 rw[cZ,cZ,cZ]
 simp only[aV a b (show 0<3 by decide) (show 0<3 by decide),aV a b (show 0<3 by decide) (show 1<3 by decide),aV a b (show 0<3 by decide) (show 2<3 by decide),aV a b (show 1<3 by decide) (show 0<3 by decide),aV a b (show 1<3 by decide) (show 1<3 by decide),aV a b (show 1<3 by decide) (show 2<3 by decide),aV a b (show 2<3 by decide) (show 0<3 by decide),aV a b (show 2<3 by decide) (show 1<3 by decide),aV a b (show 2<3 by decide) (show 2<3 by decide)]
 grind
theorem m3(i:Nat)(k:Nat):((i:Int)+(k:Int))%3=(((i+k)%3:Nat):Int):=by omega
theorem wI(i:Nat):i%3<3:=Nat.mod_lt _ (by decide)
theorem ju(f:Nat->Int){c:Nat}(h:c<3):ug [V.int (f 0),.int (f 1),.int (f 2)] (c:Int)=some (.int (f c)):=by
 rcases aB h with rfl|rfl|rfl<;>rfl
theorem Mc{m:List (List Int)}{n:Nat}(h:Bd n m)(i j:Nat):(uR m i j).natAbs<2^(n+n+1):=
 pZ (di (h _ _ (wI _) (wI _)) (h _ _ (wI _) (wI _))) (di (h _ _ (wI _) (wI _)) (h _ _ (wI _) (wI _)))
theorem iw{H:Hp}{t b0 b1 b2:Addr}(g:Nat->Nat->Int)(e:H t=some (.lst [.ref b0,.ref b1,.ref b2]))(h0:H b0=some (.lst [.int (g 0 0),.int (g 0 1),.int (g 0 2)]))(h1:H b1=some (.lst [.int (g 1 0),.int (g 1 1),.int (g 1 2)]))
  (h2:H b2=some (.lst [.int (g 2 0),.int (g 2 1),.int (g 2 2)])):Tab H t [b0,b1,b2] (mk3 g):=⟨e,.cons h0 (.cons h1 (.cons h2 .nil))⟩
def j4(m:List (List Int)):List (List Int):=mk3 λi j=>uR m j i
def DR(d:Int):List (List Int):=mk3 λi j=>if i=j then d else 0
theorem eK(m:List (List Int)){i j:Nat}(hi:i<3)(hj:j<3):ent (j4 m) i j=uR m j i:=bO _ hi hj
theorem Iq(m:List (List Int)):ie (j4 m) m=DR (aX m):=by
 refine jR λi j hi hj=> ?_
 rw[eK m hi (by decide),eK m hi (by decide),eK m hi (by decide),cZ]
 rcases aB hi with rfl|rfl|rfl<;>rcases aB hj with rfl|rfl|rfl<;>simp only[uR,Nat.reduceAdd,Nat.reduceMod,Nat.reduceEqDiff,if_true,if_false]<;>grind
structure Hh(X:Cx)(st:List Stmt)(t:TS):Prop where
 h:yp X st t
theorem lV{X:Cx}{st:List Stmt}{t:TS}(h:Hh X st t):yp X st t:=h.h
theorem ay{X:Cx}{a:Stmt}{b:List Stmt}{ta tb:TS}(ha:PS X a ta)(hb:Hh X b tb):Hh X (a::b) (OD ta tb):=⟨Hu ha hb.h⟩
theorem aK{X:Cx}{a:Stmt}{ta:TS}(ha:PS X a ta):Hh X [a] ta:=⟨dz ha⟩
section
variable{X:Cx}{pins:List (Addr×Obj)}{σ:St}{H:Hp}{s:Shared}{h':Heap}
theorem Inv.qI{t':Nat}{ch:List Addr}(I:Inv X pins σ H s)(k:∀b o,b∉ch->s.heap.get? b=some o->h'.get? b=some o)(hf:∀b∈ch,ff X pins H b):Inv X pins σ H {s with heap:=h',toks:=t'}:=by
 have QF:∀b u,H b=some u->b∉ch:=λb u e z=>by have:=(hf b z).1;rw[e]at this;cases this
 refine I.step (g':=s.gens) (d':=s.drawn) (ch:=ch) (λb hb=> ?_) (λb o _ _ hc e _=>k b o hc e) (λb o _ _ hc e _=>⟨o.slots,k b o hc e⟩) (λ_ _ _ _ n=>n)
  (λb o hc e=>⟨o,k b o hc e⟩) (λ_ _ e=>e) (λ_ _ _ e=>e) (λb ps e=>⟨#[],by rw[e];simp⟩) (λm hm=> ?_) (λb u e=> ?_) (.refl I.bare.bare)
 ·obtain⟨f0,f1,f2,f3,f4,f5⟩:=hf b hb
  exact⟨f3,f1,f4,f5⟩
 ·obtain⟨o,es,ep,ho,r⟩:=hm
  exact⟨o,es,ep,k _ o (λz=>(hf _ z).2.1 rfl) ho,r⟩
 ·refine(I.hok b u e).stay (λc v hc q=>k c v ?_ q) (λ_ q=>q) λ_ _ q=>q
  rcases hc with z|z
  ·rw[z];exact QF b u e
  ·exact QF c _ z
theorem Inv.Ob{T:Addr}{o:HO}(I:Inv X pins σ H s)(hf:ff X pins H T)(new:fO X.prog X.w (upd H T o) s.heap T o):Inv X pins σ (upd H T o) s:=by
 obtain⟨f0,f1,f2,f3,f4,f5⟩:=hf
 have ne:∀{b u},H b=some u->b≠T:=λ {b u} e z=>by rw[z,f0]at e;cases e
 refine I.step (g':=s.gens) (d':=s.drawn) (t':=s.toks) (h':=s.heap) (ch:=[T]) (λb hb=> ?_) (λb o _ _ _ e _=>e) (λb o _ _ _ e _=>⟨o.slots,e⟩) (λb o hc _ n=> ?_)
  (λb o _ e=>⟨o,e⟩) (λb xs e=>by rw[aE (ne e)];exact e) (λb _ _ e=>by rw[aE (ne e)];exact e) (λb ps e=>⟨#[],by rw[aE (ne e),e];simp⟩) (λm hm=>hm) (λb u e=> ?_) (.refl I.bare.bare)
 ·have e:b=T:=by simpa using hb
  subst e
  exact⟨f3,f1,f4,f5⟩
 ·rw[aE (λz=>hc (by simp[z]))];exact n
 ·by_cases hb:b=T
  ·subst hb;rw[au]at e;cases e;exact new
  ·rw[aE hb]at e
   exact(I.hok b u e).stay (λc v _ q=>q) (λc q=>by rw[aE (ne q)];exact q) (λc xs q=>by rw[aE (ne q)];exact q) λc ob xs q=>by rw[aE (ne q)];exact q
end
def Qs(K:PySem.W.Frag)(a b:Addr):It:=
 ⟨λi H=> ∃xs ys x y,aS K H a xs/\aS K H b ys/\xs[i]?=some x/\ys[i]?=some y,
  λi H v H'=> ∃T x y,v= .ref T/\H T=none/\(∀xs,aS K H a xs->xs[i]?=some x)/\(∀ys,aS K H b ys->ys[i]?=some y)/\H'=upd H T (.tup [x,y]),
  λi H=> ∃xs ys,aS K H a xs/\aS K H b ys/\(xs.length<=i∨ys.length<=i)⟩
def Ro(z TI TO i1 i2 a b:Addr)(i:Nat)(h:Heap):Prop:=
 IsZip h z TI TO .none/\IsPair h TI (.ref i1) (.ref i2)/\(∃p q,IsPair h TO p q)/\h.IsListIter i1 a i/\h.IsListIter i2 b i
theorem Ir{P:Program}{w:World}{K:PySem.W.Frag}{elts:List Expr}{x1}{pos:Pos}(z TI TO i1 i2 a b:Addr)(D:ZipApart z TI TO i1 i2 a b):Turn P w K (.Tuple elts x1 pos) (Qs K a b) [z,TI,TO,i1,i2] z (Ro z TI TO i1 i2 a b) where
 mem:=by simp
 obj:=λi h st c hc=>by
  obtain⟨hz,hTI,⟨p,q,hTO⟩,⟨o1,e1,c1,d1⟩,⟨o2,e2,c2,d2⟩⟩:=st
  simp only[List.mem_cons,List.not_mem_nil,or_false]at hc
  rcases hc with rfl|rfl|rfl|rfl|rfl
  ·exact⟨_,hz,λv e=>by cases e⟩
  ·exact⟨_,hTI,λv e=>by cases e⟩
  ·exact⟨_,hTO,λv e=>by cases e⟩
  ·exact⟨_,e1,λv e=>by rw[d1]at e;cases e⟩
  ·exact⟨_,e2,λv e=>by rw[d2]at e;cases e⟩
 keep:=λi h h' st k=>by
  obtain⟨hz,hTI,⟨p,q,hTO⟩,h1,h2⟩:=st
  exact⟨k z (by simp) _ hz,k TI (by simp) _ hTI,⟨p,q,k TO (by simp) _ hTO⟩,h1.at λo e=>k i1 (by simp) o e,h2.at λo e=>k i2 (by simp) o e⟩
 item:=by
  intro X hP hw hK hc i pins s σ H E I hf st hg
  subst hP hw hK
  obtain⟨xs,ys,x,y,SE,SG,hx,hy⟩:=hg
  obtain⟨hz,hTI,⟨p,q,hTO⟩,h1,h2⟩:=st
  obtain⟨ia,ra,pa,za⟩:=I.list SE
  obtain⟨ib,rb,pb,zb⟩:=I.list SG
  obtain⟨u,hu,ru⟩:=ra.get hx
  obtain⟨v,hv,rv⟩:=rb.get hy
  refine wpAny_pyNext_zip_item D hz hTI hTO h1 h2 pa.isList pb.isList (x:=u) (y:=v) (by simpa using hu) (by simpa using hv) λh' a1 a2 a3 a4 a5 a6 hk=> ?_
  refine⟨_,rfl,?_⟩
  have UO:=hk _ _ D.TIz D.TITO D.TIi1 D.TIi2 hTI
  have f4:∀c∈ [z,TO,i1,i2],ff X pins H c:=λc hc=>hf c (by simp only[List.mem_cons,List.not_mem_nil,or_false]at hc ⊢;rcases hc with rfl|rfl|rfl|rfl<;>simp)
  have I1:Inv X pins σ H {s with heap:=h'}:=I.qI (t':=s.toks) (ch:=[z,TO,i1,i2]) (λc o hc e=>hk c o (λq=>hc (by simp[q])) (λq=>hc (by simp[q])) (λq=>hc (by simp[q])) (λq=>hc (by simp[q])) e) f4
  have hn:H s.heap.objs.size=none:=I.hok.fresh (Nat.le_refl _)
  have fT:=I.BH (b:=s.heap.objs.size) (Nat.le_refl _) hn
  have I2:Inv X pins σ (upd H s.heap.objs.size (.tup [x,y])) {s with heap:=h'}:=I1.Ob fT ⟨by show 2<=sizeLine;decide,[u,v],.cons ru (.cons rv .nil),⟨_,a5,rfl,_,rfl⟩⟩
  refine wpAny_letOwnedTupleGo_zip (s:={s with heap:=h'}) a1 λh2' hz' hs'=> ?_
  have lt:∀{c o},s.heap.get? c=some o->c≠s.heap.objs.size:=λe=>Nat.ne_of_lt (Heap.lt_size e)
  obtain⟨o1,e1,_⟩:=id h1
  obtain⟨o2,e2,_⟩:=id h2
  have neT:∀c∈ [z,TI,TO,i1,i2],c≠s.heap.objs.size:=λc hc=>by
   simp only[List.mem_cons,List.not_mem_nil,or_false]at hc
   rcases hc with rfl|rfl|rfl|rfl|rfl
   ·exact lt hz
   ·exact lt hTI
   ·exact lt hTO
   ·exact lt e1
   ·exact lt e2
  obtain⟨g0,g1,g2,g3,g4,g5⟩:=hf z (by simp)
  have I3:Inv X pins σ (upd H s.heap.objs.size (.tup [x,y])) {s with heap:=h2'}:=Inv.turned (s:={s with heap:=h'}) (h':=h2') I2 (it:=z) (t':=s.toks) (λc o hc e=>hs'.extBut _ _ hc e) (by rw[aE (neT z (by simp))];exact g0) g1 g3 g4 g5
  refine⟨.ref s.heap.objs.size,_,I3,rfl,⟨_,x,y,rfl,hn,λzs hzs=>by rw[I.uC hzs SE];exact hx,λzs hzs=>by rw[I.uC hzs SG];exact hy,rfl⟩,?_,λc hc=> ?_⟩
  ·exact⟨hz',hs'.extBut _ _ D.TIz UO,⟨_,_,hs'.extBut _ _ D.TOz a2⟩,a3.extBut hs'.extBut D.i1z,a4.extBut hs'.extBut D.i2z⟩
  ·rw[aE (neT c hc)];exact(hf c hc).1
 done:=by
  intro X hP hw hK hc i pins s σ H E I hf st hg
  subst hP hw hK
  obtain⟨xs,ys,SE,SG,hend⟩:=hg
  obtain⟨hz,hTI,⟨p,q,hTO⟩,h1,h2⟩:=st
  obtain⟨ia,ra,pa,za⟩:=I.list SE
  obtain⟨ib,rb,pb,zb⟩:=I.list SG
  have la:=ra.length
  have lb:=rb.length
  have f4:∀c∈ [z,TO,i1,i2],ff X pins H c:=λc hc=>hf c (by simp only[List.mem_cons,List.not_mem_nil,or_false]at hc ⊢;rcases hc with rfl|rfl|rfl|rfl<;>simp)
  refine wpAny_pyNext_zip_end (I.ok.hd hc) D hz hTI hTO h1 h2 pa.isList pb.isList (hend.imp (λq=>by simp;omega) (λq=>by simp;omega)) λh' hk=>⟨rfl,?_⟩
  exact I.qI (t':=s.toks) (ch:=[z,TO,i1,i2]) (λc o hc e=>hk c o (λq=>hc (by simp[q])) (λq=>hc (by simp[q])) (λq=>hc (by simp[q])) (λq=>hc (by simp[q])) e) f4
 self:=λ_ _ _ _ _ st h=>wpAny_pyIter_zip st.1 h
def UP(K:PySem.W.Frag)(ta:TA):TI:=λσ H R=>ta σ H λvs H1=> ∃a b xs ys,vs=[.ref a,.ref b]/\aS K H1 a xs/\aS K H1 b ys/\R (Qs K a b) H1
section
variable{X:Cx}
theorem yL{elts:List Expr}{x1}{tpos:Pos}{a b:Expr}{ta:TA}{p pos:Pos}(hg:Gl X "zip")(hm:X.mg "zip"=none)(ha:PA X [a,b] ta)(hs:starEach [a,b] X.env=[(false,eval a X.env),(false,eval b X.env)]:=by rfl)(hs2:starEach [b] X.env=[(false,eval b X.env)]:=by rfl):
  PI X (.Tuple elts x1 tpos) (.Call (.Name "zip" p) [a,b] [] pos) (UP X.K ta):=by
 intro pins s σ H R I h
 refine Call_ (jU I hg hm boot_zip (PyProof.Rows.callWith_type1 (fN (ha pos pins s σ H _ I h) λus s1 ⟨vs,H1,I1,r1,q1⟩=> ?_) (by rw[hs,hs2]) (by rw[hs2];rfl)))
 obtain⟨l1,l2,xs,ys,e,q1,q2,q⟩:=q1
 subst e
 cases r1 with
 |cons r rr=>
  cases rr with
  |cons r' rr=>
   cases rr
   cases r
   cases r'
   obtain⟨ia,ra,pa,za⟩:=I1.list q1
   obtain⟨ib,rb,pb,zb⟩:=I1.list q2
   have XE:l1<s1.heap.objs.size:=by obtain⟨o,e,_⟩:=pa.isList;exact Heap.lt_size e
   have SH:l2<s1.heap.objs.size:=by obtain⟨o,e,_⟩:=pb.isList;exact Heap.lt_size e
   refine call_zip_2 pa.isList pb.isList λh' hz hTI hTO hi1 hi2 hsz hk=> ?_
   refine wpAny_pyIter_zip hz ?_
   refine⟨_,[s1.heap.objs.size+4,s1.heap.objs.size+2,s1.heap.objs.size+3,s1.heap.objs.size,s1.heap.objs.size+1],_,_,H1,rfl,I1.kept (t':=s1.toks) hk,Ir _ _ _ _ _ l1 l2 (zipApart_new XE SH),⟨hz,hTI,⟨_,_,hTO⟩,hi1,hi2⟩,λc hc=> ?_,q⟩
   have hc':s1.heap.objs.size<=c:=by
    simp only[List.mem_cons,List.not_mem_nil,or_false]at hc
    rcases hc with rfl|rfl|rfl|rfl|rfl<;>first|exact Nat.le_refl _|exact Nat.le_add_right _ _
   exact I1.BH hc' (I1.hok.fresh hc')
end
section
variable{X:Cx}{sc:Scope}{N2:List Str}{x y:Str}{px BB tpos:Pos}{x1:Nat}{elt iter:Expr}{gb p pos:Pos}{wi:TI}{te:TE}{P:Addr}
theorem Ao{own:List Str}{i:Nat}{z:Str}(B:qu sc.names X.env.scope.names own N2 X.N)(hz:own[i]?=some z)(s:Shared)(H:Hp)(fp:List Addr):PG (X.comp sc (own++N2) s H fp) (.Name z px) (bV i):=by
 have hi:(X.comp sc (own++N2) s H fp).N[i]?=some z:=by
  show(own++N2)[i]?=some z
  rw[List.getElem?_append_left (List.getElem?_eq_some_iff.mp hz).1];exact hz
 rcases B.own z (List.mem_of_getElem? hz)with e|e
 ·exact bL (i:=i) B.LP hi (.inl (jZ (env:=X.env) e (.inl rfl))) (.inr (jZ (env:=X.env) e (.inl rfl)))
 ·refine bL (i:=i) B.LP hi (.inr (jZ (env:=X.env) e (.inr rfl))) (.inl ?_)
  show(sc.names.lookup z==some NameKind.cell)=true
  rw[e];rfl
def g2(K:PySem.W.Frag):TG:=QS K 2 (Hw (bV 0) (Hw (bV 1) QO))
theorem Iu(hc:X.calm=true)(B:qu sc.names X.env.scope.names [x,y] N2 X.N)(s:Shared)(H:Hp)(fp:List Addr):PG (X.comp sc ([x,y]++N2) s H fp) (.Tuple [.Name x px,.Name y BB] x1 tpos) (g2 X.K):=
 BG (X:=X.comp sc ([x,y]++N2) s H fp) hc (cK (Ao (i:=0) B rfl s H fp) (cK (Ao (i:=1) B rfl s H fp) kP))
theorem Iv(hc:X.calm=true)(hi:PI X (.Tuple [.Name x px,.Name y BB] x1 tpos) iter wi)(hB:yw sc.names X.env.scope.names [x,y] N2 X.N=true)(hk:sc.kind= .function)(he:∀s H fp,PE (X.comp sc ([x,y]++N2) s H fp) elt te)
  (hs:∀x,foldedSetIterable iter X.env x=pure x:=by intro _;rfl):PE X (.ListComp elt [⟨.Tuple [.Name x px,.Name y BB] x1 tpos,iter,[],0⟩] sc pos) (jJ 2 wi (g2 X.K) te):=
 Af (own:=[x,y]) hc hi (jr hB) hk (λs H fp=>Iu hc (jr hB) s H fp) he hs
end
theorem Aq{K:PySem.W.Frag}{H1:Hp}{a b:Addr}{xs ys:List V}{σ:St}{te:TE}{Q:VK}(ha:aS K H1 a xs)(hb:aS K H1 b ys)(hl:xs.length=ys.length)(hz:xs.length<=sizeLine){D:Addr}(hD:H1 D=none)(f:V->V->V)
  (hs:∀(i:Nat) x y,xs[i]?=some x->ys[i]?=some y-> ∀H' (Q':VK),az H1 H'->Q' (f x y) H'->te (some x::some y::σ) H' Q')
  (hq:∀H',az H1 H'->H' D=some (.lst (List.zipWith f xs ys)) ->Q (.ref D) H'):jt 2 (g2 K) te σ (Qs K a b) H1 D Q:=by
 refine⟨λi m acc σ' H'=>m=xs.length-i/\i<=xs.length/\acc=(List.zipWith f xs ys).take i/\(∃o o',σ'=o::o'::σ)/\az H1 H'/\H' D=some (.lst acc),⟨xs.length,rfl,Nat.zero_le _,by simp,⟨none,none,rfl⟩,az.up hD,au⟩,?_⟩
 rintro i m acc σ' H' ⟨rfl,hi,hacc,⟨o,o',rfl⟩,sm,eD⟩
 have XF:acc.length=i:=by rw[hacc];simp;omega
 by_cases hlt:i<xs.length
 ·have hlt':i<ys.length:=by omega
  refine .inr ⟨⟨xs,ys,xs[i],ys[i],sm.seq ha,sm.seq hb,by simp[hlt],by simp[hlt']⟩,by omega,λv H2 yl=> ?_⟩
  obtain⟨T,x,y,rfl,hT,hx,hy,rfl⟩:=yl
  have ex:=hx xs (sm.seq ha)
  have ey:=hy ys (sm.seq hb)
  have s2:az H' (upd H' T (.tup [x,y])):=az.up hT
  refine⟨T,[x,y],rfl,pN.of au,rfl,x,[y],rfl,y,[],rfl,rfl,?_⟩
  show te (some x::some y::σ) _ _
  refine hs i x y ex ey _ _ (sm.trans s2) ?_
  refine⟨s2 _ _ eD,xs.length- (i+1),by omega,rfl,hlt,?_,⟨_,_,rfl⟩,(sm.trans s2).upd hD,au⟩
  rw[hacc,List.take_succ,List.getElem?_zipWith,ex,ey]
  rfl
 ·have e:i=xs.length:=by omega
  subst e
  refine .inl ⟨⟨xs,ys,sm.seq ha,sm.seq hb,.inl (Nat.le_refl _)⟩,eD,hq H' sm ?_⟩
  rw[eD,hacc]
  rw[List.take_of_length_le (by rw[List.length_zipWith];exact Nat.min_le_left ..)]
section
variable{X:Cx}{sc:Scope}{N2:List Str}{x y:Str}{px BB:Pos}{elt iter DM:Expr}{gb p pos:Pos}{wi SA:TI}{te:TE}{P:Addr}
theorem DS{B:Around}{own:List Str}{i:Nat}{z:Str}(Bk:qu sc.names X.env.scope.names own N2 X.N)(hnc:∀y∈sc.names,y.2≠ .cell)(hz:own[i]?=some z)(code:Value)(s:Shared)(H:Hp)(fp:List Addr):PG (X.gen B sc (own++N2) code s H fp) (.Name z px) (bV i):=by
 have hi:(X.gen B sc (own++N2) code s H fp).N[i]?=some z:=by
  show(own++N2)[i]?=some z
  rw[List.getElem?_append_left (List.getElem?_eq_some_iff.mp hz).1];exact hz
 rcases Bk.own z (List.mem_of_getElem? hz)with e|e
 ·exact bL (i:=i) Bk.LP hi (.inl e) (.inr e)
 ·exact absurd rfl (hnc _ (mem_of_lookup e))
end
section
variable{prog:Program}{w:World}{A:Around}{E:Value->Shared->Prop}{s:Shared}
theorem xU{it t:Addr}{items:Array Value}(hne:t≠it):∀(n i:Nat) (s:Shared) (Q:List Value->Shared->Prop),s.heap.IsListIter it t i->s.heap.IsList t items->i+n<=items.size->
  (∀h',h'.IsListIter it t (i+n) ->Heap.SameBut it s.heap h'->Q ((items.toList.drop i).take n) {s with heap:=h'}) ->wpAny (model prog w) A (draw (.ref it) n) Q E s
 |0,i,s,Q,hit,_,_,hQ=>by
  show wpAny _ _ (pure []) Q E s
  exact wpAny_pure (by simpa using hQ s.heap hit (Heap.SameBut.refl ..))
 |n+1,i,s,Q,hit,ht,hle,hQ=>by
  have hlt:i<items.size:=by omega
  show wpAny _ _ (pyNext (.ref it)>>=_) Q E s
  refine wpAny_bind (wpAny_pyNext_list_item hit ht (x:=items[i]) (by simp[hlt]) λh₁ Cb hs₁=> ?_)
  refine wpAny_bind (wpAny_holding (xU hne n (i+1) _ _ Cb (ht.extBut hs₁.extBut hne) (by omega) λh₂ Pq hs₂=>wpAny_pure ?_))
  have hd:items.toList.drop i=items[i]::items.toList.drop (i+1):=by simp[List.drop_eq_getElem_cons,hlt]
  have:=hQ h₂ (by rw[show i+(n+1)=i+1+n by omega];exact Pq) (hs₁.trans hs₂)
  rw[hd,List.take_succ_cons]at this
  exact this
theorem yM{t:Addr}{items:Array Value}{targets:List (Bool×(Value->Sem Unit))}{Q:Unit->Shared->Prop}(hh:A.handled=none)(ht:s.heap.IsList t items)
  (hn:targets.length=items.size)(hstar:targets.findIdx? (·.1)=none)
  (h:∀h',Heap.ExtBut s.heap.objs.size s.heap h'->wpAny (model prog w) A (assignInOrder (targets.map (·.2)) items.toList) Q E {s with heap:=h'}):
  wpAny (model prog w) A (unpack (.ref t) targets) Q E s:=by
 have hlt:t≠s.heap.objs.size:=by obtain⟨o,ho,_⟩:=ht;exact Nat.ne_of_lt (Heap.lt_size ho)
 unfold unpack
 rw[hn,hstar]
 refine wpAny_bind (wpAny_holding ?_)
 unfold unpackItems
 refine wpAny_bind ?_
 unfold notIterableAtAll
 refine wpAny_bind (wpAny_specialOf ht.typeIs PySem.F.slot_list_iter.lookup ?_)
 refine wpAny_pure ?_
 simp only[Bool.false_eq_true,if_false]
 refine wpAny_bind (wpAny_holding (wpAny_pyIter_list ht ?_))
 refine wpAny_bind (wpAny_holding (xU hlt items.size 0 _ _ ⟨_,Heap.get?_push_size _ rfl,rfl,rfl⟩ (Heap.IsList.push ht _) (by omega) λh₁ Cb hs₁=> ?_))
 have hall:List.take items.size (List.drop 0 items.toList)=items.toList:=by
  rw[List.drop_zero];exact List.take_of_length_le (by simp)
 rw[hall]
 rw[if_neg (by simp)]
 have ht₁:h₁.IsList t items:=(Heap.IsList.push ht _).extBut hs₁.extBut hlt
 refine wpAny_bind (wpAny_holding (wpAny_pyNext_list_end hh Cb ht₁ (by simp) λh₂ Rp=> ?_))
 simp only[Option.isSome_none,Bool.false_eq_true,if_false]
 refine wpAny_pure (h h₂ λb o hb e=>Rp b o hb (hs₁.extBut b o hb (Heap.get?_push_of_some _ e)))
end
section
variable{X:Cx}
def Rq(K:PySem.W.Frag)(n:Nat)(t:LH):TG:=λv σ H Q=> ∃a xs,v= .ref a/\aS K H a xs/\xs.length=n/\t xs σ H Q
theorem qJ{es:List Expr}{k:Nat}{t:LH}{n:Nat}{pos:Pos}(hc:X.calm=true)(h:QN X es t)
  (hn:(assignEach es X.env).length=n:=by rfl)(hst:(assignEach es X.env).findIdx? (·.1)=none:=by rfl):PG X (.Tuple es k pos) (Rq X.K n t):=by
 intro pins s σ H v u Q I r hw
 obtain⟨a,xs,e1,hq,hl,hw⟩:=hw
 subst e1
 cases r
 obtain⟨its,rv,ht,hz⟩:=I.list hq
 rw[PyProof.Rows.assign_Tuple]
 refine wpAny_bind (wpAny_standAt (yM (I.ok.hd hc) ht.isList (by simp[hn,<-hl,rv.length]) hst λh' hx=> ?_))
 have I1:Inv X pins σ H {s with heap:=h'}:=I.kept (t':=s.toks) λb o e=>hx b o (Nat.ne_of_lt (Heap.lt_size e)) e
 exact h pins _ σ H xs _ Q I1 (by simpa using rv) hw
end
def cM(H:Hp)(a:Addr)(x:Nat->Int):Prop:=H a=some (.lst [.int (x 0),.int (x 1),.int (x 2)])
def pairF(m:List (List Int))(x y:Nat->Int)(t:Nat):Int:=x (t/3)*ent m (t/3) (t%3)*y (t%3)
def bH(m:List (List Int))(x y:Nat->Int):Int:=PySem.preSum (pairF m x y) 9
theorem cN(m:List (List Int))(x y:Nat->Int):bH m x y=
  x 0*ent m 0 0*y 0+x 0*ent m 0 1*y 1+x 0*ent m 0 2*y 2+x 1*ent m 1 0*y 0+x 1*ent m 1 1*y 1+x 1*ent m 1 2*y 2+x 2*ent m 2 0*y 0+x 2*ent m 2 1*y 1+x 2*ent m 2 2*y 2:=by
 show PySem.preSum (pairF m x y) 9=_
 simp only[PySem.preSum,pairF,Nat.reduceDiv,Nat.reduceMod]
 omega
structure cj(m:List (List Int)):Prop where
 sym:ent m 1 0=ent m 0 1/\ent m 2 0=ent m 0 2/\ent m 2 1=ent m 1 2
 XG:∃a b c,ent m 0 0=2*a/\ent m 1 1=2*b/\ent m 2 2=2*c
def aL(m:List (List Int))(x:Nat->Int):Int:=bH m x x/2
theorem gw{m:List (List Int)}(h:cj m)(x:Nat->Int):bH m x x=2*aL m x:=by
 obtain⟨⟨s1,s2,s3⟩,a,b,c,e1,e2,e3⟩:=h
 have q:bH m x x=2*(x 0*a*x 0+x 1*b*x 1+x 2*c*x 2+x 0*ent m 0 1*x 1+x 0*ent m 0 2*x 2+x 1*ent m 1 2*x 2):=by
  rw[cN,s1,s2,s3,e1,e2,e3];grind
 unfold aL
 rw[q,Int.mul_ediv_cancel_left _ (by decide)]
section
variable{X:Cx}{pos:Pos}
end
def lW(a b c p q r:Int):List (List Int):=mk3 λi j=>match i,j with|0,0=>a|0,1=>p|0,_=>q|1,0=>p|1,1=>b|1,_=>r|_,0=>q|_,1=>r|_,_=>c
theorem Iw(a b c p q r:Int):aX (lW a b c p q r)=a*b*c+2*(p*q*r) -a*(r*r) -b*(q*q) -c*(p*p):=by
 rw[cZ]
 show a*(b*c-r*r)+p*(r*q-p*c)+q*(p*r-b*q)=_
 grind
theorem DT{n:Nat}{a b c p q r:Int}(ha:a.natAbs<2^n)(hb:b.natAbs<2^n)(hc:c.natAbs<2^n)(hp:p.natAbs<2^n)(hq:q.natAbs<2^n)(hr:r.natAbs<2^n):Bd n (lW a b c p q r):=λi j hi hj=>by
 unfold lW
 rw[bO _ hi hj]
 rcases aB hi with rfl|rfl|rfl<;>rcases aB hj with rfl|rfl|rfl<;>assumption
theorem rK(a b c p q r:Int):cj (lW (2*a) (2*b) (2*c) p q r):=⟨⟨rfl,rfl,rfl⟩,a,b,c,rfl,rfl,rfl⟩
theorem Rt{p a:Int}(h: -a<=p)(h':p<=a):p*p<=a*a:=by
 have h1:0<=a-p:=by omega
 have h2:0<=a+p:=by omega
 have:=Int.mul_nonneg h1 h2
 grind
theorem Cc{H:Hp}{a b c d:Addr}{x y z:HO}(h0:H a=none)(h1:upd H a x b=none)(h2:upd (upd H a x) b y c=none)(h3:upd (upd (upd H a x) b y) c z d=none):H d=none/\(∀e∈ [a,b,c],H e=none)/\d∉ [a,b,c]:=by
 have s0:az H (upd H a x):=az.up h0
 have s1:az (upd H a x) (upd (upd H a x) b y):=az.up h1
 have s2:az (upd (upd H a x) b y) (upd (upd (upd H a x) b y) c z):=az.up h2
 refine⟨(s0.trans (s1.trans s2)).none h3,λe he=> ?_,λhd=> ?_⟩
 ·simp only[List.mem_cons,List.not_mem_nil,or_false]at he
  rcases he with rfl|rfl|rfl
  ·exact h0
  ·exact s0.none h1
  ·exact(s0.trans s1).none h2
 ·simp only[List.mem_cons,List.not_mem_nil,or_false]at hd
  rcases hd with rfl|rfl|rfl
  ·have:=(s1.trans s2) _ _ (au (H:=H) (a:=d) (o:=x));rw[h3]at this;cases this
  ·have:=s2 _ _ (au (H:=upd H a x) (a:=d) (o:=y));rw[h3]at this;cases this
  ·rw[au]at h3;cases h3
def qK(m:List (List Int))(i:Nat)(g:Nat->Int):List (List Int):=mk3 λr s=>if r=i then g s else ent m r s
theorem qL{H:Hp}{D R:Addr}{bs:List Addr}{m:List (List Int)}{i:Nat}{g:Nat->Int}(hT:Tab H D bs m)(bP:bI m)(hi:i<3)(hR:H R=some (.lst [.int (g 0),.int (g 1),.int (g 2)]))(nR:R≠D)(nD:D∉bs):
  Tab (upd H D (.lst ((bs.map V.ref).set i (.ref R)))) D (bs.set i R) (qK m i g):=by
 obtain⟨b0,x1,x2,_⟩:=bf hT bP (i:=0) (by decide)
 obtain⟨b1,y1,y2,_⟩:=bf hT bP (i:=1) (by decide)
 obtain⟨b2,w1,w2,_⟩:=bf hT bP (i:=2) (by decide)
 have hl3:bs.length=3:=by rw[<-hT.2.length,bP.1]
 obtain⟨a0,a1,a2,rfl⟩:∃a0 a1 a2,bs=[a0,a1,a2]:=by
  match bs,hl3 with
  | [a,b,c],_=>exact⟨a,b,c,rfl⟩
 obtain rfl:a0=b0:=V.ref.inj (Option.some.inj x1)
 obtain rfl:a1=b1:=V.ref.inj (Option.some.inj y1)
 obtain rfl:a2=b2:=V.ref.inj (Option.some.inj w1)
 have n0:a0≠D:=λz=>nD (by rw[<-z];simp)
 have n1:a1≠D:=λz=>nD (by rw[<-z];simp)
 have n2:a2≠D:=λz=>nD (by rw[<-z];simp)
 rcases aB hi with rfl|rfl|rfl
 ·exact iw _ au (by rw[aE nR];exact hR) (by rw[aE n1];exact y2) (by rw[aE n2];exact w2)
 ·exact iw _ au (by rw[aE n0];exact x2) (by rw[aE nR];exact hR) (by rw[aE n2];exact w2)
 ·exact iw _ au (by rw[aE n0];exact x2) (by rw[aE n1];exact y2) (by rw[aE nR];exact hR)
theorem cO(m:List (List Int)){i r s:Nat}(g:Nat->Int)(hr:r<3)(hs:s<3):ent (qK m i g) r s=if r=i then g s else ent m r s:=bO _ hr hs
theorem Me(m:List (List Int)){i j:Nat}(hi:i<3)(hj:j<3)(hij:i≠j)(o:Int):aX (qK m i λs=>ent m i s+o*ent m j s)=aX m:=by
 rw[cZ,cZ]
 simp only[cO m _ (show 0<3 by decide) (show 0<3 by decide),cO m _ (show 0<3 by decide) (show 1<3 by decide),cO m _ (show 0<3 by decide) (show 2<3 by decide),cO m _ (show 1<3 by decide) (show 0<3 by decide),cO m _ (show 1<3 by decide) (show 1<3 by decide),cO m _ (show 1<3 by decide) (show 2<3 by decide),cO m _ (show 2<3 by decide) (show 0<3 by decide),cO m _ (show 2<3 by decide) (show 1<3 by decide),cO m _ (show 2<3 by decide) (show 2<3 by decide)]
 rcases aB hi with rfl|rfl|rfl<;>rcases aB hj with rfl|rfl|rfl<;>first|(exact absurd rfl hij)|(simp only[Nat.reduceEqDiff,if_true,if_false];grind)
structure FE(X:Cx)(e:Expr)(t:TE):Prop where
 h:PE X e t
structure FA(X:Cx)(es:List Expr)(t:TA):Prop where
 h:PA X es t
variable{X:Cx}
theorem bJ{i j pos}:FE X (.Constant (.int i) j pos) (tC (.int i)):=⟨ah⟩
theorem fe{e t}(h:PE X e t):FE X e t:=⟨h⟩
theorem fF:FA X [] gF:=⟨ak⟩
theorem aR{e es te t}(ha:FE X e te)(hr:FA X es t)(hs:starEach (e::es) X.env=(false,eval e X.env)::starEach es X.env):FA X (e::es) (bE te t):=⟨af ha.h hr.h hs⟩
theorem fH{es t pos}(h:FA X es t):FE X (.List es pos) (Rc t):=⟨gS h.h⟩
theorem Iz{i:Nat}{x:Str}{e:Expr}{te:TE}{pos' pos:Pos}{b:List Stmt}{tb:TS}(hN:X.N.Nodup)(hi:X.N[i]?=some x)(hx:Loc X.env.scope x)(he:FE X e te)(hs:swapsWith e (some (.Name x pos')) pos.line X.env=pure false)(hf:X.fn x=true∨X.env.scope.names.lookup x=some .local)(hb:Hh X b tb):
  Hh X (.Assign [.Name x pos'] e pos::b) (OD (zZ te (bV i)) tb):=ay (aW hN hi hx he.h hs hf) hb
theorem IA{e:Expr}{te:TE}{pos:Pos}(he:FE X e te):Hh X [.Return (some e) pos] (QK te):=aK (aT he.h)
theorem toF{st:List Stmt}{R:TS->Prop}(h:∃t,Hh X st t/\R t):∃t,yp X st t/\R t:=by
 obtain⟨t,a,b⟩:=h
 exact⟨t,a.h,b⟩
def dj(m:List (List Int)):Bool:=decide (0<ent m 0 0) && (decide (ent m 0 1*ent m 0 1<ent m 0 0*ent m 1 1) && decide (0<aX m))
theorem jN{m:List (List Int)}(h:dW m=m){i j:Nat}(hi:i<3)(hj:j<3):ent m j i=ent m i j:=by
 rw[<-bh m hi hj,h]
theorem Ru(m:List (List Int)):bH m (λi=>if i=0 then 1 else 0) (λi=>if i=0 then 1 else 0)=ent m 0 0:=by
 rw[cN]
 simp
theorem Rv{m:List (List Int)}(h:dW m=m)(x:Nat->Int)(h0:x 0= -ent m 0 1)(h1:x 1=ent m 0 0)(h2:x 2=0):bH m x x=ent m 0 0*(ent m 0 0*ent m 1 1-ent m 0 1*ent m 0 1):=by
 rw[cN,h0,h1,h2,jN h (i:=0) (j:=1) (by decide) (by decide)]
 grind
theorem Rw(m:List (List Int)):bH m (λj=>ent (j4 m) 2 j) (λj=>ent (j4 m) 2 j)=aX m*ent (j4 m) 2 2:=by
 have e:∀j,j<3->ent (j4 m) 2 0*ent m 0 j+ent (j4 m) 2 1*ent m 1 j+ent (j4 m) 2 2*ent m 2 j=if 2=j then aX m else 0:=λj hj=>by
  rw[<-aV _ _ (by decide) hj,Iq,DR,bO _ (by decide) hj]
 have e0:=e 0 (by decide)
 have e1:=e 1 (by decide)
 have e2:=e 2 (by decide)
 rw[if_neg (by decide)]at e0 e1
 rw[if_pos rfl]at e2
 rw[cN,<-e2]
 grind
theorem Oc(m:List (List Int)):ent (j4 m) 2 2=ent m 0 0*ent m 1 1-ent m 0 1*ent m 1 0:=by
 rw[eK m (by decide) (by decide)]
 rfl
theorem ID{H:Hp}{a b c:Addr}{x y:HO}(h0:H a=none)(h1:upd H a x b=none)(h2:upd (upd H a x) b y c=none): [a,b,c].Nodup:=by
 have n1:a≠b:=λe=>by rw[e,au]at h1;cases h1
 have n2:b≠c:=λe=>by rw[e,au]at h2;cases h2
 have n3:a≠c:=λe=>by rw[aE (λz=>n2 z.symm),e,au]at h2;cases h2
 simp[n1,n2,n3]
theorem Pr{a:Bool}{X A B:Prop}(hB:B)(h:a=true->B->X):if a=true then X else(if false=true then A else B):=by
 cases a with
 |false=>exact pK (pK hB)
 |true=>exact uF (h rfl hB)
section
variable{X:Cx}
end
def wN(x:Nat->Int)(b:List (List Int)):Nat->Int:=λj=>x 0*ent b 0 j+x 1*ent b 1 j+x 2*ent b 2 j
theorem Fe(b m:List (List Int))(x y:Nat->Int):bH (ie b m) x y=bH m (wN x b) y:=by
 rw[cN,cN]
 unfold wN
 simp only[aV b m (show 0<3 by decide) (show 0<3 by decide),aV b m (show 0<3 by decide) (show 1<3 by decide),aV b m (show 0<3 by decide) (show 2<3 by decide),aV b m (show 1<3 by decide) (show 0<3 by decide),aV b m (show 1<3 by decide) (show 1<3 by decide),aV b m (show 1<3 by decide) (show 2<3 by decide),aV b m (show 2<3 by decide) (show 0<3 by decide),aV b m (show 2<3 by decide) (show 1<3 by decide),aV b m (show 2<3 by decide) (show 2<3 by decide)]
 grind
theorem Cd(b m:List (List Int))(x y:Nat->Int):bH (ie m (dW b)) x y=bH m x (wN y b):=by
 rw[cN,cN]
 unfold wN
 simp only[aV m (dW b) (show 0<3 by decide) (show 0<3 by decide),aV m (dW b) (show 0<3 by decide) (show 1<3 by decide),aV m (dW b) (show 0<3 by decide) (show 2<3 by decide),aV m (dW b) (show 1<3 by decide) (show 0<3 by decide),aV m (dW b) (show 1<3 by decide) (show 1<3 by decide),aV m (dW b) (show 1<3 by decide) (show 2<3 by decide),aV m (dW b) (show 2<3 by decide) (show 0<3 by decide),aV m (dW b) (show 2<3 by decide) (show 1<3 by decide),aV m (dW b) (show 2<3 by decide) (show 2<3 by decide),
  bh b (show 0<3 by decide) (show 0<3 by decide),bh b (show 0<3 by decide) (show 1<3 by decide),bh b (show 0<3 by decide) (show 2<3 by decide),bh b (show 1<3 by decide) (show 0<3 by decide),bh b (show 1<3 by decide) (show 1<3 by decide),bh b (show 1<3 by decide) (show 2<3 by decide),bh b (show 2<3 by decide) (show 0<3 by decide),bh b (show 2<3 by decide) (show 1<3 by decide),bh b (show 2<3 by decide) (show 2<3 by decide)]
 grind
theorem Ff(m b:List (List Int))(x y:Nat->Int):bH (mO m b) x y=bH m (wN x b) (wN y b):=by
 unfold mO
 rw[Cd,Fe]
theorem yN{a b:Int}(h:0<a*b)(ha:0<a):0<b:=by
 rcases Int.lt_or_le 0 b with z|z
 ·exact z
 ·have:=Int.mul_nonpos_of_nonneg_of_nonpos (show 0<=a by omega) z
  omega
def Mf(m:List (List Int)):Prop:=∀x:Nat->Int,¬(x 0=0/\x 1=0/\x 2=0) ->0<bH m x x
theorem Fg{m:List (List Int)}(hS:dW m=m)(h:Mf m):dj m=true:=by
 have c1:0<ent m 0 0:=by
  have:=h (λi=>if i=0 then 1 else 0) (λz=>by simp at z)
  rw[Ru]at this
  exact this
 have c2:ent m 0 1*ent m 0 1<ent m 0 0*ent m 1 1:=by
  have:=h (λi=>match i with|0=> -ent m 0 1|1=>ent m 0 0|_=>0) (λz=>by have y:ent m 0 0=0:=z.2.1;omega)
  rw[Rv hS _ rfl rfl rfl]at this
  have:=yN this c1
  omega
 have Wf:0<ent (j4 m) 2 2:=by
  rw[Oc,jN hS (i:=0) (j:=1) (by decide) (by decide)]
  omega
 have c3:0<aX m:=by
  have:=h (λj=>ent (j4 m) 2 j) (λz=>by have y:ent (j4 m) 2 2=0:=z.2.2;omega)
  rw[Rw]at this
  exact yN (by rw[Int.mul_comm];exact this) Wf
 unfold dj
 rw[decide_eq_true c1,decide_eq_true c2,decide_eq_true c3]
 rfl
theorem xV{m:List (List Int)}(h:dj m=true):0<ent m 0 0/\ent m 0 1*ent m 0 1<ent m 0 0*ent m 1 1/\0<aX m:=by
 unfold dj at h
 simp only[Bool.and_eq_true,decide_eq_true_eq]at h
 exact⟨h.1,h.2.1,h.2.2⟩
theorem mP(a:Int):0<=a*a:=by
 rcases Int.le_total 0 a with h|h
 ·exact Int.mul_nonneg h h
 ·have:=Int.mul_nonneg (show 0<= -a by omega) (show 0<= -a by omega)
  rwa [Int.neg_mul_neg]at this
theorem yO{a:Int}(h:a*a<=0):a=0:=by
 have:=mP a
 have:a*a=0:=by omega
 rcases Int.mul_eq_zero.mp this with z|z<;>exact z
theorem Pu{m:List (List Int)}(hS:dW m=m)(x:Nat->Int):ent m 0 0*(ent m 0 0*ent m 1 1-ent m 0 1*ent m 0 1)*bH m x x=
  (ent m 0 0*ent m 1 1-ent m 0 1*ent m 0 1)*((ent m 0 0*x 0+ent m 0 1*x 1+ent m 0 2*x 2)*(ent m 0 0*x 0+ent m 0 1*x 1+ent m 0 2*x 2))
  +((ent m 0 0*ent m 1 1-ent m 0 1*ent m 0 1)*x 1+(ent m 0 0*ent m 1 2-ent m 0 1*ent m 0 2)*x 2)*((ent m 0 0*ent m 1 1-ent m 0 1*ent m 0 1)*x 1+(ent m 0 0*ent m 1 2-ent m 0 1*ent m 0 2)*x 2)
  +ent m 0 0*aX m*(x 2*x 2):=by
 rw[cN,cZ,jN hS (i:=0) (j:=1) (by decide) (by decide),jN hS (i:=0) (j:=2) (by decide) (by decide),jN hS (i:=1) (j:=2) (by decide) (by decide)]
 generalize ent m 0 0=a,ent m 0 1=p,ent m 0 2=q,ent m 1 1=b,ent m 1 2=r,ent m 2 2=c
 generalize x 0=u,x 1=v,x 2=w
 grind
theorem Fi{m:List (List Int)}(hS:dW m=m)(h:dj m=true):Mf m:=by
 intro x n0
 obtain⟨c1,c2,c3⟩:=xV h
 have e:=Pu hS x
 have f1:0<ent m 0 0*ent m 1 1-ent m 0 1*ent m 0 1:=by omega
 generalize ent m 0 0*ent m 1 1-ent m 0 1*ent m 0 1=fl at e f1
 have q1:=mP (ent m 0 0*x 0+ent m 0 1*x 1+ent m 0 2*x 2)
 have q2:=mP (fl*x 1+(ent m 0 0*ent m 1 2-ent m 0 1*ent m 0 2)*x 2)
 have q3:=mP (x 2)
 have r1:=Int.mul_nonneg (show 0<=fl by omega) q1
 have d1:=Int.mul_pos c1 c3
 have r3:=Int.mul_nonneg (show 0<=ent m 0 0*aX m by omega) q3
 have g1:=Int.mul_pos c1 f1
 refine yN ?_ g1
 rcases Int.lt_or_le 0 (ent m 0 0*fl*bH m x x)with z|z
 ·exact z
 ·exfalso
  have s3:ent m 0 0*aX m*(x 2*x 2)<=0:=by omega
  have s2:=yO (a:=fl*x 1+(ent m 0 0*ent m 1 2-ent m 0 1*ent m 0 2)*x 2) (by omega)
  have s1:fl*((ent m 0 0*x 0+ent m 0 1*x 1+ent m 0 2*x 2)*(ent m 0 0*x 0+ent m 0 1*x 1+ent m 0 2*x 2))<=0:=by omega
  have x2:x 2=0:=by
   refine yO ?_
   rcases Int.lt_or_le 0 (x 2*x 2)with y|y
   ·have:=Int.mul_pos d1 y
    omega
   ·exact y
  rw[x2,Int.mul_zero,Int.add_zero]at s2
  have x1:x 1=0:=by
   rcases Int.mul_eq_zero.mp s2 with y|y
   ·omega
   ·exact y
  rw[x1,x2,Int.mul_zero,Int.mul_zero,Int.add_zero,Int.add_zero]at s1
  have x0:x 0=0:=by
   have:ent m 0 0*x 0=0:=by
    refine yO ?_
    rcases Int.lt_or_le 0 (ent m 0 0*x 0*(ent m 0 0*x 0))with y|y
    ·have:=Int.mul_pos f1 y
     omega
    ·exact y
   rcases Int.mul_eq_zero.mp this with y|y
   ·omega
   ·exact y
  exact n0 ⟨x0,x1,x2⟩
theorem Ce(b:List (List Int)):aX (dW b)=aX b:=by
 rw[cZ,cZ]
 simp only[bh b (show 0<3 by decide) (show 0<3 by decide),bh b (show 0<3 by decide) (show 1<3 by decide),bh b (show 0<3 by decide) (show 2<3 by decide),bh b (show 1<3 by decide) (show 0<3 by decide),bh b (show 1<3 by decide) (show 1<3 by decide),bh b (show 1<3 by decide) (show 2<3 by decide),bh b (show 2<3 by decide) (show 0<3 by decide),bh b (show 2<3 by decide) (show 1<3 by decide),bh b (show 2<3 by decide) (show 2<3 by decide)]
 grind
def DU(d:Int):Prop:=d=1∨d= -1
theorem Ar{m b:List (List Int)}(hb:DU (aX b)):aX (mO m b)=aX m:=by
 unfold mO
 rw[rJ,rJ,Ce]
 rcases hb with h|h<;>rw[h]<;>omega
theorem IE{b:List (List Int)}(hb:DU (aX b))(x:Nat->Int)(h:wN x b 0=0/\wN x b 1=0/\wN x b 2=0):x 0=0/\x 1=0/\x 2=0:=by
 obtain⟨h0,h1,h2⟩:=h
 unfold wN at h0 h1 h2
 have d0:aX b≠0:=by rcases hb with z|z<;>rw[z]<;>decide
 have k:∀z:Int,aX b*z=0->z=0:=λz e=>by
  rcases Int.mul_eq_zero.mp e with y|y
  ·exact absurd y d0
  ·exact y
 refine⟨k _ ?_,k _ ?_,k _ ?_⟩<;>rw[cZ]<;>grind
theorem IF{m b:List (List Int)}(h:Mf m)(hb:DU (aX b)):Mf (mO m b):=λx n0=>by
 rw[Ff]
 exact h _ λz=>n0 (IE hb x z)
theorem uS{m b:List (List Int)}(hS:dW m=m)(h:dj m=true)(cb:bI b)(hb:DU (aX b)):dj (mO m b)=true:=
 Fg ((xT b cb).trans (congrArg (mO · b) hS)) (IF (Fi hS h) hb)
theorem lX{m:List (List Int)}(h:cj m)(c:bI m):dW m=m:=by
 obtain⟨⟨s1,s2,s3⟩,_⟩:=h
 conv=>rhs;rw[BZ c]
 refine jR λi j hi hj=> ?_
 rcases aB hi with rfl|rfl|rfl<;>rcases aB hj with rfl|rfl|rfl<;>first|rfl|assumption|(symm;assumption)
theorem As(m b:List (List Int)){i j:Nat}(hi:i<3)(hj:j<3):ent (mO m b) i j=bH m (λk=>ent b i k) (λk=>ent b j k):=by
 unfold mO
 rw[aV _ _ hi hj,aV _ _ hi (by decide),aV _ _ hi (by decide),aV _ _ hi (by decide),bh b (by decide) hj,bh b (by decide) hj,bh b (by decide) hj,cN]
 grind
theorem xW{m b:List (List Int)}(h:cj m)(c:bI m)(cb:bI b):cj (mO m b):=by
 have hS:=(xT b cb).trans (congrArg (mO · b) (lX h c))
 refine⟨⟨jN hS (i:=0) (j:=1) (by decide) (by decide),jN hS (i:=0) (j:=2) (by decide) (by decide),jN hS (i:=1) (j:=2) (by decide) (by decide)⟩,aL m (λk=>ent b 0 k),aL m (λk=>ent b 1 k),aL m (λk=>ent b 2 k),?_,?_,?_⟩<;>rw[As m b (by decide) (by decide),gw h]
theorem uT{a b c p q r:Int}(ha:0<a)(hab:a<=b)(hp: -a<=p)(wH:p<=a)(hd:0<aX (lW (2*a) (2*b) (2*c) p q r)):dj (lW (2*a) (2*b) (2*c) p q r)=true:=by
 have h1:=Rt hp wH
 have h2:a*a<=a*b:=Int.mul_le_mul_of_nonneg_left hab (by omega)
 have h3:0<a*b:=Int.mul_pos ha (by omega)
 have h4:p*p<2*a*(2*b):=by
  have:2*a*(2*b)=4*(a*b):=by grind
  omega
 unfold dj
 rw[decide_eq_true hd,decide_eq_true (p:=0<ent (lW (2*a) (2*b) (2*c) p q r) 0 0) (by show 0<2*a;omega),decide_eq_true (p:=ent (lW (2*a) (2*b) (2*c) p q r) 0 1*ent (lW (2*a) (2*b) (2*c) p q r) 0 1<ent (lW (2*a) (2*b) (2*c) p q r) 0 0*ent (lW (2*a) (2*b) (2*c) p q r) 1 1) h4]
 rfl
section
variable{X:Cx}{sc:Scope}{N2:List Str}{x y:Str}{px BB tpos:Pos}{x1:Nat}{elt iter:Expr}{gb p pos:Pos}{wi:TI}{te:TE}{P:Addr}
end
mutual
inductive DV (H:Hp):V->PyData->Prop
 |gP:DV H .gP .none
 |bl (b:Bool):DV H (.bl b) (.bool b)
 |int (i:Int):DV H (.int i) (.int i)
 |str (x:Str):DV H (.str x) (.str x)
 |lst {a:Addr} {xs:List V} {ds:List PyData}:H a=some (.lst xs) ->BC H xs ds->DV H (.ref a) (.list ds)
 |tup {a:Addr} {xs:List V} {ds:List PyData}:H a=some (.tup xs) ->BC H xs ds->DV H (.ref a) (.tuple ds)
inductive BC (H:Hp):List V->List PyData->Prop
 |nil:BC H [] []
 |cons {x:V} {d:PyData} {xs:List V} {ds:List PyData}:DV H x d->BC H xs ds->BC H (x::xs) (d::ds)
end
theorem BC.length{H:Hp}:∀{xs:List V} {ds:List PyData},BC H xs ds->xs.length=ds.length
 |_,_,.nil=>rfl
 |_,_,.cons _ q=>congrArg (· +1) (BC.length q)
theorem BC.get{H:Hp}:∀{xs:List V} {ds:List PyData} {i:Nat} {x:V},BC H xs ds->xs[i]?=some x-> ∃d,ds[i]?=some d/\DV H x d
 |_,_,0,_,.cons a q,e=>by cases e;exact⟨_,rfl,a⟩
 |_,_,i+1,_,.cons a q,e=>BC.get (i:=i) q (by simpa using e)
theorem Cf{J:It}{H1:Hp}{xs:List V}{σ:St}{te:TE}{Q:VK}(jw:JW J H1 xs)(hz:xs.length<=sizeLine){D:Addr}(hD:H1 D=none)(f:V->HO)
  (hs:∀x∈xs,∀H' (Q':VK),az H1 H'->(∀b H2,H' b=none->az H' H2->H2 b=some (f x) ->Q' (.ref b) H2) ->te (some x::σ) H' Q')
  (hq:∀bs H',az H1 H'->H' D=some (.lst (bs.map V.ref)) ->(∀b∈bs,H1 b=none) ->D∉bs->bs.Nodup->Paired (λx b=>H' b=some (f x)) xs bs->Q (.ref D) H'):
  jt 1 (bV 0) te σ J H1 D Q:=by
 refine qE jw hz hD (λpre acc H'=> ∃bs:List Addr,acc=bs.map V.ref/\(∀b∈bs,H1 b=none/\H' b≠none)/\D∉bs/\bs.Nodup/\Paired (λx b=>H' b=some (f x)) pre bs) ⟨[],rfl,λ_ h=>(nomatch h),by simp,List.nodup_nil,.nil⟩ (λpre x post acc H' Q' e hl sm eD p k=> ?_) (λacc H' hl sm eD p=> ?_)
 ·obtain⟨bs,rfl,fr,nD,nn,pr⟩:=p
  refine hs x (by rw[e];simp) H' _ sm λb H2 hb s2 eb=> ?_
  have nb:b≠D:=λz=>by rw[z,eD]at hb;cases hb
  refine k _ _ s2 ⟨bs++ [b],by simp,?_,?_,?_,?_⟩
  ·intro c hc
   rcases List.mem_append.mp hc with z|z
   ·refine⟨(fr c z).1,λy=> ?_⟩
    rw[aE (λw=>nD (by rw[<-w];exact z))]at y
    exact(fr c z).2 (s2.none y)
   ·rw[List.mem_singleton.mp z]
    refine⟨sm.none hb,λy=> ?_⟩
    rw[aE nb,eb]at y
    cases y
  ·intro z
   rcases List.mem_append.mp z with z|z
   ·exact nD z
   ·exact nb (List.mem_singleton.mp z).symm
  ·rw[List.nodup_append]
   refine⟨nn,by simp,λc hc d hd z=> ?_⟩
   rw[List.mem_singleton.mp hd]at z
   exact(fr c hc).2 (by rw[z];exact hb)
  ·refine Paired.snoc (pr.yE λy c hc q=> ?_) (by rw[aE nb];exact eb)
   rw[aE (λz=>nD (by rw[<-z];exact hc))]
   exact s2 _ _ q
 ·obtain⟨bs,rfl,fr,nD,nn,pr⟩:=p
  exact hq bs H' sm eD (λb hb=>(fr b hb).1) nD nn pr
theorem Au{K:PySem.W.Frag}{H:Hp}{t:Addr}{bs:List Addr}{m:List (List Int)}{σ:St}{Q:VK}(h:Tab H t bs m)(hz:m.length<=sizeLine){D:Addr}(hD:H D=none)
  (hq:∀bs' H',az H H'->(∀b∈bs',H b=none) ->D∉bs'->bs'.Nodup->Tab H' D bs' m->Q (.ref D) H'):jt 1 (bV 0) (Hf (yG K) (bE (aH 0) gF)) σ (NK K t) H D Q:=by
 refine Cf (c8 (aS.of h.1)) (by rw[List.length_map,<-h.2.length];exact hz) hD (λx=> .lst (itemsOf H id x)) (λx hx H' Q' sm k=> ?_) (λbs' H' sm eD fr nD nn pr=> ?_)
 ·obtain⟨b,rfl,hb⟩:=om hx
  obtain⟨row,XH,eb⟩:=yH h.2 hb
  refine⟨_,rfl,b,_,rfl,.inl (aS.of (sm _ _ eb)),λl hl=>k l _ hl (az.up hl) ?_⟩
  rw[au,tu eb,List.map_id]
 ·refine hq bs' H' sm fr nD nn ⟨eD,?_⟩
  have:=xS (g:=id) h.2 pr λrow b e=>by rw[tu e,List.map_id];rfl
  rwa [List.map_id]at this
theorem Fj{H:Hp}{t:Addr}{bs:List Addr}{m:List (List Int)}(h:Tab H t bs m)(bP:bI m):∃a0 a1 a2,bs=[a0,a1,a2]/\H t=some (.lst [.ref a0,.ref a1,.ref a2])/\ ∀k,k<3-> ∃b,[a0,a1,a2][k]?=some b/\cM H b (ent m k):=by
 have hl3:bs.length=3:=by rw[<-h.2.length,bP.1]
 obtain⟨a0,a1,a2,rfl⟩:∃a0 a1 a2,bs=[a0,a1,a2]:=by
  match bs,hl3 with
  | [a,b,c],_=>exact⟨a,b,c,rfl⟩
 refine⟨a0,a1,a2,rfl,h.1,λk hk=> ?_⟩
 obtain⟨b,x1,x2,_⟩:=bf h bP hk
 refine⟨b,?_,x2⟩
 rcases aB hk with rfl|rfl|rfl<;>exact congrArg some (V.ref.inj (Option.some.inj x1))
def DW(m:List (List Int))(k l:Nat)(z:Int):List (List Int):=mk3 λi j=>if i=k/\j=l then z else ent m i j
theorem Fo(m:List (List Int)){k l i j:Nat}(z:Int)(hi:i<3)(hj:j<3):ent (DW m k l z) i j=if i=k/\j=l then z else ent m i j:=bO _ hi hj
theorem II{m:List (List Int)}{n:Nat}(h:Bd n m)(k l:Nat){z:Int}(hz:z.natAbs<2^n):Bd n (DW m k l z):=λi j hi hj=>by
 rw[Fo m z hi hj]
 split
 ·exact hz
 ·exact h i j hi hj
theorem Fp{H:Hp}{t b:Addr}{bs:List Addr}{m:List (List Int)}{k l:Nat}{z:Int}(hT:Tab H t bs m)(bP:bI m)(hk:k<3)(hl:l<3)(hn:bs.Nodup)(nt:t∉bs)(hb:ug (bs.map V.ref) (k:Int)=some (.ref b)):
  Tab (upd H b (.lst ([V.int (ent m k 0),.int (ent m k 1),.int (ent m k 2)].set l (.int z)))) t bs (DW m k l z):=by
 obtain⟨a0,a1,a2,rfl,e,rw'⟩:=Fj hT bP
 simp only[List.nodup_cons,List.mem_cons,List.not_mem_nil,or_false,not_or,not_false_eq_true,List.nodup_nil,and_true]at hn nt
 obtain⟨⟨Wg,Wh⟩,Wi⟩:=hn
 obtain⟨t0,t1,t2⟩:=nt
 obtain⟨_,q0,x2⟩:=rw' 0 (by decide)
 obtain⟨_,q1,y2⟩:=rw' 1 (by decide)
 obtain⟨_,q2,w2⟩:=rw' 2 (by decide)
 cases q0
 cases q1
 cases q2
 rcases aB hk with rfl|rfl|rfl
 ·obtain rfl:a0=b:=V.ref.inj (Option.some.inj hb)
  rcases aB hl with rfl|rfl|rfl<;>exact iw _ (by rw[aE t0];exact e) au (by rw[aE (Ne.symm Wg)];exact y2) (by rw[aE (Ne.symm Wh)];exact w2)
 ·obtain rfl:a1=b:=V.ref.inj (Option.some.inj hb)
  rcases aB hl with rfl|rfl|rfl<;>exact iw _ (by rw[aE t1];exact e) (by rw[aE Wg];exact x2) au (by rw[aE (Ne.symm Wi)];exact w2)
 ·obtain rfl:a2=b:=V.ref.inj (Option.some.inj hb)
  rcases aB hl with rfl|rfl|rfl<;>exact iw _ (by rw[aE t2];exact e) (by rw[aE Wh];exact x2) (by rw[aE Wi];exact y2) au
theorem Av{X:Cx}:QU X (λo i H Q=> ∃(p:Addr) (xs:List V) (k:Nat) (v:V),o= .ref p/\i= .int (k:Int)/\aS X.K H p xs/\xs[k]?=some v/\Q v H):=by
 intro pins s σ H o i ov iv Q I ro ri h
 obtain⟨p,xs,k,v,rfl,rfl,hq,he,q⟩:=h
 cases ro
 obtain⟨t,rfl⟩:=ri
 obtain⟨its,r,pl,hz⟩:=I.list hq
 obtain⟨w,ew,rw'⟩:=r.get he
 have hl:=r.length
 have hk:k<xs.length:=(List.getElem?_eq_some_iff.mp he).1
 have hn:=rD
 exact wpAny_getItem_list pl.isList (by omega) (by omega) (by simpa using ew) ⟨v,H,I,rw',q⟩
section
variable{X:Cx}
theorem dJ:Hh X [] NJ:=⟨LG⟩
end
theorem cI{X:Cx}{c:Expr}{a b:List Stmt}{tc:TT}{t u:TS}{pos:Pos}(hc:PT X c tc)(ha:Hh X a t)(hb:Hh X b u):PS X (.If c a b pos) (QL tc t u):=QM hc ha.h hb.h
theorem uU{J:It}{xs:List V}{H1:Hp}{σ:St}{te:TE}{Q:VK}{D:Addr}(jw:JW J H1 xs)(h3:xs.length=3)(hD:H1 D=none)(g:Nat->Nat->Int)
  (hs:∀i x,i<3->xs[i]?=some x-> ∀H' (Q':VK),az H1 H'->(∀b H2,H' b=none->az H' H2->H2 b=some (.lst [.int (g i 0),.int (g i 1),.int (g i 2)]) ->Q' (.ref b) H2) ->te (some x::σ) H' Q')
  (hq:∀bs H',az H1 H'->(∀b∈bs,H1 b=none) ->D∉bs->bs.Nodup->Tab H' D bs (mk3 g) ->Q (.ref D) H'):jt 1 (bV 0) te σ J H1 D Q:=by
 refine qE jw (by rw[h3];decide) hD (λpre acc H'=> ∃bs:List Addr,acc=bs.map V.ref/\(∀b∈bs,H1 b=none/\H' b≠none)/\D∉bs/\bs.Nodup/\Paired (λi b=>H' b=some (.lst [.int (g i 0),.int (g i 1),.int (g i 2)])) (List.range pre.length) bs) ⟨[],rfl,λ_ h=>(nomatch h),by simp,List.nodup_nil,.nil⟩ (λpre x post acc H' Q' e hl sm eD p k=> ?_) (λacc H' hl sm eD p=> ?_)
 ·obtain⟨bs,rfl,fr,nD,nn,pr⟩:=p
  have hlen:pre.length<3:=by
   have:=congrArg List.length e
   rw[h3]at this
   simp at this
   omega
  refine hs pre.length x hlen (by rw[e];simp) H' _ sm λb H2 hb s2 eb=> ?_
  have nb:b≠D:=λz=>by rw[z,eD]at hb;cases hb
  refine k _ _ s2 ⟨bs++ [b],by simp,?_,?_,?_,?_⟩
  ·intro c hc
   rcases List.mem_append.mp hc with z|z
   ·refine⟨(fr c z).1,λy=> ?_⟩
    rw[aE (λw=>nD (by rw[<-w];exact z))]at y
    exact(fr c z).2 (s2.none y)
   ·rw[List.mem_singleton.mp z]
    refine⟨sm.none hb,λy=> ?_⟩
    rw[aE nb,eb]at y
    cases y
  ·intro z
   rcases List.mem_append.mp z with z|z
   ·exact nD z
   ·exact nb (List.mem_singleton.mp z).symm
  ·rw[List.nodup_append]
   refine⟨nn,by simp,λc hc d hd z=> ?_⟩
   rw[List.mem_singleton.mp hd]at z
   exact(fr c hc).2 (by rw[z];exact hb)
  ·have er:List.range (pre++ [x]).length=List.range pre.length++ [pre.length]:=by simp[List.range_succ]
   rw[er]
   refine Paired.snoc (pr.yE λy c hc q=> ?_) (by rw[aE nb];exact eb)
   rw[aE (λz=>nD (by rw[<-z];exact hc))]
   exact s2 _ _ q
 ·obtain⟨bs,rfl,fr,nD,nn,pr⟩:=p
  refine hq bs H' sm (λb hb=>(fr b hb).1) nD nn ⟨eD,?_⟩
  rw[h3]at pr
  have UM:Paired (λi b=>H' b=some (.lst [.int (g i 0),.int (g i 1),.int (g i 2)])) [0,1,2] bs:=pr
  cases UM with
  |cons h0 t0=>cases t0 with
   |cons h1 t1=>cases t1 with
    |cons h2 t2=>
     cases t2
     exact .cons h0 (.cons h1 (.cons h2 .nil))
theorem IJ{c:Bool}{K:St->Hp->Prop}{A:Prop}{σ:St}{H:Hp}(P:St->Hp->Prop)(hK:∀σ' H',P σ' H'->K σ' H')(hA:c=true->(∀σ' H',P σ' H'->K σ' H') ->A)(hB:P σ H):if c=true then A else K σ H:=by
 cases c with
 |true=>exact uF (hA rfl hK)
 |false=>exact pK (hK _ _ hB)
theorem Aw(elt target iter c:Expr)(scope:Scope)(pos:Pos)(it acc:Value)(env:Env):
  compTurn (.ListComp elt [⟨target,iter,[c],0⟩] scope pos) 0 it acc env=(standAt iter.pos>>=λ_=>pyNext it>>=λr=>match r with
   |none=>pure (.done .next)
   |some v=>letOwnedTupleGo target it v>>=λ_=>assign target env v>>=λ_=>
    (forIn [c] true λc r=>if r=true then(do let ok<-isTrue c env (eval c env);pure (ForInStep.yield ok))else pure (ForInStep.yield r))>>=λok=>
     if ok=true then(eval elt env>>=λx=>call (.builtin "list.append") [acc,x]>>=λ_=>pure ())>>=λ_=>again (.compLoop (.ListComp elt [⟨target,iter,[c],0⟩] scope pos) 0 it acc env)
     else again (.compLoop (.ListComp elt [⟨target,iter,[c],0⟩] scope pos) 0 it acc env)):=by rfl
section
variable{prog:Program}{w:World}{A:Around}{R:Result->Shared->Prop}{s:Shared}
theorem pL{elt target iter c:Expr}{scope:Scope}{pos:Pos}{it acc:Value}{env:Env}(I:Nat->Shared->Prop)
  (turn:∀n s,I n s->wpAny (model prog w) A (pyNext it) (λr s₁=>match r with
   |none=>R (.ok .next) s₁
   |some v=>wpAny (model prog w) A (letOwnedTupleGo target it v) (λ_ s₁'=>wpAny (model prog w) A (assign target env v) (λ_ s₂=>wpAny (model prog w) A (isTrue c env (eval c env)) (λok s₂'=>
     if ok=true then wpAny (model prog w) A (eval elt env) (λx s₃=>wpAny (model prog w) A (call (.builtin "list.append") [acc,x]) (λ_ s₄=> ∃m,m<n/\I m s₄) (λ_ _=>False) s₃) (λ_ _=>False) s₂'
     else ∃m,m<n/\I m s₂') (λ_ _=>False) s₂) (λ_ _=>False) s₁') (λ_ _=>False) s₁) (λ_ _=>False) s)
  (n:Nat)(h:I n s):
  codeAny (model prog w) A (.compLoop (.ListComp elt [⟨target,iter,[c],0⟩] scope pos) 0 it acc env) R s:=by
 refine codeAny_loop rfl I (λn s hI=> ?_) n h
 show wpAny _ _ ((compTurn (.ListComp elt [⟨target,iter,[c],0⟩] scope pos) 0 it acc env).onRaise (λx=>do noteFrame x env;theTreesLotGoes x)) _ _ s
 refine wpAny_noted ?_
 rw[Aw]
 refine wpAny_bind (wpAny_standAt (wpAny_bind (wpAny_mono (turn n s hI) (λr s₁ h₁=> ?_) λ_ _ h'=>h'.elim)))
 cases r with
 |none=>exact wpAny_pure h₁
 |some v=>
  refine wpAny_bind (wpAny_mono h₁ (λ_ s₁' h₁'=>wpAny_bind (wpAny_mono h₁' (λ_ s₂ h₂=> ?_) λ_ _ h'=>h'.elim)) λ_ _ h'=>h'.elim)
  refine wpAny_bind ?_
  simp only[List.forIn_cons,List.forIn_nil,if_true]
  refine wpAny_bind (wpAny_bind (wpAny_mono h₂ (λok s₂' h₂'=>wpAny_pure (wpAny_pure ?_)) λ_ _ h'=>h'.elim))
  cases ok with
  |true=>
   rw[if_pos rfl]at h₂'
   show wpAny _ _ _ _ _ _
   refine wpAny_bind (wpAny_bind (wpAny_mono h₂' (λx s₃ h₃=>wpAny_bind (wpAny_mono h₃ (λ_ s₄ h₄=>wpAny_pure (wpAny_pure ⟨rfl,h₄⟩)) λ_ _ h'=>h'.elim)) λ_ _ h'=>h'.elim))
  |false=>
   rw[if_neg Bool.false_ne_true]at h₂'
   exact wpAny_pure ⟨rfl,h₂'⟩
end
def DX(k:Nat)(g:TG)(tt:TT)(te:TE)(σ:St)(J:It)(H1:Hp)(D:Addr)(Q:VK):Prop:=∃W:Nat->Nat->List V->St->Hp->Prop,(∃m,W 0 m [] (List.replicate k none++σ) (upd H1 D (.lst [])))/\
 ∀i m acc σ' H',W i m acc σ' H'->(J.stop i H'/\H' D=some (.lst acc)/\Q (.ref D) H')∨
  (J.go i H'/\acc.length<sizeLine/\ ∀x H2,J.wL i H' x H2->g x σ' H2 λσ3 H3=>tt σ3 H3 λb H4=>if b=true then te σ3 H4 λv H5=>H5 D=some (.lst acc)/\ ∃m',m'<m/\W (i+1) m' (acc++ [v]) σ3 (upd H5 D (.lst (acc++ [v])))else ∃m',m'<m/\W (i+1) m' acc σ3 H4)
def uV(k:Nat)(wi:TI)(g:TG)(tt:TT)(te:TE):TE:=λσ H Q=>wi σ H λJ H1=> ∀D,H1 D=none->DX k g tt te σ J H1 D Q
section
variable{X:Cx}{sc:Scope}{own N2:List Str}
theorem tw{elt iter tg c:Expr}{pos OU:Pos}{wi:TI}{g:TG}{tt:TT}{te:TE}{use:Option (Value->Sem Unit)}{Qf:Value->Shared->Prop}(hc:X.calm=true)(hi:PI X tg iter wi)(B:qu sc.names X.env.scope.names own N2 X.N)(hk:sc.kind= .function)
  (hg:∀s H fp,PG (X.comp sc (own++N2) s H fp) tg g)(ht:∀s H fp,PT (X.comp sc (own++N2) s H fp) c tt)(he:∀s H fp,PE (X.comp sc (own++N2) s H fp) elt te)
  (hs:∀x,foldedSetIterable iter X.env x=pure x){pins:List (Addr×Obj)}{s0:Shared}{σ:St}{H0:Hp}{Q:VK}(I0:Inv X pins σ H0 s0)(h0:uV own.length wi g tt te σ H0 Q)
  (OV:∀s H fp,Inv X pins σ H s->(∀b∈fp,ff X pins H b) -> ∀(σ':St) (H':Hp) (s':Shared),Inv (X.comp sc (own++N2) s H fp) [] σ' H' s'->Q (.ref s.heap.objs.size) H'->
   compPost (model X.prog X.w) X.A X.xe use Qf (.ref s.heap.objs.size) (s.heap.objs.size+1) (.ok .next) s'):
  wpAny (model X.prog X.w) X.A (comprehension (.ListComp elt [⟨tg,iter,[c],0⟩] sc pos) sc X.env OU (newList []) false (eval iter X.env) use) Qf X.xe s0:=by
 refine wpAny_comprehension_free (use:=use) rfl hs (qC I0 B) hk (λy hy hl=>cy B.nd (by rw[<-hl];exact hy)) ?_
 refine wpAny_mono (hi pins s0 σ H0 _ I0 h0) (λv s1 h1=>wpAny_mono h1 (λitv s h2=> ?_) λ_ _ e=>e) λ_ _ e=>e
 obtain⟨it,fp,tn,J,H,e,I,T,st,hf,rd⟩:=h2
 subst e
 have ho:∀b∈fp,∃o,s.heap.get? b=some o:=λb hb=>let⟨o,e,_⟩:=T.obj 0 _ st b hb;⟨o,e⟩
 obtain⟨W,⟨m0,w0⟩,turn⟩:=rd s.heap.objs.size I.fresh
 refine wpAny_newObj_type ?_
 refine kR ?_
 have IB:=Ae I B hk hf ho
 have OW:∀{H':Hp},(∀b∈fp,H' b=none) -> ∀b∈fp,ff (X.comp sc (own++N2) s H fp) [] H' b:=λhn b hb=>by
  have ok:=IB.ok
  refine⟨hn b hb,(ok.NH b hb).1,ok.BF b hb,.inl hb,λy c hc=>(ok.NH b hb).2 y c hc,λp hp=> ?_⟩
  have wH:p∈([]:List (Addr×Obj)):=hp
  cases wH
 have lt:∀b∈fp,b≠s.heap.objs.size:=λb hb=>let⟨o,e⟩:=ho b hb;Nat.ne_of_lt (Heap.lt_size e)
 have fin:=OV s H fp I hf
 have loop:∀s3:Shared,s3={s with heap:=pushCells ((s.heap.push {cls:= .type "list",dict:=none,data:= .seq ([]:List Value).toArray}).push {cls:= .type "dict",data:= .dict #[]}) sc.names} ->
   codeAny (model X.prog X.w) X.A (.compLoop (.ListComp elt [⟨tg,iter,[c],0⟩] sc pos) 0 (.ref it) (.ref s.heap.objs.size) (X.comp sc (own++N2) s H fp).env)
    (compPost (model X.prog X.w) X.A X.xe use Qf (.ref s.heap.objs.size) (s.heap.objs.size+1)) s3:=by
  rintro s3 rfl
  refine pL (λn s'=> ∃i acc σ' H',Inv (X.comp sc (own++N2) s H fp) [] σ' H' s'/\tn i s'.heap/\(∀b∈fp,H' b=none)/\W i n acc σ' H') ?_ m0
   ⟨0,[],_,_,IB,T.keep _ _ _ st λb _ o e=>pushCells_keeps _ _ b o (Heap.get?_push_of_some _ (Heap.get?_push_of_some _ e)),λb hb=> ?_,w0⟩
  ·rintro n s3 ⟨i,acc,σ3,H3,I3,st3,Lq,w3⟩
   rcases turn i n acc σ3 H3 w3 with⟨stop,hD,qn⟩|⟨go,hz,step⟩
   ·refine fN (T.done (X.comp sc (own++N2) s H fp) rfl rfl rfl hc i [] s3 σ3 H3 _ I3 (OW Lq) st3 stop) λr s4 ⟨hr,I4⟩=> ?_
    subst hr
    exact fin σ3 H3 s4 I4 qn
   ·refine fN (T.item (X.comp sc (own++N2) s H fp) rfl rfl rfl hc i [] s3 σ3 H3 _ I3 (OW Lq) st3 go) λr s4 ⟨u,hr,h4⟩=> ?_
    subst hr
    refine fN h4 λ_ s5 ⟨x,H5,I5,r5,y5,EH,QW⟩=> ?_
    have QX:=I5.pinned (OW QW) (T.obj _ _ EH)
    refine fN (hg s H fp _ s5 σ3 H5 x u _ QX r5 (step x H5 y5)) λ_ s6 ⟨HG,H6,I6,q6⟩=> ?_
    refine fN (ht s H fp _ s6 HG H6 _ I6 q6) λok XI ⟨XJ,SI,SJ⟩=> ?_
    cases ok with
    |false=>
     rw[if_neg Bool.false_ne_true]at SJ ⊢
     obtain⟨m',hm',w7⟩:=SJ
     refine⟨m',hm',i+1,acc,HG,_,SI.ig,T.keep _ _ _ EH λb hb o e=>(SI.pin (b,o) (List.mem_append_right _ (List.mem_append_right _ (bC hb e)))).1,λb hb=> ?_,w7⟩
     obtain⟨o,e,d⟩:=T.obj _ _ EH b hb
     exact(SI.pin (b,o) (List.mem_append_right _ (List.mem_append_right _ (bC hb e)))).2.1
    |true=>
    rw[if_pos rfl]at SJ ⊢
    refine fN (he s H fp _ XI HG XJ _ SI SJ) λv s7 ⟨y,H7,I7,r7,Qn,m',hm',w7⟩=> ?_
    refine fN (iO _ s7 HG H7 (.ref s.heap.objs.size) [y] (.ref s.heap.objs.size) [v] (λz H8=>z= .gP/\H8=upd H7 s.heap.objs.size (.lst (acc++ [y]))) I7 rfl (.cons r7 .nil) ⟨s.heap.objs.size,acc,y,rfl,rfl,Qn,hz,rfl,rfl⟩) λz s8 ⟨zz,H8,I8,_,_,e8⟩=> ?_
    subst e8
    refine⟨m',hm',i+1,acc++ [y],HG,_,I8.ig,T.keep _ _ _ EH λb hb o e=>(I8.pin (b,o) (List.mem_append_right _ (List.mem_append_right _ (bC hb e)))).1,λb hb=> ?_,w7⟩
    obtain⟨o,e,d⟩:=T.obj _ _ EH b hb
    exact(I8.pin (b,o) (List.mem_append_right _ (List.mem_append_right _ (bC hb e)))).2.1
  ·rw[aE (lt b hb)]
   exact(hf b hb).1
 have e1:(s.heap.push {cls:= .type "list",dict:=none,data:= .seq ([]:List Value).toArray}).objs.size=s.heap.objs.size+1:=Heap.size_push ..
 dsimp only
 rw[e1]
 exact codeAny_compStart_list (loop _ rfl) (T.self _ 0 _ _ _ (T.keep _ _ _ st λb _ o e=>pushCells_keeps _ _ b o (Heap.get?_push_of_some _ (Heap.get?_push_of_some _ e))) (loop _ rfl))
theorem Fq{elt iter tg c:Expr}{pos:Pos}{wi:TI}{g:TG}{tt:TT}{te:TE}(hc:X.calm=true)(hi:PI X tg iter wi)(B:qu sc.names X.env.scope.names own N2 X.N)(hk:sc.kind= .function)
  (hg:∀s H fp,PG (X.comp sc (own++N2) s H fp) tg g)(ht:∀s H fp,PT (X.comp sc (own++N2) s H fp) c tt)(he:∀s H fp,PE (X.comp sc (own++N2) s H fp) elt te)
  (hs:∀x,foldedSetIterable iter X.env x=pure x:=by intro _;rfl):PE X (.ListComp elt [⟨tg,iter,[c],0⟩] sc pos) (uV own.length wi g tt te):=by
 intro pins s0 σ H0 Q I0 h0
 rw[eval_ListComp]
 refine tw (use:=none) hc hi B hk hg ht he hs I0 h0 λs H fp I hf σ' H' s' JB q=> ?_
 obtain⟨m,hn,_⟩:=JB.loc
 exact⟨m,hn,λh' sb=>⟨.ref s.heap.objs.size,H',I.DI (I.yy hf JB) JB.free sb,rfl,q⟩⟩
theorem Ft{i:Nat}{y:Str}{py spos:Pos}{elt iter tg c:Expr}{pos:Pos}{wi:TI}{g:TG}{tt:TT}{te:TE}(hN:X.N.Nodup)(hi':X.N[i]?=some y)(hy:X.env.scope.names.lookup y=some .local)(hc:X.calm=true)(hi:PI X tg iter wi)(B:qu sc.names X.env.scope.names own N2 X.N)(hk:sc.kind= .function)
  (hg:∀s H fp,PG (X.comp sc (own++N2) s H fp) tg g)(ht:∀s H fp,PT (X.comp sc (own++N2) s H fp) c tt)(he:∀s H fp,PE (X.comp sc (own++N2) s H fp) elt te)
  (hsw:swapsWith (.ListComp elt [⟨tg,iter,[c],0⟩] sc pos) (some (.Name y py)) spos.line X.env=pure true:=by rfl)(hs:∀x,foldedSetIterable iter X.env x=pure x:=by intro _;rfl):
  PS X (.Assign [.Name y py] (.ListComp elt [⟨tg,iter,[c],0⟩] sc pos) spos) (zZ (uV own.length wi g tt te) (bV i)):=by
 intro pins s0 σ H0 D I0 h0
 rw[exec_Assign_Name_used _ _ _ _ hsw]
 refine wpAny_bind (wpAny_standAt (wpAny_bind ?_))
 show wpAny _ X.A (do let _<-comprehension (.ListComp elt [⟨tg,iter,[c],0⟩] sc pos) sc X.env _ (newList []) false (eval iter X.env) (some (assign (.Name y py) X.env))) _ _ s0
 refine wpAny_bind (wpAny_mono (tw (use:=some (assign (.Name y py) X.env)) (Qf:=λ_ s'=>SP X pins D .next s') hc hi B hk hg ht he hs I0 h0 λs H fp I hf σ' H' s' JB q=> ?_) (λ_ s' hq=>wpAny_pure (wpAny_pure hq)) λ_ _ e=>e)
 have IX:=I.yy hf JB
 refine wpAny_assign_Name (rB IX hN hi' (.inl hy) (v:= .ref s.heap.objs.size) rfl (λs2 I2 ⟨a,Qo,ha⟩=> ?_) (.inr hy))
 obtain⟨m,hn,_⟩:=JB.loc
 have ea:a=X.env.locals∨a<s.heap.objs.size:=by
  rcases ha with z|z
  ·exact .inl z
  ·obtain⟨v,w⟩:=I.cell y a z
   exact .inr w.lt
 have NI:s.heap.objs.size+1≠a:=by
  rcases ea with z|z
  ·rw[z];exact Nat.ne_of_gt (Nat.lt_succ_of_lt I.lt)
  ·exact Nat.ne_of_gt (Nat.lt_succ_of_lt z)
 refine⟨m,hn.sameBut Qo NI,λh' sb=>⟨_,H',I.DI I2 JB.free sb,q⟩⟩
end
section
variable{X:Cx}{sc:Scope}{N2:List Str}{x:Str}{px:Pos}{elt iter c:Expr}{pos:Pos}{wi:TI}{tt:TT}{te:TE}
theorem pB(hc:X.calm=true)(hi:PI X (.Name x px) iter wi)(hB:yw sc.names X.env.scope.names [x] N2 X.N=true)(hk:sc.kind= .function)(ht:∀s H fp,PT (X.comp sc ([x]++N2) s H fp) c tt)(he:∀s H fp,PE (X.comp sc ([x]++N2) s H fp) elt te)
  (hs:∀x,foldedSetIterable iter X.env x=pure x:=by intro _;rfl):PE X (.ListComp elt [⟨.Name x px,iter,[c],0⟩] sc pos) (uV 1 wi (bV 0) tt te):=
 Fq (own:=[x]) hc hi (jr hB) hk (λs H fp=>uh (jr hB) s H fp) ht he hs
theorem qM{i:Nat}{y:Str}{py spos:Pos}(hN:X.N.Nodup)(hi':X.N[i]?=some y)(hy:X.env.scope.names.lookup y=some .local)(hc:X.calm=true)(hi:PI X (.Name x px) iter wi)(hB:yw sc.names X.env.scope.names [x] N2 X.N=true)(hk:sc.kind= .function)(ht:∀s H fp,PT (X.comp sc ([x]++N2) s H fp) c tt)(he:∀s H fp,PE (X.comp sc ([x]++N2) s H fp) elt te)
  (hsw:swapsWith (.ListComp elt [⟨.Name x px,iter,[c],0⟩] sc pos) (some (.Name y py)) spos.line X.env=pure true:=by rfl)(hs:∀x,foldedSetIterable iter X.env x=pure x:=by intro _;rfl):
  PS X (.Assign [.Name y py] (.ListComp elt [⟨.Name x px,iter,[c],0⟩] sc pos) spos) (zZ (uV 1 wi (bV 0) tt te) (bV i)):=
 Ft (own:=[x]) hN hi' hy hc hi (jr hB) hk (λs H fp=>uh (jr hB) s H fp) ht he hsw hs
end
theorem dM{J:It}{H1:Hp}{xs:List V}{σ:St}{tt:TT}{te:TE}{Q:VK}(jw:JW J H1 xs)(hz:xs.length<=sizeLine){D:Addr}(hD:H1 D=none)(p:V->Bool)(f:V->V)
  (ht:∀x∈xs,∀H' (R:Bool->Hp->Prop),az H1 H'->(∀H2,az H' H2->R (p x) H2) ->tt (some x::σ) H' R)
  (hs:∀x∈xs,p x=true-> ∀H' (Q':VK),az H1 H'->(∀H2,az H' H2->Q' (f x) H2) ->te (some x::σ) H' Q')
  (hq:∀H',az H1 H'->H' D=some (.lst ((xs.filter p).map f)) ->Q (.ref D) H'):DX 1 (bV 0) tt te σ J H1 D Q:=by
 refine⟨λi m acc σ' H'=>m=xs.length-i/\i<=xs.length/\acc=((xs.take i).filter p).map f/\(∃o,σ'=o::σ)/\az H1 H'/\H' D=some (.lst acc),⟨xs.length,rfl,Nat.zero_le _,by simp,⟨none,rfl⟩,az.up hD,au⟩,?_⟩
 rintro i m acc σ' H' ⟨rfl,hi,rfl,⟨o,rfl⟩,sm,eD⟩
 by_cases hlt:i<xs.length
 ·refine .inr ⟨jw.go i H' sm hlt,?_,λx H2 y=> ?_⟩
  ·rw[List.length_map]
   have:=List.length_filter_le p (xs.take i)
   rw[List.length_take]at this
   omega
  ·obtain⟨e2,ex⟩:=jw.wL i H' x H2 sm hlt y
   subst e2
   have hx:x∈xs:=List.mem_of_getElem? ex
   have tk:xs.take (i+1)=xs.take i++ [x]:=by rw[List.take_add_one,ex];rfl
   refine ht x hx H2 _ sm λH3 s3=> ?_
   cases hp:p x with
   |false=>
    rw[if_neg Bool.false_ne_true]
    exact⟨xs.length- (i+1),by omega,rfl,by omega,by rw[tk,List.filter_append];simp[hp],⟨_,rfl⟩,sm.trans s3,s3 _ _ eD⟩
   |true=>
    rw[if_pos rfl]
    refine hs x hx hp H3 _ (sm.trans s3) λH4 s4=>⟨s4 _ _ (s3 _ _ eD),xs.length- (i+1),by omega,rfl,by omega,by rw[tk,List.filter_append];simp[hp],⟨_,rfl⟩,((sm.trans s3).trans s4).upd hD,au⟩
 ·obtain rfl:i=xs.length:=by omega
  rw[List.take_length]at eD ⊢
  exact .inl ⟨jw.stop H' sm,eD,hq H' sm eD⟩
end L2
namespace L2
theorem tP{X:Cx}{e:PySem.Expr}{t:TT}(h:PT X e t):PT X e t:=h
end L2
namespace L2
open PySem PySem.Spec PyProof.Rows
def gX(H:Hp)(B:Addr):Prop:=∃g s:Int,H B=some (.lst [.int g,.int s])/\0<=g/\0<=s
def SB(B:Addr)(H H':Hp):Prop:=(∀a o,a≠B->H a=some o->H' a=some o)/\gX H' B
theorem SB.refl{B:Addr}{H:Hp}(h:gX H B):SB B H H:=⟨λ_ _ _ e=>e,h⟩
theorem SB.trans{B:Addr}{H H' Wj:Hp}(h:SB B H H')(h':SB B H' Wj):SB B H Wj:=⟨λa o n e=>h'.1 a o n (h.1 a o n e),h'.2⟩
theorem gX.same{H H':Hp}{B:Addr}(h:gX H B)(s:az H H'):gX H' B:=by
 obtain⟨g,t,e,r⟩:=h
 exact⟨g,t,s _ _ e,r⟩
theorem SB.of{B:Addr}{H H':Hp}(b:gX H B)(s:az H H'):SB B H H':=⟨λa o _ e=>s _ _ e,b.same s⟩
theorem SB.gone{B:Addr}{H H':Hp}(h:SB B H H'){r:Addr}(e:H' r=none):H r=none:=by
 cases q:H r with
 |none=>rfl
 |some o=>
  by_cases z:r=B
  ·obtain⟨g,t,e2,_⟩:=h.2
   rw[<-z,e]at e2
   cases e2
  ·rw[h.1 r o z q]at e
   cases e
theorem SB.ne{B:Addr}{H H':Hp}(h:SB B H H'){r:Addr}(e:H' r=none):r≠B:=λz=>by
 obtain⟨g,t,e2,_⟩:=h.2
 rw[<-z,e]at e2
 cases e2
theorem gX.ne{H:Hp}{B r:Addr}(h:gX H B)(e:H r=none):r≠B:=(SB.refl h).ne e
theorem Tab.sb{B:Addr}{H H':Hp}{t:Addr}{bs:List Addr}{m:List (List Int)}(h:Tab H t bs m)(s:SB B H H')(nt:t≠B)(nb:B∉bs):Tab H' t bs m:=
 ⟨s.1 _ _ nt h.1,h.2.yE λr b hb e=>s.1 _ _ (λz=>nb (by rw[<-z];exact hb)) e⟩
theorem SB.seq{K:PySem.W.Frag}{B:Addr}{H H':Hp}{a:Addr}{xs:List V}(h:SB B H H')(n:a≠B)(q:aS K H a xs):aS K H' a xs:=by
 rcases q with(q|⟨o,q⟩)|q
 ·exact .inl (.inl (h.1 _ _ n q))
 ·exact .inl (.inr ⟨o,h.1 _ _ n q⟩)
 ·exact .inr q
theorem IK{B:Addr}{H:Hp}{g s:Int}(hg:0<=g)(hs:0<=s):SB B H (upd H B (.lst [.int g,.int s])):=
 ⟨λa o n e=>by rw[aE n];exact e,g,s,au,hg,hs⟩
end L2
namespace L2
theorem log2_small{z:Int}(h0:0<=z)(h:z<2^60):z.natAbs.log2<9000:=by
 by_cases hz:z.natAbs=0
 ·rw[hz];decide
 ·have:z.natAbs<2^60:=by omega
  exact Nat.lt_trans ((Nat.log2_lt hz).mpr this) (by decide)
end L2
namespace L2
open PySem PySem.Spec PyProof.Rows
theorem IL(m:List (List Int)){i j:Nat}(hi:i<3)(hj:j<3)(hij:i≠j):aX (qK (qK m i λs=>ent m j s) j λs=>0-ent m i s)=aX m:=by
 rw[cZ,cZ]
 simp only[cO _ _ (show 0<3 by decide) (show 0<3 by decide),cO _ _ (show 0<3 by decide) (show 1<3 by decide),cO _ _ (show 0<3 by decide) (show 2<3 by decide),cO _ _ (show 1<3 by decide) (show 0<3 by decide),cO _ _ (show 1<3 by decide) (show 1<3 by decide),cO _ _ (show 1<3 by decide) (show 2<3 by decide),cO _ _ (show 2<3 by decide) (show 0<3 by decide),cO _ _ (show 2<3 by decide) (show 1<3 by decide),cO _ _ (show 2<3 by decide) (show 2<3 by decide)]
 rcases aB hi with rfl|rfl|rfl<;>rcases aB hj with rfl|rfl|rfl<;>first|(exact absurd rfl hij)|(simp only[Nat.reduceEqDiff,if_true,if_false];grind)
theorem SB.tQ{B D:Addr}{H H':Hp}{o:HO}(h:SB B H H')(f:H D=none)(n:D≠B):SB B H (upd H' D o):=by
 refine⟨λa u na e=> ?_,?_⟩
 ·rw[aE (λz=>by rw[z,f]at e;cases e)]
  exact h.1 a u na e
 ·obtain⟨g,s,e,r⟩:=h.2
  exact⟨g,s,by rw[aE (Ne.symm n)];exact e,r⟩
theorem Fv{X:Cx}(hc:X.calm=true):nZ X (.builtin "min") (λxs H Q=> ∃i j k,xs=[.int i,.int j,.int k]/\Q (.int (if j<i then(if k<j then k else j)else(if k<i then k else i))) H):=by
 intro pins s σ H xs us Q I r h
 obtain⟨i,j,k,rfl,q⟩:=h
 cases r with
 |cons r1 r=>cases r with
  |cons r2 r=>cases r with
   |cons r3 r=>
    cases r
    obtain⟨t1,rfl⟩:=r1
    obtain⟨t2,rfl⟩:=r2
    obtain⟨t3,rfl⟩:=r3
    refine min_three_ints (I.ok.hd hc) λh' tk kp=>⟨_,H,I.kept kp,?_,q⟩
    by_cases h1:j<i<;>by_cases h2:k<j<;>by_cases h3:k<i<;>simp only[h1,h2,h3,if_true,if_false]<;>exact⟨_,rfl⟩
theorem Ax{m:List (List Int)}(h:cj m):∃k,aX m=2*k:=by
 obtain⟨⟨s1,s2,s3⟩,a,b,c,e1,e2,e3⟩:=h
 refine⟨4*(a*b*c)+ent m 0 1*ent m 0 2*ent m 1 2-a*(ent m 1 2*ent m 1 2) -b*(ent m 0 2*ent m 0 2) -c*(ent m 0 1*ent m 0 1),?_⟩
 rw[cZ,s1,s2,s3,e1,e2,e3]
 grind
theorem Ay{H:Hp}{t r:Addr}{bs:List Addr}{m:List (List Int)}{row:List Int}(h:Tab H t bs m)(nt:t∉bs)(hr:H r=some (.lst (row.map V.int)))(nr:r≠t):Tab (upd H t (.lst (bs.map V.ref++ [.ref r]))) t (bs++ [r]) (m++ [row]):=by
 refine⟨by rw[au];simp,Paired.snoc (h.2.yE λy b hb e=> ?_) (by rw[aE nr];exact hr)⟩
 rw[aE (λz=>nt (by rw[<-z];exact hb))]
 exact e
def lY(k:Nat):List (List Int):=[0,0,1]::(List.range k).map λ (a:Nat)=>[0,1,(a:Int)]
def f7(p k:Nat):List (List Int):=lY p++(List.range k).map λ (a:Nat)=>[1,((a/p:Nat):Int),((a%p:Nat):Int)]
theorem Cg(k:Nat):lY (k+1)=lY k++ [[0,1,(k:Int)]]:=by simp[lY,List.range_succ]
theorem Ci(p k:Nat):f7 p (k+1)=f7 p k++ [[1,((k/p:Nat):Int),((k%p:Nat):Int)]]:=by simp[f7,List.range_succ]
theorem rL(k:Nat):(lY k).length=k+1:=by simp[lY]
theorem rM(p k:Nat):(f7 p k).length=p+1+k:=by simp[f7,rL]
theorem tD{H:Hp}{pf:V->Bool}{g:List Int->Bool}:∀{m:List (List Int)} {bs:List Addr},Paired (λrow b=>H b=some (.lst (row.map V.int))) m bs->(∀row b,row∈m->H b=some (.lst (row.map V.int)) ->pf (.ref b)=g row) ->
  ∃bs':List Addr,(bs.map V.ref).filter pf=bs'.map V.ref/\(∀b∈bs',b∈bs)/\Paired (λrow b=>H b=some (.lst (row.map V.int))) (m.filter g) bs'
 |_,_,.nil,_=>⟨[],rfl,λ_ h=>h,.nil⟩
 |_,_,.cons (a:=row) (b:=b) h t,k=>by
  obtain⟨bs',e,i,pr⟩:=tD t λrow b hm=>k row b (List.mem_cons_of_mem _ hm)
  have q:=k row b List.mem_cons_self h
  rw[List.map_cons,List.filter_cons,List.filter_cons,q]
  cases g row with
  |true=>
   refine⟨b::bs',by simp[e],λc hc=> ?_,by simpa using .cons h pr⟩
   rcases List.mem_cons.mp hc with z|z
   ·rw[z];exact List.mem_cons_self
   ·exact List.mem_cons_of_mem _ (i c z)
  |false=>exact⟨bs',by simpa using e,λc hc=>List.mem_cons_of_mem _ (i c hc),by simpa using pr⟩
def je(m:List (List Int))(p:Int):List (List Int):=mk3 λi j=>ent m i j%p
theorem Fw{m:List (List Int)}(h:cj m){p:Int}(hp:0<p):cj (je m (2*p)):=by
 obtain⟨⟨s1,s2,s3⟩,a,b,c,e1,e2,e3⟩:=h
 have k:∀z:Int,2*z%(2*p)=2*(z%p):=λz=>Int.mul_emod_mul_of_pos (a:=2) z p (by decide)
 refine⟨⟨?_,?_,?_⟩,a%p,b%p,c%p,?_,?_,?_⟩
 ·unfold je;rw[bO _ (by decide) (by decide),bO _ (by decide) (by decide),s1]
 ·unfold je;rw[bO _ (by decide) (by decide),bO _ (by decide) (by decide),s2]
 ·unfold je;rw[bO _ (by decide) (by decide),bO _ (by decide) (by decide),s3]
 ·unfold je;rw[bO _ (by decide) (by decide),e1,k]
 ·unfold je;rw[bO _ (by decide) (by decide),e2,k]
 ·unfold je;rw[bO _ (by decide) (by decide),e3,k]
theorem Fx{m:List (List Int)}(h:cj m){p:Int}(hp:0<p)(x:Nat->Int):aL (je m (2*p)) x%p=aL m x%p:=by
 have e1:=gw (Fw h hp) x
 have e2:=gw h x
 have d:∀i j,i<3->j<3-> ∃q,ent m i j=ent (je m (2*p)) i j+2*p*q:=λi j hi hj=>by
  unfold je
  rw[bO _ hi hj]
  exact⟨ent m i j/(2*p),(Int.emod_add_mul_ediv _ _).symm⟩
 obtain⟨SK,XM⟩:=d 0 0 (by decide) (by decide)
 obtain⟨Wl,XN⟩:=d 0 1 (by decide) (by decide)
 obtain⟨Rx,XO⟩:=d 0 2 (by decide) (by decide)
 obtain⟨Wm,XQ⟩:=d 1 0 (by decide) (by decide)
 obtain⟨SM,XR⟩:=d 1 1 (by decide) (by decide)
 obtain⟨Ry,XS⟩:=d 1 2 (by decide) (by decide)
 obtain⟨Wn,XT⟩:=d 2 0 (by decide) (by decide)
 obtain⟨Wo,XU⟩:=d 2 1 (by decide) (by decide)
 obtain⟨SN,XW⟩:=d 2 2 (by decide) (by decide)
 have e:bH m x x=bH (je m (2*p)) x x+2*(p*(x 0*SK*x 0+x 0*Wl*x 1+x 0*Rx*x 2+x 1*Wm*x 0+x 1*SM*x 1+x 1*Ry*x 2+x 2*Wn*x 0+x 2*Wo*x 1+x 2*SN*x 2)):=by
  rw[cN,cN,XM,XN,XO,XQ,XR,XS,XT,XU,XW]
  grind
 have f:aL m x=aL (je m (2*p)) x+p*(x 0*SK*x 0+x 0*Wl*x 1+x 0*Rx*x 2+x 1*Wm*x 0+x 1*SM*x 1+x 1*Ry*x 2+x 2*Wn*x 0+x 2*Wo*x 1+x 2*SN*x 2):=by omega
 rw[f,Int.add_mul_emod_self_left]
def ao(r:List Int):Nat->Int:=λi=>r.getD i 0
theorem xX{p k:Nat}(hp:p<14)(hk:k<=169){r:List Int}(h:r∈f7 p k):r=[ao r 0,ao r 1,ao r 2]/\ ∀i,(ao r i).natAbs<2^10:=by
 unfold f7 lY at h
 simp only[List.mem_append,List.mem_cons,List.mem_map,List.mem_range]at h
 rcases h with(rfl|⟨a,ha,rfl⟩)|⟨a,ha,rfl⟩
 ·refine⟨rfl,λi=> ?_⟩
  match i with
  |0=>show(0:Int).natAbs<2^10;decide
  |1=>show(0:Int).natAbs<2^10;decide
  |2=>show(1:Int).natAbs<2^10;decide
  |_+3=>show(0:Int).natAbs<2^10;decide
 ·refine⟨rfl,λi=> ?_⟩
  match i with
  |0=>show(0:Int).natAbs<2^10;decide
  |1=>show(1:Int).natAbs<2^10;decide
  |2=>show((a:Int)).natAbs<2^10;omega
  |_+3=>show(0:Int).natAbs<2^10;decide
 ·refine⟨rfl,λi=> ?_⟩
  have h1:a/p<=a:=Nat.div_le_self _ _
  have h2:a%p<=a:=Nat.mod_le _ _
  match i with
  |0=>show(1:Int).natAbs<2^10;decide
  |1=>
   show(((a/p:Nat):Int)).natAbs<2^10
   rw[Int.natAbs_natCast]
   exact Nat.lt_of_le_of_lt h1 (by omega)
  |2=>
   show(((a%p:Nat):Int)).natAbs<2^10
   rw[Int.natAbs_natCast]
   exact Nat.lt_of_le_of_lt h2 (by omega)
  |_+3=>show(0:Int).natAbs<2^10;decide
section
variable{X:Cx}{sc:Scope}{N2:List Str}{x y:Str}{px BB tpos:Pos}{x1:Nat}{elt iter:Expr}{gb p pos:Pos}{wi:TI}{te:TE}{P:Addr}
theorem DY{B:Around}(hc:X.calm=true)(Bk:qu sc.names X.env.scope.names [x,y] N2 X.N)(hnc:∀y∈sc.names,y.2≠ .cell)(code:Value)(s:Shared)(H:Hp)(fp:List Addr):PG (X.gen B sc ([x,y]++N2) code s H fp) (.Tuple [.Name x px,.Name y BB] x1 tpos) (g2 X.K):=
 BG (X:=X.gen B sc ([x,y]++N2) code s H fp) hc (cK (DS (i:=0) Bk hnc rfl code s H fp) (cK (DS (i:=1) Bk hnc rfl code s H fp) kP))
theorem Mh(hc:X.calm=true)(hr:X.A.depth<recursionLimit)(cd:fY X.K X.env.code P)(bm:BM X.mg X.base)(Aj:Gl X "sum")(hm:X.mg "sum"=none)(hi:PI X (.Tuple [.Name x px,.Name y BB] x1 tpos) iter wi)(hB:BY sc X.env.scope.names [x,y] N2 X.N=true)
  (he:∀code s H fp,PE (X.gen X.A.in1.in1 sc ([x,y]++N2) code s H fp) elt te)
  (hs:∀x,genFold iter X.env x=pure x:=by intro _;rfl)(hst:starEach [.GeneratorExp elt [⟨.Tuple [.Name x px,.Name y BB] x1 tpos,iter,[],0⟩] sc gb] X.env=[(false,eval (.GeneratorExp elt [⟨.Tuple [.Name x px,.Name y BB] x1 tpos,iter,[],0⟩] sc gb) X.env)]:=by rfl):
  PE X (.Call (.Name "sum" p) [.GeneratorExp elt [⟨.Tuple [.Name x px,.Name y BB] x1 tpos,iter,[],0⟩] sc gb] [] pos) (DK 2 P wi (g2 X.K) te):=
 have K:=oh hc hr cd bm hB
 DL (own:=[x,y]) K Aj hm hi (λcode s H fp=>DY hc K.LW K.nc code s H fp) he hs hst
theorem Mi(hc:X.calm=true)(hr:X.A.depth<recursionLimit)(cd:fY X.K X.env.code P)(bm:BM X.mg X.base)(Aj:Gl X "any")(hm:X.mg "any"=none)(hi:PI X (.Tuple [.Name x px,.Name y BB] x1 tpos) iter wi)(hB:BY sc X.env.scope.names [x,y] N2 X.N=true)
  (he:∀code s H fp,PE (X.gen X.A.in1.in1 sc ([x,y]++N2) code s H fp) elt te)
  (hs:∀x,genFold iter X.env x=pure x:=by intro _;rfl)(hst:starEach [.GeneratorExp elt [⟨.Tuple [.Name x px,.Name y BB] x1 tpos,iter,[],0⟩] sc gb] X.env=[(false,eval (.GeneratorExp elt [⟨.Tuple [.Name x px,.Name y BB] x1 tpos,iter,[],0⟩] sc gb) X.env)]:=by rfl):
  PE X (.Call (.Name "any" p) [.GeneratorExp elt [⟨.Tuple [.Name x px,.Name y BB] x1 tpos,iter,[],0⟩] sc gb] [] pos) (NZ 2 P wi (g2 X.K) te):=
 have K:=oh hc hr cd bm hB
 LY (own:=[x,y]) K Aj hm hi (λcode s H fp=>DY hc K.LW K.nc code s H fp) he hs hst
end
theorem DZ{K:PySem.W.Frag}{H1:Hp}{a b:Addr}{xs ys:List V}{σ:St}{te:TE}{F:Nat->(Nat->V->Prop) ->(Nat->St->Hp->Prop) ->Prop}(ha:aS K H1 a xs)(hb:aS K H1 b ys)(hl:xs.length=ys.length)(R:Nat->V->Prop)
  (hs:∀(i:Nat) x y,xs[i]?=some x->ys[i]?=some y-> ∀H' (Q':VK),az H1 H'->(∀v H2,R i v->az H' H2->Q' v H2) ->te (some x::some y::σ) H' Q')
  (hF:F xs.length R (λ_ σ' H'=>(∃o o',σ'=o::o'::σ)/\az H1 H')):uL 2 (g2 K) te σ F (Qs K a b) H1:=by
 refine⟨xs.length,R,_,⟨⟨none,none,rfl⟩,az.refl _⟩,λi σ' H' hi w=> ?_,λσ' H' w=>⟨xs,ys,w.2.seq ha,w.2.seq hb,.inl (Nat.le_refl _)⟩,hF⟩
 obtain⟨⟨o,o',rfl⟩,sm⟩:=w
 have hi':i<ys.length:=by omega
 refine⟨⟨xs,ys,xs[i],ys[i],sm.seq ha,sm.seq hb,by simp[hi],by simp[hi']⟩,λv H2 yl=> ?_⟩
 obtain⟨T,x,y,rfl,hT,hx,hy,rfl⟩:=yl
 have ex:=hx xs (sm.seq ha)
 have ey:=hy ys (sm.seq hb)
 have s2:az H' (upd H' T (.tup [x,y])):=az.up hT
 refine⟨T,[x,y],rfl,pN.of au,rfl,x,[y],rfl,y,[],rfl,rfl,?_⟩
 show te (some x::some y::σ) _ _
 exact hs i x y ex ey _ _ (sm.trans s2) λv H3 r s3=>⟨r,⟨_,_,rfl⟩,(sm.trans s2).trans s3⟩
theorem Mj{K:PySem.W.Frag}{H1:Hp}{a b:Addr}{xs ys:List V}{σ:St}{te:TE}{Q:VK}{P:Addr}(ha:aS K H1 a xs)(hb:aS K H1 b ys)(hl:xs.length=ys.length)(hP:H1 P=some (bN P))(val:Nat->Int)
  (hs:∀(i:Nat) x y,xs[i]?=some x->ys[i]?=some y-> ∀H' (Q':VK),az H1 H'->(∀H2,az H' H2->Q' (.int (val i)) H2) ->te (some x::some y::σ) H' Q')
  (hq:∀H',az H1 H'->Q (.int (preSum val xs.length)) H'):Ih 2 P (g2 K) te σ (Qs K a b) H1 Q:=
 ⟨hP,DZ ha hb hl (λi v=>v= .int (val i)) (λi x y ex ey H' Q' sm k=>hs i x y ex ey H' Q' sm λH2 s2=>k _ _ rfl s2) ⟨val,λi v _ r=>r,λσ' H' w=>hq H' w.2⟩⟩
theorem Rz{c A B:Prop} [Decidable c](hc:c)(h:A):if c then A else B:=by
 rw[if_pos hc]
 exact h
theorem UQ{c A B:Prop} [Decidable c](hc:¬c)(h:B):if c then A else B:=by
 rw[if_neg hc]
 exact h
section
variable{X:Cx}{sc:Scope}{N2:List Str}{x:Str}{px:Pos}{elt iter:Expr}{gb p pos:Pos}{wi:TI}{te:TE}{P:Addr}
end
theorem Ml{K:PySem.W.Frag}{H1:Hp}{a b:Addr}{xs ys:List V}{σ:St}{te:TE}{Q:VK}{P:Addr}(ha:aS K H1 a xs)(hb:aS K H1 b ys)(hl:xs.length=ys.length)(hP:H1 P=some (bN P))(bv:Nat->Bool)
  (hs:∀(i:Nat) x y,xs[i]?=some x->ys[i]?=some y-> ∀H' (Q':VK),az H1 H'->(∀H2,az H' H2->Q' (.bl (bv i)) H2) ->te (some x::some y::σ) H' Q')
  (hq:∀b H',az H1 H'->(b=true↔ ∃j,j<xs.length/\bv j=true) ->Q (.bl b) H'):NY 2 P (g2 K) te σ (Qs K a b) H1 Q:=
 ⟨hP,DZ ha hb hl (λi v=>v= .bl (bv i)) (λi x y ex ey H' Q' sm k=>hs i x y ex ey H' Q' sm λH2 s2=>k _ _ rfl s2) ⟨bv,λi v _ r=>r,λhb σ' H' w=>hq _ H' w.2 ⟨λz=>(by cases z),λ ⟨j,hj,z⟩=>by rw[hb j hj]at z;cases z⟩,
  λj hj hb _ σ' H' w=>hq _ H' w.2 ⟨λ_=>⟨j,hj,hb⟩,λ_=>rfl⟩⟩⟩
def p5(lo:Int)(n:Nat):List V:=(List.range n).map λ (i:Nat)=>V.int (lo+(i:Int))
theorem mQ{lo:Int}{n:Nat}:(p5 lo n).length=n:=by simp[p5]
theorem uW{lo:Int}{n k:Nat}{x:V}(h:(p5 lo n)[k]?=some x):k<n/\x= .int (lo+(k:Int)):=by
 unfold p5 at h
 rw[List.getElem?_map]at h
 have hk:k<n:=by
  rcases Nat.lt_or_ge k n with z|z
  ·exact z
  ·rw[List.getElem?_eq_none (by simpa using z)]at h;cases h
 rw[List.getElem?_range hk]at h
 exact⟨hk,(Option.some.inj h).symm⟩
theorem Fy{H1:Hp}{lo:Int}{n:Nat}:JW (Dz lo n) H1 (p5 lo n) where
 go:=λi H' s hi=>by rw[mQ]at hi;exact hi
 wL:=λi H' x H2 s hi ⟨e,y⟩=>⟨e,by
  rw[mQ]at hi
  subst y
  unfold p5
  rw[List.getElem?_map,List.getElem?_range hi]
  rfl⟩
 stop:=λH' s=>by rw[mQ];exact Nat.le_refl _
theorem lZ{p:Int}(hp:p∈([3,5,7,11,13]:List Int)){n h:Int}(hh:h%p≠0):(n*h)%p=0↔n%p=0:=by
 have key:∀q∈([3,5,7,11,13]:List Nat),∀a<q,∀b<q,b≠0->(a*b)%q=0->a=0:=by decide
 have p0:0<p:=by
  simp only[List.mem_cons,List.not_mem_nil,or_false]at hp
  omega
 obtain⟨q,rfl⟩:∃q:Nat,p=(q:Int):=⟨p.toNat,by omega⟩
 have hq:q∈([3,5,7,11,13]:List Nat):=by
  simp only[List.mem_cons,List.not_mem_nil,or_false]at hp ⊢
  omega
 constructor
 ·intro e
  rw[Int.mul_emod]at e
  have a0:=Int.emod_nonneg n (show(q:Int)≠0 by omega)
  have b0:=Int.emod_nonneg h (show(q:Int)≠0 by omega)
  have a1:=Int.emod_lt_of_pos n p0
  have b1:=Int.emod_lt_of_pos h p0
  obtain⟨a,ea⟩:∃a:Nat,n%(q:Int)=(a:Int):=⟨(n%(q:Int)).toNat,by omega⟩
  obtain⟨b,eb⟩:∃b:Nat,h%(q:Int)=(b:Int):=⟨(h%(q:Int)).toNat,by omega⟩
  rw[ea,eb]at e
  have e':(a*b)%q=0:=by exact_mod_cast e
  have:=key q hq a (by omega) b (by omega) (by omega) e'
  rw[ea,this]
  rfl
 ·intro e
  rw[Int.mul_emod,e,Int.zero_mul]
  rfl
theorem l6{v:V}{r:List V}:ug (v::r) 0=some v:=fz (i:=0) rfl
theorem kT{a b p k:Int}(h:a=b+p*k):a%p=b%p:=by rw[h,Int.add_mul_emod_self_left]
theorem f9{a b p:Int}(h:a%p=b%p):∃k,a=b+p*k:=by
 have h1:=Int.emod_add_mul_ediv a p
 have h2:=Int.emod_add_mul_ediv b p
 exact⟨a/p-b/p,by rw[Int.mul_sub];omega⟩
theorem l7{m:List (List Int)}(h:cj m):∃a b c d e f:Int,(ent m 0 0=2*a/\ent m 1 1=2*b/\ent m 2 2=2*c/\ent m 0 1=d/\ent m 0 2=e/\ent m 1 2=f)/\ ∀x:Nat->Int,aL m x=a*(x 0*x 0)+b*(x 1*x 1)+c*(x 2*x 2)+d*(x 0*x 1)+e*(x 0*x 2)+f*(x 1*x 2):=by
 have h':=h
 obtain⟨⟨s1,s2,s3⟩,a,b,c,e1,e2,e3⟩:=h
 refine⟨a,b,c,ent m 0 1,ent m 0 2,ent m 1 2,⟨e1,e2,e3,rfl,rfl,rfl⟩,λx=> ?_⟩
 have q:=gw h' x
 rw[cN,s1,s2,s3,e1,e2,e3]at q
 have:2*aL m x=2*(a*(x 0*x 0)+b*(x 1*x 1)+c*(x 2*x 2)+ent m 0 1*(x 0*x 1)+ent m 0 2*(x 0*x 2)+ent m 1 2*(x 1*x 2)):=by
  rw[<-q]
  grind
 omega
theorem Fz{m:List (List Int)}(h:cj m){p:Int}{x y:Nat->Int}(e:∀i,i<3->x i%p=y i%p):aL m x%p=aL m y%p:=by
 obtain⟨a,b,c,d,ee,f,_,q⟩:=l7 h
 obtain⟨k0,h0⟩:=f9 (e 0 (by decide))
 obtain⟨k1,h1⟩:=f9 (e 1 (by decide))
 obtain⟨k2,h2⟩:=f9 (e 2 (by decide))
 rw[q,q,h0,h1,h2]
 refine kT (k:=a*(2*y 0*k0+p*(k0*k0))+b*(2*y 1*k1+p*(k1*k1))+c*(2*y 2*k2+p*(k2*k2))+d*(y 0*k1+y 1*k0+p*(k0*k1))+ee*(y 0*k2+y 2*k0+p*(k0*k2))+f*(y 1*k2+y 2*k1+p*(k1*k2))) ?_
 grind
theorem Cj{m:List (List Int)}(h:cj m)(u:Int)(x:Nat->Int):aL m (λi=>u*x i)=u*u*aL m x:=by
 obtain⟨a,b,c,d,ee,f,_,q⟩:=l7 h
 rw[q,q]
 grind
theorem IM{m:List (List Int)}(h:cj m){x y:Nat->Int}(e:∀i,i<3->x i=y i):aL m x=aL m y:=by
 obtain⟨a,b,c,d,ee,f,_,q⟩:=l7 h
 rw[q,q,e 0 (by decide),e 1 (by decide),e 2 (by decide)]
def ou(p:Int)(x:Nat->Int):Int:=if x 0%p≠0 then x 0%p else if x 1%p≠0 then x 1%p else x 2%p
def qN(p:Int)(x:Nat->Int):Prop:=x 0%p=0/\x 1%p=0/\x 2%p=0
def Ck(m:List (List Int))(p:Int)(x:Nat->Int):Prop:=¬qN p x/\aL m (λi=>x i%p)%p=0
structure jf(p:Int)(y:Nat->Int):Prop where
 lo:∀i,i<3->0<=y i
 hi:∀i,i<3->y i<p
 one:(y 0=1)∨(y 0=0/\y 1=1)∨(y 0=0/\y 1=0/\y 2=1)
theorem IP{p:Int}{x:Nat->Int}(h:¬qN p x):ou p x≠0:=by
 unfold ou
 unfold qN at h
 split
 ·assumption
 ·split
  ·assumption
  ·omega
theorem IQ{p:Int}{x:Nat->Int}(h:0<p):0<=ou p x/\ou p x<p:=by
 unfold ou
 have a:=λi=>Int.emod_nonneg (x i) (show p≠0 by omega)
 have b:=λi=>Int.emod_lt_of_pos (x i) h
 split
 ·exact⟨a 0,b 0⟩
 ·split
  ·exact⟨a 1,b 1⟩
  ·exact⟨a 2,b 2⟩
theorem mR(a b p:Int):a*(b%p)%p=a*b%p:=by rw[Int.mul_emod,Int.emod_emod_of_dvd _ (Int.dvd_refl p),<-Int.mul_emod]
theorem Cm(a b p:Int):(a%p)*b%p=a*b%p:=by rw[Int.mul_emod,Int.emod_emod_of_dvd _ (Int.dvd_refl p),<-Int.mul_emod]
theorem bD{a p:Int}(h0:0<=a)(h1:a<p):a%p=a:=Int.emod_eq_of_lt h0 h1
theorem Ea{p t:Int}{x y:Nat->Int}(hp:1<p)(L:jf p y)(t0:0<t)(t1:t<p)(e:∀i,i<3->t*y i%p=x i%p):ou p x=t/\ ¬qN p x:=by
 have tt:t%p=t:=bD (by omega) t1
 unfold ou qN
 rcases L.one with z|⟨z,z1⟩|⟨z,z1,z2⟩
 ·have e0:=e 0 (by decide)
  rw[z,Int.mul_one,tt]at e0
  rw[<-e0,if_pos (by omega)]
  exact⟨rfl,by omega⟩
 ·have e0:=e 0 (by decide)
  rw[z,Int.mul_zero,Int.zero_emod]at e0
  have e1:=e 1 (by decide)
  rw[z1,Int.mul_one,tt]at e1
  rw[<-e0,if_neg (by omega),<-e1,if_pos (by omega)]
  exact⟨rfl,by omega⟩
 ·have e0:=e 0 (by decide)
  rw[z,Int.mul_zero,Int.zero_emod]at e0
  have e1:=e 1 (by decide)
  rw[z1,Int.mul_zero,Int.zero_emod]at e1
  have e2:=e 2 (by decide)
  rw[z2,Int.mul_one,tt]at e2
  rw[<-e0,if_neg (by omega),<-e1,if_neg (by omega),<-e2]
  exact⟨rfl,by omega⟩
theorem FD{p t u:Int}{x y:Nat->Int}(hp:1<p)(L:jf p y)(t0:0<t)(t1:t<p)(e:∀i,i<3->t*y i%p=x i%p)(hu:u*ou p x%p=1)(i:Nat)(hi:i<3):u*(x i%p)%p=y i:=by
 rw[(Ea hp L t0 t1 e).1]at hu
 rw[<-e i hi,mR,<-Int.mul_assoc,<-Cm,hu,Int.one_mul]
 exact bD (L.lo i hi) (L.hi i hi)
theorem Mn{m:List (List Int)}(ev:cj m){p t:Int}{x y:Nat->Int}(h:aL m y%p=0)(e:∀i,i<3->t*y i%p=x i%p):aL m (λi=>x i%p)%p=0:=by
 have e':aL m (λi=>x i%p)%p=aL m (λi=>t*y i)%p:=Fz ev λi hi=>by rw[e i hi];exact Int.emod_emod_of_dvd _ (Int.dvd_refl p)
 rw[e',Cj ev t y,<-mR,h,Int.mul_zero,Int.zero_emod]
theorem FF{n:Nat}(hn:0<n){r:List Int}:r∈f7 n (n*n)↔r=[ao r 0,ao r 1,ao r 2]/\jf (n:Int) (ao r)/\1<n∨(r∈f7 n (n*n)/\n<=1):=by
 constructor
 ·intro h
  by_cases h1:1<n
  ·refine .inl ?_
   unfold f7 lY at h
   simp only[List.mem_append,List.mem_cons,List.mem_map,List.mem_range]at h
   rcases h with(rfl|⟨a,ha,rfl⟩)|⟨a,ha,rfl⟩
   ·refine⟨rfl,⟨λi hi=> ?_,λi hi=> ?_,.inr (.inr ⟨rfl,rfl,rfl⟩)⟩,h1⟩
    ·rcases aB hi with rfl|rfl|rfl<;>decide
    ·rcases aB hi with rfl|rfl|rfl
     ·show(0:Int)<n;omega
     ·show(0:Int)<n;omega
     ·show(1:Int)<n;omega
   ·refine⟨rfl,⟨λi hi=> ?_,λi hi=> ?_,.inr (.inl ⟨rfl,rfl⟩)⟩,h1⟩
    ·rcases aB hi with rfl|rfl|rfl
     ·show(0:Int)<=0;decide
     ·show(0:Int)<=1;decide
     ·show(0:Int)<=(a:Int);omega
    ·rcases aB hi with rfl|rfl|rfl
     ·show(0:Int)<n;omega
     ·show(1:Int)<n;omega
     ·show(a:Int)<n;omega
   ·have d1:a/n<n:=by rw[Nat.div_lt_iff_lt_mul hn];exact ha
    have d2:a%n<n:=Nat.mod_lt _ hn
    refine⟨rfl,⟨λi hi=> ?_,λi hi=> ?_,.inl rfl⟩,h1⟩
    ·rcases aB hi with rfl|rfl|rfl
     ·show(0:Int)<=1;decide
     ·show(0:Int)<=((a/n:Nat):Int);exact Int.natCast_nonneg _
     ·show(0:Int)<=((a%n:Nat):Int);exact Int.natCast_nonneg _
    ·rcases aB hi with rfl|rfl|rfl
     ·show(1:Int)<n;omega
     ·show((a/n:Nat):Int)<n;exact Int.ofNat_lt.mpr d1
     ·show((a%n:Nat):Int)<n;exact Int.ofNat_lt.mpr d2
  ·exact .inr ⟨h,by omega⟩
 ·rintro(⟨e,L,h1⟩|⟨h,_⟩)
  ·unfold f7 lY
   simp only[List.mem_append,List.mem_cons,List.mem_map,List.mem_range]
   have l1:=L.lo 1 (by decide)
   have l2:=L.lo 2 (by decide)
   have g1:=L.hi 1 (by decide)
   have g2:=L.hi 2 (by decide)
   rcases L.one with z|⟨z,z1⟩|⟨z,z1,z2⟩
   ·refine .inr ⟨(ao r 1).toNat*n+(ao r 2).toNat,?_,?_⟩
    ·have a1:(ao r 1).toNat+1<=n:=by omega
     have a2:=Nat.mul_le_mul_right n a1
     rw[Nat.succ_mul]at a2
     have a3:(ao r 2).toNat<n:=by omega
     exact Nat.lt_of_lt_of_le (Nat.add_lt_add_left a3 _) a2
    ·have a3:(ao r 2).toNat<n:=by omega
     have d1:((ao r 1).toNat*n+(ao r 2).toNat)/n=(ao r 1).toNat:=by
      rw[Nat.add_comm,Nat.add_mul_div_right _ _ hn,Nat.div_eq_of_lt a3,Nat.zero_add]
     have d2:((ao r 1).toNat*n+(ao r 2).toNat)%n=(ao r 2).toNat:=by
      rw[Nat.add_comm,Nat.add_mul_mod_self_right,Nat.mod_eq_of_lt a3]
     rw[d1,d2,e]
     show [1,(((ao r 1).toNat:Nat):Int),(((ao r 2).toNat:Nat):Int)]=[ao r 0,ao r 1,ao r 2]
     rw[z,Int.toNat_of_nonneg l1,Int.toNat_of_nonneg l2]
   ·refine .inl (.inr ⟨(ao r 2).toNat,by omega,?_⟩)
    rw[e]
    show [0,1,(((ao r 2).toNat:Nat):Int)]=[ao r 0,ao r 1,ao r 2]
    rw[z,z1,Int.toNat_of_nonneg l2]
   ·refine .inl (.inl ?_)
    rw[e,z,z1,z2]
  ·exact h
theorem Cn{n:Nat}(hn:1<n){r:List Int}(h:r∈f7 n (n*n)):r=[ao r 0,ao r 1,ao r 2]/\jf (n:Int) (ao r):=by
 rcases(FF (by omega)).mp h with⟨a,b,_⟩|⟨_,z⟩
 ·exact⟨a,b⟩
 ·omega
theorem ow{p:Int}(hp:p∈([3,5,7,11,13]:List Int)){a:Int}(ha:a%p≠0):∃t:Nat,t<(p-1).toNat/\(1+(t:Int))*a%p=1:=by
 have key:∀q∈([3,5,7,11,13]:List Nat),∀b<q,b≠0-> ∃t<q-1,((1+t)*b)%q=1:=by decide
 have p0:2<p:=by
  simp only[List.mem_cons,List.not_mem_nil,or_false]at hp
  omega
 obtain⟨q,rfl⟩:∃q:Nat,p=(q:Int):=⟨p.toNat,by omega⟩
 have hq:q∈([3,5,7,11,13]:List Nat):=by
  simp only[List.mem_cons,List.not_mem_nil,or_false]at hp ⊢
  omega
 have a0:=Int.emod_nonneg a (show(q:Int)≠0 by omega)
 have a1:=Int.emod_lt_of_pos a (show(0:Int)<q by omega)
 obtain⟨b,eb⟩:∃b:Nat,a%(q:Int)=(b:Int):=⟨(a%(q:Int)).toNat,by omega⟩
 obtain⟨t,ht,e⟩:=key q hq b (by omega) (by omega)
 refine⟨t,by omega,?_⟩
 rw[<-mR,eb]
 exact_mod_cast e
def j5:Nat->(Nat->Nat) ->Nat
 |0,_=>0
 |k+1,f=>j5 k f+f k
theorem j6{f g:Nat->Nat}:∀{k:Nat},(∀y,y<k->f y=g y) ->j5 k f=j5 k g
 |0,_=>rfl
 |k+1,h=>by
  show j5 k f+f k=j5 k g+g k
  rw[j6 λy hy=>h y (by omega),h k (by omega)]
theorem tE{n:Nat}(hn:0<n)(f:Nat->Nat->Bool):∀a,(List.range (a*n)).countP (λk=>f (k/n) (k%n))=j5 a λy=>(List.range n).countP (f y)
 |0=>by simp[j5]
 |a+1=>by
  rw[Nat.succ_mul,List.range_add,List.countP_append,tE hn f a,List.countP_map]
  show _=j5 a _+_
  congr 1
  refine List.countP_congr λk hk=> ?_
  rw[List.mem_range]at hk
  have e1:(a*n+k)/n=a:=by rw[Nat.add_comm,Nat.add_mul_div_right _ _ hn,Nat.div_eq_of_lt hk,Nat.zero_add]
  have e2:(a*n+k)%n=k:=by rw[Nat.add_comm,Nat.add_mul_mod_self_right,Nat.mod_eq_of_lt hk]
  show f ((a*n+k)/n) ((a*n+k)%n)=true↔f a k=true
  rw[e1,e2]
def Eb(q r:Nat):Nat:=(List.range q).countP λs=>s*s%q==r%q
def rN(q a b c:Nat):Nat:=(List.range q).countP λz=>(c*(z*z)+b*z+a)%q==0
def c6(q a:Nat):Bool:=(List.range q).all λb=>(List.range q).all λc=>c==0||rN q a b c==Eb q (b*b+4*(q-1)*(a*c))
def FG(q:Nat):Bool:=(List.range q).all (c6 q)
def UR(q:Nat):Bool:=(List.range q).all λa=>(List.range q).all λb=>rN q a b 0==if b==0 then(if a==0 then q else 0)else 1
def c7(q a:Nat):Bool:=(List.range q).all λb=>(List.range q).all λc=>(b*b+4*(q-1)*(a*c))%q==0||Eb q c+j5 q (λy=>Eb q (a+b*y+c*(y*y)))==q+1
def FH(q:Nat):Bool:=(List.range q).all (c7 q)
def US(q:Nat):Bool:=(List.range q).all λe=>(List.range q).all λf=>f==0||j5 q (λy=>if(e+f*y)%q==0 then 0 else 1)==q-1
theorem IS:([3,5,7,11,13].all UR)=true:=by decide+kernel
theorem IT:([3,5,7,11,13].all US)=true:=by decide+kernel
theorem Mp:c6 3 0=true:=by decide+kernel
theorem Mq:c6 3 1=true:=by decide+kernel
theorem Mr:c6 3 2=true:=by decide+kernel
theorem RA:FG 3=true:=by
 refine List.all_eq_true.mpr λa ha=> ?_
 match a,List.mem_range.mp ha with
 |0,_=>exact Mp
 |1,_=>exact Mq
 |2,_=>exact Mr
theorem Ms:c6 5 0=true:=by decide+kernel
theorem Mt:c6 5 1=true:=by decide+kernel
theorem Mu:c6 5 2=true:=by decide+kernel
theorem Mv:c6 5 3=true:=by decide+kernel
theorem Mw:c6 5 4=true:=by decide+kernel
theorem RB:FG 5=true:=by
 refine List.all_eq_true.mpr λa ha=> ?_
 match a,List.mem_range.mp ha with
 |0,_=>exact Ms
 |1,_=>exact Mt
 |2,_=>exact Mu
 |3,_=>exact Mv
 |4,_=>exact Mw
theorem Mx:c6 7 0=true:=by decide+kernel
theorem My:c6 7 1=true:=by decide+kernel
theorem Mz:c6 7 2=true:=by decide+kernel
theorem MA:c6 7 3=true:=by decide+kernel
theorem MB:c6 7 4=true:=by decide+kernel
theorem MC:c6 7 5=true:=by decide+kernel
theorem MD:c6 7 6=true:=by decide+kernel
theorem RC:FG 7=true:=by
 refine List.all_eq_true.mpr λa ha=> ?_
 match a,List.mem_range.mp ha with
 |0,_=>exact Mx
 |1,_=>exact My
 |2,_=>exact Mz
 |3,_=>exact MA
 |4,_=>exact MB
 |5,_=>exact MC
 |6,_=>exact MD
theorem IU:c6 11 0=true:=by decide+kernel
theorem IV:c6 11 1=true:=by decide+kernel
theorem IW:c6 11 2=true:=by decide+kernel
theorem IY:c6 11 3=true:=by decide+kernel
theorem IZ:c6 11 4=true:=by decide+kernel
theorem Ja:c6 11 5=true:=by decide+kernel
theorem Jb:c6 11 6=true:=by decide+kernel
theorem Jc:c6 11 7=true:=by decide+kernel
theorem Jd:c6 11 8=true:=by decide+kernel
theorem Je:c6 11 9=true:=by decide+kernel
theorem FI:c6 11 10=true:=by decide+kernel
theorem Pw:FG 11=true:=by
 refine List.all_eq_true.mpr λa ha=> ?_
 match a,List.mem_range.mp ha with
 |0,_=>exact IU
 |1,_=>exact IV
 |2,_=>exact IW
 |3,_=>exact IY
 |4,_=>exact IZ
 |5,_=>exact Ja
 |6,_=>exact Jb
 |7,_=>exact Jc
 |8,_=>exact Jd
 |9,_=>exact Je
 |10,_=>exact FI
theorem Jf:c6 13 0=true:=by decide+kernel
theorem Jg:c6 13 1=true:=by decide+kernel
theorem Jh:c6 13 2=true:=by decide+kernel
theorem Ji:c6 13 3=true:=by decide+kernel
theorem Jj:c6 13 4=true:=by decide+kernel
theorem Jk:c6 13 5=true:=by decide+kernel
theorem Jl:c6 13 6=true:=by decide+kernel
theorem Jm:c6 13 7=true:=by decide+kernel
theorem Jo:c6 13 8=true:=by decide+kernel
theorem Jp:c6 13 9=true:=by decide+kernel
theorem FJ:c6 13 10=true:=by decide+kernel
theorem FL:c6 13 11=true:=by decide+kernel
theorem FN:c6 13 12=true:=by decide+kernel
theorem Px:FG 13=true:=by
 refine List.all_eq_true.mpr λa ha=> ?_
 match a,List.mem_range.mp ha with
 |0,_=>exact Jf
 |1,_=>exact Jg
 |2,_=>exact Jh
 |3,_=>exact Ji
 |4,_=>exact Jj
 |5,_=>exact Jk
 |6,_=>exact Jl
 |7,_=>exact Jm
 |8,_=>exact Jo
 |9,_=>exact Jp
 |10,_=>exact FJ
 |11,_=>exact FL
 |12,_=>exact FN
theorem Jq:([3,5,7,11,13].all FG)=true:=by
 simp only[List.all_cons,List.all_nil,RA,RB,RC,Pw,Px,Bool.and_true]
theorem ME:c7 3 0=true:=by decide+kernel
theorem MF:c7 3 1=true:=by decide+kernel
theorem MH:c7 3 2=true:=by decide+kernel
theorem RD:FH 3=true:=by
 refine List.all_eq_true.mpr λa ha=> ?_
 match a,List.mem_range.mp ha with
 |0,_=>exact ME
 |1,_=>exact MF
 |2,_=>exact MH
theorem MI:c7 5 0=true:=by decide+kernel
theorem MJ:c7 5 1=true:=by decide+kernel
theorem MK:c7 5 2=true:=by decide+kernel
theorem ML:c7 5 3=true:=by decide+kernel
theorem MM:c7 5 4=true:=by decide+kernel
theorem RE:FH 5=true:=by
 refine List.all_eq_true.mpr λa ha=> ?_
 match a,List.mem_range.mp ha with
 |0,_=>exact MI
 |1,_=>exact MJ
 |2,_=>exact MK
 |3,_=>exact ML
 |4,_=>exact MM
theorem MN:c7 7 0=true:=by decide+kernel
theorem MO:c7 7 1=true:=by decide+kernel
theorem MP:c7 7 2=true:=by decide+kernel
theorem MQ:c7 7 3=true:=by decide+kernel
theorem MR:c7 7 4=true:=by decide+kernel
theorem MS:c7 7 5=true:=by decide+kernel
theorem MT:c7 7 6=true:=by decide+kernel
theorem RG:FH 7=true:=by
 refine List.all_eq_true.mpr λa ha=> ?_
 match a,List.mem_range.mp ha with
 |0,_=>exact MN
 |1,_=>exact MO
 |2,_=>exact MP
 |3,_=>exact MQ
 |4,_=>exact MR
 |5,_=>exact MS
 |6,_=>exact MT
theorem Jr:c7 11 0=true:=by decide+kernel
theorem Js:c7 11 1=true:=by decide+kernel
theorem Jt:c7 11 2=true:=by decide+kernel
theorem Ju:c7 11 3=true:=by decide+kernel
theorem Jv:c7 11 4=true:=by decide+kernel
theorem Jw:c7 11 5=true:=by decide+kernel
theorem Jx:c7 11 6=true:=by decide+kernel
theorem Jy:c7 11 7=true:=by decide+kernel
theorem Jz:c7 11 8=true:=by decide+kernel
theorem JA:c7 11 9=true:=by decide+kernel
theorem FO:c7 11 10=true:=by decide+kernel
theorem Py:FH 11=true:=by
 refine List.all_eq_true.mpr λa ha=> ?_
 match a,List.mem_range.mp ha with
 |0,_=>exact Jr
 |1,_=>exact Js
 |2,_=>exact Jt
 |3,_=>exact Ju
 |4,_=>exact Jv
 |5,_=>exact Jw
 |6,_=>exact Jx
 |7,_=>exact Jy
 |8,_=>exact Jz
 |9,_=>exact JA
 |10,_=>exact FO
theorem JC:c7 13 0=true:=by decide+kernel
theorem JD:c7 13 1=true:=by decide+kernel
theorem JE:c7 13 2=true:=by decide+kernel
theorem JF:c7 13 3=true:=by decide+kernel
theorem JG:c7 13 4=true:=by decide+kernel
theorem JH:c7 13 5=true:=by decide+kernel
theorem JI:c7 13 6=true:=by decide+kernel
theorem JJ:c7 13 7=true:=by decide+kernel
theorem JK:c7 13 8=true:=by decide+kernel
theorem JL:c7 13 9=true:=by decide+kernel
theorem FP:c7 13 10=true:=by decide+kernel
theorem FQ:c7 13 11=true:=by decide+kernel
theorem FT:c7 13 12=true:=by decide+kernel
theorem Pz:FH 13=true:=by
 refine List.all_eq_true.mpr λa ha=> ?_
 match a,List.mem_range.mp ha with
 |0,_=>exact JC
 |1,_=>exact JD
 |2,_=>exact JE
 |3,_=>exact JF
 |4,_=>exact JG
 |5,_=>exact JH
 |6,_=>exact JI
 |7,_=>exact JJ
 |8,_=>exact JK
 |9,_=>exact JL
 |10,_=>exact FP
 |11,_=>exact FQ
 |12,_=>exact FT
theorem JM:([3,5,7,11,13].all FH)=true:=by
 simp only[List.all_cons,List.all_nil,RD,RE,RG,Py,Pz,Bool.and_true]
theorem yP{f:Nat->Bool}(h:([3,5,7,11,13].all f)=true){q:Nat}(hq:q∈([3,5,7,11,13]:List Nat)):f q=true:=List.all_eq_true.mp h q hq
theorem all_range{q:Nat}{f:Nat->Bool}(h:(List.range q).all f=true){a:Nat}(ha:a<q):f a=true:=List.all_eq_true.mp h a (List.mem_range.mpr ha)
theorem MU{q:Nat}(hq:q∈([3,5,7,11,13]:List Nat)){a b c:Nat}(ha:a<q)(hb:b<q)(hc:c<q)(h0:c≠0):rN q a b c=Eb q (b*b+4*(q-1)*(a*c)):=by
 have h:=all_range (all_range (all_range (yP Jq hq) ha) hb) hc
 rw[Bool.or_eq_true]at h
 rcases h with h|h
 ·exact absurd (eq_of_beq h) h0
 ·exact eq_of_beq h
theorem qO{q:Nat}(hq:q∈([3,5,7,11,13]:List Nat)){a b:Nat}(ha:a<q)(hb:b<q):rN q a b 0=if b=0 then(if a=0 then q else 0)else 1:=by
 have h:=eq_of_beq (all_range (all_range (yP IS hq) ha) hb)
 rw[h]
 simp only[beq_iff_eq]
theorem MV{q:Nat}(hq:q∈([3,5,7,11,13]:List Nat)){a b c:Nat}(ha:a<q)(hb:b<q)(hc:c<q)(h0:(b*b+4*(q-1)*(a*c))%q≠0):Eb q c+j5 q (λy=>Eb q (a+b*y+c*(y*y)))=q+1:=by
 have h:=all_range (all_range (all_range (yP JM hq) ha) hb) hc
 rw[Bool.or_eq_true]at h
 rcases h with h|h
 ·exact absurd (eq_of_beq h) h0
 ·exact eq_of_beq h
theorem MW{q:Nat}(hq:q∈([3,5,7,11,13]:List Nat)){e f:Nat}(he:e<q)(hf:f<q)(h0:f≠0):j5 q (λy=>if(e+f*y)%q=0 then 0 else 1)=q-1:=by
 have h:=all_range (all_range (yP IT hq) he) hf
 rw[Bool.or_eq_true]at h
 rcases h with h|h
 ·exact absurd (eq_of_beq h) h0
 ·rw[<-eq_of_beq h]
  refine j6 λy _=> ?_
  simp only[beq_iff_eq]
theorem Ec(q r:Nat):Eb q (r%q)=Eb q r:=by
 unfold Eb
 simp only[Nat.mod_mod]
theorem JN(q a b c:Nat):rN q (a%q) (b%q) (c%q)=rN q a b c:=by
 unfold rN
 congr 1
 funext z
 congr 1
 simp only[Nat.add_mod,Nat.mul_mod,Nat.mod_mod]
def qP(a b c d e f x y z:Nat):Nat:=a*(x*x)+b*(y*y)+c*(z*z)+d*(x*y)+e*(x*z)+f*(y*z)
def uX(q a b c d e f x y:Nat):Nat:=(List.range q).countP λz=>qP a b c d e f x y z%q==0
theorem Ed(q a b c d e f x y:Nat):uX q a b c d e f x y=rN q ((a*(x*x)+d*(x*y)+b*(y*y))%q) ((e*x+f*y)%q) (c%q):=by
 rw[JN]
 unfold uX rN qP
 congr 1
 funext z
 congr 2
 grind
theorem Co{q:Nat}{x:Int}(n:Nat)(h:(n:Int)=x):(n%q=0)↔x%(q:Int)=0:=by
 rw[<-h]
 constructor
 ·intro z;exact_mod_cast z
 ·intro z;exact_mod_cast z
theorem JO{q:Nat}(hq:q∈([3,5,7,11,13]:List Nat)):((q:Int))∈([3,5,7,11,13]:List Int)/\2<q/\q<14:=by
 simp only[List.mem_cons,List.not_mem_nil,or_false]at hq ⊢
 omega
theorem Cp{q:Nat}(hq:q∈([3,5,7,11,13]:List Nat)){a b c d e f:Nat}(ha:a<q)(hb:b<q)(hc:c<q)(hd:d<q)(he:e<q)(hf:f<q)
  (h0:(4*((a:Int)*b*c)+d*e*f-a*(f*f) -b*(e*e) -c*(d*d))%(q:Int)≠0):
  (if c=0 then 1 else 0)+uX q a b c d e f 0 1+j5 q (λy=>uX q a b c d e f 1 y)=q+1:=by
 obtain⟨hp,q2,XX⟩:=JO hq
 have rO:0<q:=by omega
 by_cases c0:c=0
 ·subst c0
  rw[if_pos rfl]
  simp only[Ed,Nat.zero_mod]
  by_cases f0:f=0
  ·subst f0
   have e0:e≠0:=λz=>h0 (by subst z;simp)
   have b0:b≠0:=λz=>h0 (by subst z;simp)
   have n1:rN q ((a*(0*0)+d*(0*1)+b*(1*1))%q) ((e*0+0*1)%q) 0=0:=by
    rw[qO hq (Nat.mod_lt _ rO) (Nat.mod_lt _ rO)]
    simp only[Nat.mul_zero,Nat.zero_mul,Nat.zero_add,Nat.mul_one,Nat.zero_mod,if_true,Nat.mod_eq_of_lt hb,if_neg b0]
   have n2:j5 q (λy=>rN q ((a*(1*1)+d*(1*y)+b*(y*y))%q) ((e*1+0*y)%q) 0)=j5 q λy=>if(1+0*y)%q=0 then 0 else 1:=j6 λy _=>by
    rw[qO hq (Nat.mod_lt _ rO) (Nat.mod_lt _ rO)]
    simp only[Nat.mul_one,Nat.zero_mul,Nat.add_zero,Nat.mod_eq_of_lt he,if_neg e0]
    rw[if_neg (by rw[Nat.mod_eq_of_lt (by omega)];decide)]
   have n3:j5 q (λy=>if(1+0*y)%q=0 then 0 else 1)=q:=by
    have k:∀n,j5 n (λy=>if(1+0*y)%q=0 then 0 else 1)=n:=λn=>by
     induction n with
     |zero=>rfl
     |succ n ih=>
      show j5 n _+(if(1+0*n)%q=0 then 0 else 1)=_
      rw[ih,if_neg (by rw[Nat.zero_mul,Nat.add_zero,Nat.mod_eq_of_lt (by omega)];decide)]
    exact k q
   rw[n1,n2,n3]
   omega
  ·have n1:rN q ((a*(0*0)+d*(0*1)+b*(1*1))%q) ((e*0+f*1)%q) 0=1:=by
    rw[qO hq (Nat.mod_lt _ rO) (Nat.mod_lt _ rO)]
    simp only[Nat.mul_zero,Nat.zero_add,Nat.mul_one,Nat.mod_eq_of_lt hf,if_neg f0]
   have n2:j5 q (λy=>rN q ((a*(1*1)+d*(1*y)+b*(y*y))%q) ((e*1+f*y)%q) 0)=j5 q λy=>if(e+f*y)%q=0 then 0 else 1:=j6 λy _=>by
    rw[qO hq (Nat.mod_lt _ rO) (Nat.mod_lt _ rO)]
    simp only[Nat.mul_one]
    by_cases z:(e+f*y)%q=0
    ·rw[if_pos z,if_pos z,if_neg]
     intro w
     apply h0
     have z':=(Co (x:=(e:Int)+f*y) (e+f*y) (by push_cast;rfl)).mp z
     have w':=(Co (x:=(a:Int)+d*(1*y)+b*(y*y)) (a+d*(1*y)+b*(y*y)) (by push_cast;rfl)).mp w
     obtain⟨u,hu⟩:=Int.dvd_of_emod_eq_zero z'
     obtain⟨v,hv⟩:=Int.dvd_of_emod_eq_zero w'
     refine Int.emod_eq_zero_of_dvd ⟨d*f*u-b*e*u+b*f*y*u-f*f*v,?_⟩
     have XY:(e:Int)=q*u-f*y:=by omega
     have hv':(a:Int)=q*v-d*(1*y) -b*(y*y):=by omega
     rw[hv',XY]
     grind
    ·rw[if_neg z,if_neg z]
   rw[n1,n2,MW hq he hf f0]
   omega
 ·rw[if_neg c0,Nat.zero_add]
  have N:∀x y,uX q a b c d e f x y=Eb q ((e*x+f*y)%q*((e*x+f*y)%q)+4*(q-1)*((a*(x*x)+d*(x*y)+b*(y*y))%q*c)):=λx y=>by
   rw[Ed,Nat.mod_eq_of_lt hc,MU hq (Nat.mod_lt _ rO) (Nat.mod_lt _ rO) hc c0]
  have key:∀x y,Eb q ((e*x+f*y)%q*((e*x+f*y)%q)+4*(q-1)*((a*(x*x)+d*(x*y)+b*(y*y))%q*c))=
    Eb q ((e*e+4*(q-1)*(a*c))%q*(x*x)+(2*(e*f)+4*(q-1)*(c*d))%q*(x*y)+(f*f+4*(q-1)*(b*c))%q*(y*y)):=λx y=>by
   rw[<-Ec q ((e*x+f*y)%q*_+_),<-Ec q (_*(x*x)+_+_)]
   congr 1
   have cm:∀n:Nat,∃k:Int,((n%q:Nat):Int)=(n:Int) -q*k:=λn=>⟨(n:Int)/q,by
    have:=Int.emod_add_mul_ediv (n:Int) q
    rw[Int.natCast_emod]
    omega⟩
   obtain⟨k1,h1⟩:=cm (e*x+f*y)
   obtain⟨k2,h2⟩:=cm (a*(x*x)+d*(x*y)+b*(y*y))
   obtain⟨k3,h3⟩:=cm (e*e+4*(q-1)*(a*c))
   obtain⟨k4,h4⟩:=cm (2*(e*f)+4*(q-1)*(c*d))
   obtain⟨k5,h5⟩:=cm (f*f+4*(q-1)*(b*c))
   generalize(e*x+f*y)%q=U at h1 ⊢
   generalize(a*(x*x)+d*(x*y)+b*(y*y))%q=W at h2 ⊢
   generalize(e*e+4*(q-1)*(a*c))%q=A at h3 ⊢
   generalize(2*(e*f)+4*(q-1)*(c*d))%q=B at h4 ⊢
   generalize(f*f+4*(q-1)*(b*c))%q=C at h5 ⊢
   obtain⟨r,hr⟩:∃r,q-1=r:=⟨_,rfl⟩
   rw[hr]at h3 h4 h5 ⊢
   push_cast at h1 h2 h3 h4 h5
   apply Int.ofNat.inj
   show((U*U+4*r*(W*c):Nat):Int)%((q:Nat):Int)=((A*(x*x)+B*(x*y)+C*(y*y):Nat):Int)%((q:Nat):Int)
   push_cast
   rw[h1,h2,h3,h4,h5]
   refine kT (k:= -2*((e:Int)*x+f*y)*k1+q*(k1*k1) -4*r*c*k2+k3*(x*x)+k4*(x*y)+k5*(y*y)) ?_
   grind
  have n0:uX q a b c d e f 0 1=Eb q ((f*f+4*(q-1)*(b*c))%q):=by
   rw[N,key]
   simp only[Nat.mul_zero,Nat.zero_mul,Nat.zero_add,Nat.mul_one]
  have n1:j5 q (λy=>uX q a b c d e f 1 y)=j5 q λy=>Eb q ((e*e+4*(q-1)*(a*c))%q+(2*(e*f)+4*(q-1)*(c*d))%q*y+(f*f+4*(q-1)*(b*c))%q*(y*y)):=j6 λy _=>by
   rw[N,key]
   simp only[Nat.mul_one,Nat.one_mul]
  rw[n0,n1]
  refine MV hq (Nat.mod_lt _ rO) (Nat.mod_lt _ rO) (Nat.mod_lt _ rO) ?_
  intro z
  have cm:∀n:Nat,∃k:Int,((n%q:Nat):Int)=(n:Int) -q*k:=λn=>⟨(n:Int)/q,by
   have:=Int.emod_add_mul_ediv (n:Int) q
   rw[Int.natCast_emod]
   omega⟩
  obtain⟨k3,h3⟩:=cm (e*e+4*(q-1)*(a*c))
  obtain⟨k4,h4⟩:=cm (2*(e*f)+4*(q-1)*(c*d))
  obtain⟨k5,h5⟩:=cm (f*f+4*(q-1)*(b*c))
  generalize(e*e+4*(q-1)*(a*c))%q=A at h3 z
  generalize(2*(e*f)+4*(q-1)*(c*d))%q=B at h4 z
  generalize(f*f+4*(q-1)*(b*c))%q=C at h5 z
  obtain⟨r,hr⟩:∃r:Nat,q=r+1:=⟨q-1,by omega⟩
  have hr1:q-1=r:=by omega
  rw[hr1]at h3 h4 h5 z
  push_cast at h3 h4 h5
  have hq':(r:Int)=q-1:=by omega
  have z':=(Co (x:=(B:Int)*B+4*r*(A*C)) _ (by push_cast;rfl)).mp z
  rw[h3,h4,h5,hq']at z'
  have z2:((16*(4*((a:Int)*b*c)+d*e*f-a*(f*f) -b*(e*e) -c*(d*d)))*c)%(q:Int)=0:=by
   obtain⟨w,hw⟩:=Int.dvd_of_emod_eq_zero z'
   obtain⟨B0,Wq⟩:∃B0:Int,B0=2*((e:Int)*f) -4*(c*d):=⟨_,rfl⟩
   obtain⟨A0,Wr⟩:∃A0:Int,A0=(e:Int)*e-4*(a*c):=⟨_,rfl⟩
   obtain⟨C0,Ws⟩:∃C0:Int,C0=(f:Int)*f-4*(b*c):=⟨_,rfl⟩
   obtain⟨b1,hb1⟩:∃b1:Int,b1=4*((c:Int)*d) -k4:=⟨_,rfl⟩
   obtain⟨a1,ha1⟩:∃a1:Int,a1=4*((a:Int)*c) -k3:=⟨_,rfl⟩
   obtain⟨c1,hc1⟩:∃c1:Int,c1=4*((b:Int)*c) -k5:=⟨_,rfl⟩
   have eB:2*((e:Int)*f)+4*((q:Int) -1)*(c*d) -q*k4=B0+q*b1:=by rw[Wq,hb1];grind
   have eA:(e:Int)*e+4*((q:Int) -1)*(a*c) -q*k3=A0+q*a1:=by rw[Wr,ha1];grind
   have eC:(f:Int)*f+4*((q:Int) -1)*(b*c) -q*k5=C0+q*c1:=by rw[Ws,hc1];grind
   rw[eB,eA,eC]at hw
   refine Int.emod_eq_zero_of_dvd ⟨2*B0*b1+q*(b1*b1)+4*(A0*C0)+4*((q:Int) -1)*(A0*c1+a1*C0+q*(a1*c1)) -w,?_⟩
   have e1:16*(4*((a:Int)*b*c)+d*e*f-a*(f*f) -b*(e*e) -c*(d*d))*c=4*(A0*C0) -B0*B0:=by rw[Wr,Wq,Ws];grind
   rw[e1]
   grind
  have z3:=(lZ hp (by rw[bD (Int.natCast_nonneg c) (Int.ofNat_lt.mpr hc)];omega)).mp z2
  rw[Int.mul_comm]at z3
  have z4:=(lZ hp (show(16:Int)%q≠0 by
   simp only[List.mem_cons,List.not_mem_nil,or_false]at hq
   rcases hq with rfl|rfl|rfl|rfl|rfl<;>decide)).mp z3
  exact h0 z4
theorem JP{m:List (List Int)}(h:cj m){a b c d e f:Int}(q:ent m 0 0=2*a/\ent m 1 1=2*b/\ent m 2 2=2*c/\ent m 0 1=d/\ent m 0 2=e/\ent m 1 2=f):aX m/2=4*(a*b*c)+d*e*f-a*(f*f) -b*(e*e) -c*(d*d):=by
 obtain⟨⟨s1,s2,s3⟩,_⟩:=h
 obtain⟨q1,q2,q3,q4,q5,q6⟩:=q
 have:aX m=2*(4*(a*b*c)+d*e*f-a*(f*f) -b*(e*e) -c*(d*d)):=by
  rw[cZ,s1,s2,s3,q1,q2,q3,q4,q5,q6]
  grind
 omega
theorem Cq{m:List (List Int)}(ev:cj m){q:Nat}(hq:q∈([3,5,7,11,13]:List Nat))(hd:aX m/2%(q:Int)≠0):((f7 q (q*q)).filter λr=>decide (aL m (ao r)%(q:Int)=0)).length=q+1:=by
 obtain⟨hp,q2,XX⟩:=JO hq
 obtain⟨a,b,c,d,e,f,ent,hQ⟩:=l7 ev
 rw[JP ev ent]at hd
 have rs:∀z:Int,∃n:Nat,n<q/\ ∃k:Int,z=(n:Int)+q*k:=λz=>by
  have z0:=Int.emod_nonneg z (show(q:Int)≠0 by omega)
  have z1:=Int.emod_lt_of_pos z (show(0:Int)<q by omega)
  have z2:=Int.emod_add_mul_ediv z q
  exact⟨(z%q).toNat,by omega,z/q,by omega⟩
 obtain⟨a',ha,ka,ea⟩:=rs a
 obtain⟨b',hb,kb,eb⟩:=rs b
 obtain⟨c',hc,kc,ec⟩:=rs c
 obtain⟨d',hd',kd,ed⟩:=rs d
 obtain⟨e',he,ke,ee⟩:=rs e
 obtain⟨f',hf,kf,ef⟩:=rs f
 have h0:(4*((a':Int)*b'*c')+d'*e'*f'-a'*(f'*f') -b'*(e'*e') -c'*(d'*d'))%(q:Int)≠0:=λz=>hd (by
  rw[<-z]
  have M:∀x y:Int,(x+q*y)%q=x%q:=λx y=>Int.add_mul_emod_self_left ..
  have ca:a%(q:Int)=(a':Int)%q:=by rw[ea,M]
  have cb:b%(q:Int)=(b':Int)%q:=by rw[eb,M]
  have cc:c%(q:Int)=(c':Int)%q:=by rw[ec,M]
  have cd:d%(q:Int)=(d':Int)%q:=by rw[ed,M]
  have ce:e%(q:Int)=(e':Int)%q:=by rw[ee,M]
  have cf:f%(q:Int)=(f':Int)%q:=by rw[ef,M]
  have mm:∀{x y x' y':Int},x%(q:Int)=x'%q->y%(q:Int)=y'%q->(x*y)%(q:Int)=(x'*y')%q:=λh1 h2=>by rw[Int.mul_emod,h1,h2,<-Int.mul_emod]
  have pp:∀{x y x' y':Int},x%(q:Int)=x'%q->y%(q:Int)=y'%q->(x+y)%(q:Int)=(x'+y')%q:=λh1 h2=>by rw[Int.add_emod,h1,h2,<-Int.add_emod]
  have ss:∀{x y x' y':Int},x%(q:Int)=x'%q->y%(q:Int)=y'%q->(x-y)%(q:Int)=(x'-y')%q:=λh1 h2=>by rw[Int.sub_emod,h1,h2,<-Int.sub_emod]
  exact ss (ss (ss (pp (mm rfl (mm (mm ca cb) cc)) (mm (mm cd ce) cf)) (mm ca (mm cf cf))) (mm cb (mm ce ce))) (mm cc (mm cd cd)))
 have key:∀x y z:Nat,decide (aL m (ao [(x:Int),(y:Int),(z:Int)])%(q:Int)=0)=(qP a' b' c' d' e' f' x y z%q==0):=λx y z=>by
  rw[hQ]
  show decide ((a*((x:Int)*x)+b*((y:Int)*y)+c*((z:Int)*z)+d*((x:Int)*y)+e*((x:Int)*z)+f*((y:Int)*z))%(q:Int)=0)=_
  have e1:(a*((x:Int)*x)+b*((y:Int)*y)+c*((z:Int)*z)+d*((x:Int)*y)+e*((x:Int)*z)+f*((y:Int)*z))%(q:Int)=((qP a' b' c' d' e' f' x y z:Nat):Int)%(q:Int):=by
   unfold qP
   push_cast
   refine kT (k:=ka*((x:Int)*x)+kb*((y:Int)*y)+kc*((z:Int)*z)+kd*((x:Int)*y)+ke*((x:Int)*z)+kf*((y:Int)*z)) ?_
   rw[ea,eb,ec,ed,ee,ef]
   grind
  rw[e1,Bool.eq_iff_iff,decide_eq_true_eq,beq_iff_eq]
  constructor
  ·intro z;exact_mod_cast z
  ·intro z;exact_mod_cast z
 rw[<-Cp hq ha hb hc hd' he hf h0,<-List.countP_eq_length_filter]
 unfold f7 lY
 rw[List.countP_append,List.countP_cons,List.countP_map,List.countP_map]
 have k0:=key 0 0 1
 have q0:(qP a' b' c' d' e' f' 0 0 1%q==0)=decide (c'=0):=by
  unfold qP
  simp only[Nat.mul_zero,Nat.zero_mul,Nat.zero_add,Nat.mul_one,Nat.add_zero,Nat.mod_eq_of_lt hc]
  rfl
 rw[q0]at k0
 have e1:(if(decide (aL m (ao [0,0,1])%(q:Int)=0))=true then 1 else 0)=if c'=0 then 1 else 0:=by
  have:decide (aL m (ao [0,0,1])%(q:Int)=0)=decide (c'=0):=k0
  rw[this]
  simp only[decide_eq_true_eq]
 rw[e1]
 have e2:List.countP ((λr=>decide (aL m (ao r)%(q:Int)=0)) ∘ λ (a:Nat)=>[0,1,(a:Int)]) (List.range q)=uX q a' b' c' d' e' f' 0 1:=by
  unfold uX
  refine List.countP_congr λz _=> ?_
  rw[<-key 0 1 z]
  exact Iff.rfl
 have e3:List.countP ((λr=>decide (aL m (ao r)%(q:Int)=0)) ∘ λ (a:Nat)=>[1,((a/q:Nat):Int),((a%q:Nat):Int)]) (List.range (q*q))=j5 q λy=>uX q a' b' c' d' e' f' 1 y:=by
  rw[show(λy=>uX q a' b' c' d' e' f' 1 y)=λy=>(List.range q).countP ((λy z=>qP a' b' c' d' e' f' 1 y z%q==0) y)from rfl,<-tE (show 0<q by omega) (λy z=>qP a' b' c' d' e' f' 1 y z%q==0) q]
  refine List.countP_congr λz _=> ?_
  show decide (aL m (ao [1,((z/q:Nat):Int),((z%q:Nat):Int)])%(q:Int)=0)=true↔_
  rw[show([1,((z/q:Nat):Int),((z%q:Nat):Int)]:List Int)=[((1:Nat):Int),((z/q:Nat):Int),((z%q:Nat):Int)]from rfl,key 1 (z/q) (z%q)]
 rw[e2,e3]
 omega
theorem MX{B D:Addr}{H1:Hp}{lo:Int}{n:Nat}{σ:St}{te:TE}{Q:VK}(hD:H1 D=none)(hb:gX H1 B)(hz:n<=sizeLine)(P:Int->Prop)
  (hs:∀(i:Nat) H' (Q':VK),i<n->SB B H1 H'->(∀z H2,P z->SB B H' H2->Q' (.int z) H2) ->te (some (.int (lo+i))::σ) H' Q')
  (hq:∀(zs:List Int) H',zs.length=n->(∀z∈zs,P z) ->SB B H1 H'->H' D=some (.lst (zs.map V.int)) ->Q (.ref D) H'):jt 1 (bV 0) te σ (Dz lo n) H1 D Q:=by
 have nD:D≠B:=hb.ne hD
 refine⟨λi m acc σ' H'=>m=n-i/\i<=n/\(∃o,σ'=o::σ)/\SB B H1 H'/\H' D=some (.lst acc)/\ ∃zs:List Int,acc=zs.map V.int/\zs.length=i/\ ∀z∈zs,P z,⟨n,by simp,Nat.zero_le _,⟨none,rfl⟩,(SB.refl hb).tQ hD nD,au,[],rfl,rfl,λ_ h=>(nomatch h)⟩,?_⟩
 rintro i m acc σ' H' ⟨rfl,hi,⟨o,rfl⟩,sm,eD,zs,rfl,hl,hP⟩
 by_cases hlt:i<n
 ·refine .inr ⟨hlt,by rw[List.length_map,hl];omega,λx H2 yl=> ?_⟩
  obtain⟨e,ex⟩:=yl
  subst e ex
  show te (some (.int (lo+i))::σ) H2 _
  refine hs i H2 _ hlt sm λz H3 hz' s3=> ?_
  refine⟨s3.1 _ _ nD eD,n- (i+1),by omega,rfl,hlt,⟨_,rfl⟩,(sm.trans s3).tQ hD nD,au,zs++ [z],by simp,by simp[hl],λy hy=> ?_⟩
  rcases List.mem_append.mp hy with w|w
  ·exact hP y w
  ·rw[List.mem_singleton.mp w];exact hz'
 ·have e:i=n:=by omega
  subst e
  exact .inl ⟨Nat.le_refl _,eD,hq zs H' hl hP sm eD⟩
theorem Cr{K:PySem.W.Frag}{H:Hp}{a:Addr}{xs:List Int}(h:aS K H a (xs.map V.int)):Ak K H (.ref a) (qD xs):= .lst h (Im xs)
theorem PB{K:PySem.W.Frag}{H:Hp}{a b:Addr}{xs ys:List Int}{Q:VK}(ha:aS K H a (xs.map V.int))(hb:aS K H b (ys.map V.int))(q:Q (.bl (decide (xs=ys))) H):Pj K false (.ref a) (.ref b) H Q:=
 ⟨qD xs,qD ys,Cr ha,Cr hb,uO _,uO _,by rw[LZ];exact q⟩
def rk(sel:Nat->Bool)(k:Nat):Nat:=(List.range k).countP sel
theorem kU(sel:Nat->Bool)(k:Nat):rk sel (k+1)=rk sel k+if sel k=true then 1 else 0:=by
 unfold rk
 rw[List.range_succ,List.countP_append]
 simp[List.countP_cons]
theorem yQ(sel:Nat->Bool){j k:Nat}(h:j<=k):rk sel j<=rk sel k:=by
 induction h with
 |refl=>exact Nat.le_refl _
 |step _ ih=>rw[kU];omega
def UT(sel:Nat->Bool)(N:Nat)(tn:Nat->Heap->Prop)(i:Nat)(h:Heap):Prop:=∃k,k<=N/\rk sel k=i/\(k=0∨sel (k-1)=true)/\tn k h
theorem MY{sel:Nat->Bool}{j k:Nat}(hk:sel k=true)(e:rk sel j=rk sel (k+1))(hj:j=0∨sel (j-1)=true):j=k+1:=by
 have r1:=kU sel k
 rw[if_pos hk]at r1
 rcases hj with rfl|hj
 ·have:rk sel 0=0:=rfl
  omega
 ·rcases Nat.lt_or_ge j (k+1)with z|z
  ·have:=yQ sel (show j<=k by omega)
   omega
  ·rcases Nat.lt_or_ge (k+1) j with y|y
   ·have r2:=kU sel (j-1)
    rw[if_pos hj,show j-1+1=j by omega]at r2
    have:=yQ sel (show k+1<=j-1 by omega)
    omega
   ·omega
section
variable{X:Cx}{B:Around}{sc:Scope}{N':List Str}{code:Value}{sC:Shared}{HC:Hp}{fp Ss:List Addr}{tn:Nat->Heap->Prop}{N:Nat}{sel:Nat->Bool}{R:Nat->V->Prop}{W:St->Hp->Prop}
variable{elt iter tg c:Expr}{pos:Pos}{it:Addr}{J:It}{g:TG}{tt:TT}{te:TE}
theorem JQ(hco:sc.isCoroutine=false)(hc:X.calm=true)(T:Turn X.prog X.w X.K tg J fp it tn)(hg:PG (X.gen B sc N' code sC HC fp) tg g)(ht:PT (X.gen B sc N' code sC HC fp) c tt)(he:PE (X.gen B sc N' code sC HC fp) elt te)(yz:∀b∈fp,b∉Ss)
  (turn:∀k σ' H',k<N->W σ' H'->J.go k H'/\ ∀x H2,J.wL k H' x H2->g x σ' H2 λσ3 H3=>tt σ3 H3 λb H4=>b=sel k/\if b=true then te σ3 H4 λv H5=>R (rk sel k) v/\W σ3 H5 else W σ3 H4)
  (stop:∀σ' H',W σ' H'->J.stop N H'):
  ∀(d k n:Nat) (σ':St) (H':Hp) (s₀ s:Shared),d+k=N->n+rk sel k=rk sel N->W σ' H'->Inv (X.gen B sc N' code sC HC fp) (bX Ss s₀.heap) σ' H' s->tn k s.heap->(∀b∈fp,H' b=none) ->
   Seg (model X.prog X.w) B (EU X B sc N' code sC HC fp Ss (rk sel N) λ_=>W) (rF X B sc N' code sC HC fp Ss (UT sel N tn) (rk sel N) R λ_=>W) n s₀ (.compLoop (.GeneratorExp elt [⟨tg,iter,[c],0⟩] sc pos) 0 (.ref it) .none (X.gen B sc N' code sC HC fp).env)
    ((model X.prog X.w).den (.compLoop (.GeneratorExp elt [⟨tg,iter,[c],0⟩] sc pos) 0 (.ref it) .none (X.gen B sc N' code sC HC fp).env)) [] s:=by
 have Pb:∀{h:Heap},∀p∈bX Ss h,p.1∉fp:=λp hp hb=>yz p.1 hb (sZ hp)
 intro d
 induction d with
 |zero=>
  intro k n σ' H' s₀ s hd hn w I st fr
  obtain rfl:k=N:=by omega
  obtain rfl:n=0:=by omega
  show Seg _ B _ _ _ s₀ _ ((compTurn (.GeneratorExp elt [⟨tg,iter,[c],0⟩] sc pos) 0 (.ref it) .none (X.gen B sc N' code sC HC fp).env).onRaise (leaving (X.gen B sc N' code sC HC fp).env)) [] s
  rw[compTurn_gen,Sem.onRaise_eq_wrap]
  refine seg_bind_wrap (wpAny_standAt ?_)
  refine seg_bind_wrap ?_
  rw[fq]
  refine fN (T.done (X.gen B sc N' code sC HC fp) rfl rfl rfl hc k _ s σ' H' _ I (rG I fr Pb) st (stop σ' H' w)) λr s1 ⟨hr,I1⟩=> ?_
  subst hr
  exact seg_end (.ok .next) ⟨rfl,rfl,σ',H',I1,w⟩
 |succ d ih=>
  intro k n σ' H' s₀ s hd hn w I st fr
  have hk:k<N:=by omega
  obtain⟨go,step⟩:=turn k σ' H' hk w
  show Seg _ B _ _ _ s₀ _ ((compTurn (.GeneratorExp elt [⟨tg,iter,[c],0⟩] sc pos) 0 (.ref it) .none (X.gen B sc N' code sC HC fp).env).onRaise (leaving (X.gen B sc N' code sC HC fp).env)) [] s
  rw[compTurn_gen,Sem.onRaise_eq_wrap]
  refine seg_bind_wrap (wpAny_standAt ?_)
  refine seg_bind_wrap ?_
  rw[fq]
  refine fN (T.item (X.gen B sc N' code sC HC fp) rfl rfl rfl hc k _ s σ' H' _ I (rG I fr Pb) st go) λr s1 ⟨u,hr,h1⟩=> ?_
  subst hr
  refine seg_bind_wrap ?_
  rw[fq]
  refine wpAny_mono h1 (λ_ s2 ⟨x,H2,I2,r2,y2,st2,Pc⟩=> ?_) λ_ _ z=>z
  have UA:=I2.pinned (rG I2 Pc Pb) (T.obj _ _ st2)
  refine seg_bind_wrap ?_
  rw[fq]
  refine wpAny_mono (hg _ s2 σ' H2 x u _ UA r2 (step x H2 y2)) (λ_ s3 ⟨σ3,H3,I3,q3⟩=> ?_) λ_ _ z=>z.elim
  simp only[List.forIn_cons,List.forIn_nil,if_true]
  refine seg_bind_wrap ?_
  rw[fq]
  refine wpAny_bind (wpAny_bind (wpAny_mono (ht _ s3 σ3 H3 _ I3 q3) (λok UU ⟨UW,SO,ek,Qt⟩=>wpAny_pure (wpAny_pure ?_)) λ_ _ z=>z.elim))
  subst ek
  have r1:=kU sel k
  cases hs:sel k with
  |false=>
   rw[hs]at Qt r1
   rw[if_neg Bool.false_ne_true]at Qt r1
   have Rj:tn (k+1) UU.heap:=T.keep _ _ _ st2 λb hb o e=>(SO.pin (b,o) (List.mem_append_right _ (List.mem_append_right _ (bC hb e)))).1
   have Pd:∀b∈fp,UW b=none:=λb hb=>by
    obtain⟨o,e,d⟩:=T.obj _ _ st2 b hb
    exact(SO.pin (b,o) (List.mem_append_right _ (List.mem_append_right _ (bC hb e)))).2.1
   simp only[Bool.false_eq_true,if_false]
   exact seg_again rfl (ih (k+1) n σ3 UW s₀ UU (by omega) (by omega) Qt SO.ig Rj Pd)
  |true=>
  rw[hs]at Qt r1
  rw[if_pos rfl]at Qt r1
  have mono:=yQ sel (show k+1<=N by omega)
  obtain⟨n,rfl⟩:∃n',n=n'+1:=⟨n-1,by omega⟩
  have hy:∀v,yieldOut (X.gen B sc N' code sC HC fp).env v=yieldValue v:=λv=>by
   have q:(X.gen B sc N' code sC HC fp).env.scope.isCoroutine=false:=hco
   simp only[yieldOut,q,Bool.false_eq_true,if_false]
  simp only[if_true,hy]
  rw[Sem.bind_eq_wrap',Sem.bind_eq_wrap',Sem.wrap_wrap,Sem.wrap_wrap]
  refine seg_wrap ?_
  rw[fq]
  refine wpAny_mono (he _ UU σ3 UW _ SO Qt) (λv s4 ⟨y,H4,I4,r4,hR,w4⟩=> ?_) λ_ _ z=>z.elim
  have Rj:tn (k+1) s4.heap:=T.keep _ _ _ st2 λb hb o e=>(I4.pin (b,o) (List.mem_append_right _ (List.mem_append_right _ (bC hb e)))).1
  have Pd:∀b∈fp,H4 b=none:=λb hb=>by
   obtain⟨o,e,d⟩:=T.obj _ _ st2 b hb
   exact(I4.pin (b,o) (List.mem_append_right _ (List.mem_append_right _ (bC hb e)))).2.1
  have ei:rk sel N-n=rk sel k+1:=by omega
  have Wt:rk sel (k+1)=rk sel k+1:=r1
  refine seg_at (seg_yield rfl rfl rfl ⟨[],σ3,H4,y,(λ_ h=>nomatch h),(by rw[List.append_nil];exact I4.ig),⟨k+1,by omega,by rw[ei,Wt],.inr hs,Rj⟩,Pd,r4,by rw[ei];exact hR,w4,λs'' _ Hg st''=> ?_⟩)
  rw[ei]at st''
  rw[List.append_nil]at Hg
  obtain⟨k',hk',XZ,h0',st''⟩:=st''
  obtain rfl:k'=k+1:=MY hs (by rw[XZ,Wt]) h0'
  exact seg_again rfl (ih (k+1) n σ3 H4 s'' s'' (by omega) (by omega) w4 Hg st'' Pd)
theorem FU(hco:sc.isCoroutine=false)(hc:X.calm=true)(T:Turn X.prog X.w X.K tg J fp it tn)(hg:PG (X.gen B sc N' code sC HC fp) tg g)(ht:PT (X.gen B sc N' code sC HC fp) c tt)(he:PE (X.gen B sc N' code sC HC fp) elt te)(yz:∀b∈fp,b∉Ss)
  (turn:∀k σ' H',k<N->W σ' H'->J.go k H'/\ ∀x H2,J.wL k H' x H2->g x σ' H2 λσ3 H3=>tt σ3 H3 λb H4=>b=sel k/\if b=true then te σ3 H4 λv H5=>R (rk sel k) v/\W σ3 H5 else W σ3 H4)
  (stop:∀σ' H',W σ' H'->J.stop N H'){σ':St}{H':Hp}{s:Shared}(w:W σ' H')(I:Inv (X.gen B sc N' code sC HC fp) (bX Ss s.heap) σ' H' s)(st:tn 0 s.heap)(fr:∀b∈fp,H' b=none):
  Seg (model X.prog X.w) B (EU X B sc N' code sC HC fp Ss (rk sel N) λ_=>W) (rF X B sc N' code sC HC fp Ss (UT sel N tn) (rk sel N) R λ_=>W) (rk sel N) s (.compStart (.GeneratorExp elt [⟨tg,iter,[c],0⟩] sc pos) 0 (.ref it) .none (X.gen B sc N' code sC HC fp).env)
   ((model X.prog X.w).den (.compStart (.GeneratorExp elt [⟨tg,iter,[c],0⟩] sc pos) 0 (.ref it) .none (X.gen B sc N' code sC HC fp).env)) [] s:=by
 have lp:=JQ (iter:=iter) (pos:=pos) hco hc T hg ht he yz turn stop N 0 (rk sel N) σ' H' s s (Nat.add_zero _) (Nat.add_zero _) w I st fr
 show Seg _ B _ _ _ s _ ((compStart (.GeneratorExp elt [⟨tg,iter,[c],0⟩] sc pos) 0 (.ref it) .none (X.gen B sc N' code sC HC fp).env).onRaise (leaving (X.gen B sc N' code sC HC fp).env)) [] s
 unfold compStart
 rw[Sem.onRaise_eq_wrap]
 show Seg _ B _ _ _ s _ ((ask>>=_).wrap _ _ _ _) [] s
 refine seg_bind_wrap (wpAny_askSetting ?_)
 split
 ·exact seg_again rfl lp
 ·first
   |exact seg_bind_wrap (wpAny_rule (seg_bind_wrap (wpAny_standAt (seg_bind_wrap (T.self _ 0 s _ _ st (seg_again rfl lp))))))
   |(refine seg_bind_wrap (wpAny_rule ?_);(show Seg _ B _ _ _ s _ ((standAt iter.pos>>=_).wrap _ _ _ _) [] s);exact seg_bind_wrap (wpAny_standAt (seg_bind_wrap (T.self _ 0 s _ _ st (seg_again rfl lp)))))
end
def Ct(k:Nat)(g:TG)(tt:TT)(te:TE)(σ:St)(F:Nat->(Nat->V->Prop) ->(Nat->St->Hp->Prop) ->Prop)(J:It)(H:Hp):Prop:=∃(N:Nat) (sel:Nat->Bool) (R:Nat->V->Prop) (W:St->Hp->Prop),W (List.replicate k none++σ) H/\
 (∀i σ' H',i<N->W σ' H'->J.go i H'/\ ∀x H2,J.wL i H' x H2->g x σ' H2 λσ3 H3=>tt σ3 H3 λb H4=>b=sel i/\if b=true then te σ3 H4 λv H5=>R (rk sel i) v/\W σ3 H5 else W σ3 H4)/\(∀σ' H',W σ' H'->J.stop N H')/\F (rk sel N) R λ_=>W
section
variable{X:Cx}{sc:Scope}{own N2:List Str}{elt iter tg c:Expr}{pos:Pos}{wi:TI}{g:TG}{tt:TT}{te:TE}{P:Addr}
theorem JR{pins:List (Addr×Obj)}{σ:St}{H0:Hp}{s0:Shared}{F:Nat->(Nat->V->Prop) ->(Nat->St->Hp->Prop) ->Prop}(more:Nat->List Addr)(hmore:∀a,∀b∈more a,a<b)(K:Ai X sc own N2 P)(hi:PI X tg iter wi)
  (hg:∀code s H fp,PG (X.gen X.A.in1.in1 sc (own++N2) code s H fp) tg g)(ht:∀code s H fp,PT (X.gen X.A.in1.in1 sc (own++N2) code s H fp) c tt)(he:∀code s H fp,PE (X.gen X.A.in1.in1 sc (own++N2) code s H fp) elt te)
  (hs:∀x,genFold iter X.env x=pure x)(I0:Inv X pins σ H0 s0)(h:wi σ H0 λJ H=>H P=some (bN P)/\Ct own.length g tt te σ F J H):
  wpAny (model X.prog X.w) X.A (eval (.GeneratorExp elt [⟨tg,iter,[c],0⟩] sc pos) X.env) (λu s5=> ∃a cnt R W sC HC fp code tn,u= .ref a/\s5.heap.objs.size=a+1/\
   uK X X.A.in1.in1 sc (own++N2) code sC HC fp (a::more a) tn cnt R W a 0 s5/\Inv X pins σ HC sC/\(∀b∈fp,ff X pins HC b)/\sC.heap.objs.size<a/\(∀b∈fp,b<sC.heap.objs.size)/\(∀i h h',tn i h->(∀b∈fp,∀o,h.get? b=some o->h'.get? b=some o) ->tn i h')/\F cnt R W) X.xe s0:=
 Ah (ifs:=[c]) (cls:=[]) (Rd:=λJ H=>Ct own.length g tt te σ F J H) more hmore K.calm K.room hi K.LW K.kind K.co K.nc K.Sz K.code K.bm hs (λcode s H fp it Lv J T hfr ⟨N,sel,R,W,w0,turn,stop,hF⟩=>
  ⟨rk sel N,R,λ_=>W,UT sel N Lv,hF,w0,λh=>⟨λz=>⟨0,Nat.zero_le _,rfl,.inl rfl,z⟩,λ ⟨k,hk,e,h0,z⟩=>by
   rcases h0 with rfl|h0
   ·exact z
   ·by_cases k0:k=0
    ·subst k0;exact z
    ·have r:=kU sel (k-1)
     rw[if_pos h0,show k-1+1=k by omega]at r
     omega⟩,λi h h' ⟨k,hk,e,h0,z⟩ kp=>⟨k,hk,e,h0,T.keep _ _ _ z kp⟩,λSs hd s'' _ Hg st''=>FU K.co K.calm T (hg code s H fp) (ht code s H fp) (he code s H fp) hd turn stop w0 Hg st'' hfr⟩) I0 h
end
def mx(val:Nat->Int):Nat->Int
 |0=>val 0
 |k+1=>if val (k+1)>mx val k then val (k+1)else mx val k
section
variable{X:Cx}{sc:Scope}{N':List Str}{code:Value}{sC:Shared}{HC:Hp}{fp:List Addr}{tn:Nat->Heap->Prop}{cnt:Nat}{R:Nat->V->Prop}{W:Nat->St->Hp->Prop}{a S:Addr}{pins:List (Addr×Obj)}{σ:St}{Rr:Result->Shared->Prop}
theorem uK.RH{Ss:List Addr}{D:Around}{s:Shared}{Q:Option Value->Shared->Prop}{E:Value->Shared->Prop}(G:uK X D.in1 sc N' code sC HC fp Ss tn cnt R W a cnt s)(IC:Inv X pins σ HC sC)(hf:∀b∈fp,ff X pins HC b)(hh:D.handled=none)(hroom:D.depth<recursionLimit)(hs:∀b∈Ss,∃o,s.heap.get? b=some o)
  (hQ:∀s' σ' H',Inv X pins σ H' s'->W cnt σ' H'->(∀b∈Ss,H' b=none/\ ∀o,s.heap.get? b=some o->s'.heap.get? b=some o) ->Q none s'):
  wpAny (model X.prog X.w) D (pyNext (.ref a)) Q E s:=by
 obtain⟨gs,pl,σ',H',hpl,e1,e2,I,st,fr,w,go⟩:=G.ex
 have gg:=go (s.setGen sC.gens.size .running) hs I st
 rw[Nat.sub_self]at gg
 refine wpAny_pyNext_genexpQ (P:=λn s₀ s₁=>n=0/\ ∃σ' H',Inv (X.gen D.in1 sc N' code sC HC fp) (bX Ss s₀.heap) σ' H' s₁/\W cnt σ' H') hh I.Ag hroom G.gen e1 gg (λv s1 gs' hb hy=> ?_) (λs1 hp h' k=> ?_)
 ·obtain⟨Sx,σ1,H1,x,Pe,I1,st1,Pf,r1,hR,w1,Qp⟩:=hy
  have kp:∀b∈Ss,∀o,s.heap.get? b=some o->s1.heap.get? b=some o:=λb hb o e=>(I1.pin (b,o) (List.mem_append_right _ (List.mem_append_left _ (bC hb e)))).1
  have eq:bX Ss s1.heap=bX Ss s.heap:=jM λb hb=>let⟨o,e⟩:=hs b hb;⟨o,e,kp b hb o e⟩
  exact False.elim (Qp s1 (λb hb=>let⟨o,e⟩:=hs b hb;⟨o,kp b hb o e⟩) (by rw[eq];exact I1) st1)
 ·obtain⟨_,σ1,H1,I1,w1⟩:=hp
  have I2:=Inv.Ib (gs:= .finished) IC hf rfl I1
  refine hQ _ σ1 H1 (I2.kept (t':=s1.toks) k) w1 λb hb=>⟨?_,λo e=> ?_⟩
  ·obtain⟨o,e⟩:=hs b hb
   exact(I1.pin (b,o) (List.mem_append_right _ (bC hb e))).2.1
  ·exact k _ _ (I1.pin (b,o) (List.mem_append_right _ (bC hb e))).1
theorem FW(IC:Inv X pins σ HC sC)(hf:∀b∈fp,ff X pins HC b)(hh:X.A.handled=none)(hroom:X.A.depth<recursionLimit)(DJ:a≠S)(hC:sC.heap.objs.size<S)(hfp:∀b∈fp,b≠S)
  (xR:∀i h h',tn i h->(∀b∈fp,∀o,h.get? b=some o->h'.get? b=some o) ->tn i h')(val:Nat->Int)(hval:∀i v,i<cnt->R i v->v= .int (val i)):∀(k j:Nat) (s:Shared) (tA:Tok) (c:Nat),cnt- (j+1)=k->j+1<=cnt->
  uK X X.A.in1.in1 sc N' code sC HC fp [a,S] tn cnt R W a (j+1) s->s.heap.get? S=some {cls:= .type "list",dict:=none,data:= .seq #[.int (mx val j) tA,.int (mx val j) tA] c,slots:= #[]} ->
  (∀s' t' σ' H',Inv X pins σ H' s'->W cnt σ' H'->Rr (.ok (.ret (.int (mx val (cnt-1)) t'))) s') ->codeAny (model X.prog X.w) X.A (.builtin "max.loop" ⟨[.ref a,.none,.ref S],[]⟩) Rr s:=by
 have hname:(toString "max"++toString ".loop":String)= "max.loop":=by decide
 intro k
 induction k with
 |zero=>
  intro j s tA c hk hj G hS hR
  have ej:j+1=cnt:=by omega
  rw[ej]at G
  refine codeAny_builtin PySem.F.entry_max_loop (by
   rw[Around.under_plainId PySem.F.plain_max_loop _]
   show wpAny _ X.A.in1 (seqItems? (.ref S)>>=_) _ _ s
   refine wpAny_bind (wpAny_seqItems hS rfl ?_)
   show wpAny _ X.A.in1 (tryCatch (pyNext (.ref a)) _>>=_) _ _ s
   have ex:∀b∈ [a,S],∃o,s.heap.get? b=some o:=λb hb=>by
    rcases List.mem_cons.mp hb with z|z
    ·obtain⟨o,_,_,q,_⟩:=G.gen;rw[z];exact⟨o,q⟩
    ·rw[List.mem_singleton.mp z];exact⟨_,hS⟩
   refine wpAny_bind (wpAny_tryCatch (G.RH (D:=X.A.in1) IC hf hh hroom ex λs' σ' H' I' w' kp=> ?_))
   have hS':=(kp S (by simp)).2 _ hS
   show wpAny _ X.A.in1 (updateSeq S (λ_=> #[])>>=_) _ _ _
   refine wpAny_bind (wpAny_updateSeq hS' rfl (wpAny_bind (wpAny_letGo (wpAny_pure ?_))))
   have ec:cnt-1=j:=by omega
   have q:=hR _ tA σ' H' (I'.turned (it:=S) (t':=s'.toks) (h':=s'.heap.update S (Obj.mapSeq λ_=> #[])) (λb o hb e=>(Heap.get?_update_other _ _ (Ne.symm hb)).trans e) (kp S (by simp)).1 (Ne.symm (Nat.ne_of_lt (Nat.lt_trans IC.lt hC))) (.inr (Nat.le_trans IC.sz (Nat.le_of_lt hC)))
    (λy c hc z=>by obtain⟨v,q⟩:=IC.cell y c hc;rw[z]at q;exact absurd (Nat.lt_trans q.lt hC) (Nat.lt_irrefl _))
    (λp hp z=>by have q:=(IC.pin p hp).1;rw[z]at q;exact absurd (Nat.lt_trans (Heap.lt_size q) hC) (Nat.lt_irrefl _))) w'
   rw[ec]at q
   exact q)
 |succ k ih=>
  intro j s tA c hk hj G hS hR
  have hlt:j+1<cnt:=by omega
  have ex:∀b∈ [a,S],∃o,s.heap.get? b=some o:=λb hb=>by
   rcases List.mem_cons.mp hb with z|z
   ·obtain⟨o,_,_,q,_⟩:=G.gen;rw[z];exact⟨o,q⟩
   ·rw[List.mem_singleton.mp z];exact⟨_,hS⟩
  refine codeAny_builtin PySem.F.entry_max_loop (by
   rw[Around.under_plainId PySem.F.plain_max_loop _]
   show wpAny _ X.A.in1 (seqItems? (.ref S)>>=_) _ _ s
   refine wpAny_bind (wpAny_seqItems hS rfl ?_)
   show wpAny _ X.A.in1 (tryCatch (pyNext (.ref a)) _>>=_) _ _ s
   refine wpAny_bind (wpAny_tryCatch (G.item (D:=X.A.in1) hh hroom (by simp) ex hlt λv x s' rx LV G' kp=> ?_))
   obtain rfl:=hval (j+1) x hlt LV
   obtain⟨t,rfl⟩:=rx
   have hS':=kp S (by simp) _ hS
   show wpAny _ X.A.in1 (tryCatch (holding [Value.int (val (j+1)) t,Value.int (val (j+1)) t] (richCompare .Gt (Value.int (val (j+1)) t) (Value.int (mx val j) tA)>>=_)) _>>=_) _ _ _
   refine wpAny_bind (wpAny_tryCatch (wpAny_holding (wpAny_bind (PySem.CmpOf.ints_gt (P:=λi v=>(i=0/\v=Value.int (val (j+1)) t)∨(i=1/\v=Value.int (mx val j) tA)) (λi=>if i=0 then val (j+1)else mx val j) (λi v h=>by
    rcases h with⟨rfl,rfl⟩|⟨rfl,rfl⟩
    ·exact⟨_,rfl⟩
    ·exact⟨_,rfl⟩) 0 1 _ _ _ _ _ (.inl ⟨rfl,rfl⟩) (.inr ⟨rfl,rfl⟩) ?_))))
   refine wpAny_bind (wpAny_holding (wpAny_truthy_bool ?_))
   refine wpAny_bind (wpAny_letGo (wpAny_pure ?_))
   show wpAny _ X.A.in1 (if decide (val (j+1)>mx val j)=true then _ else _) _ _ _
   by_cases hb:val (j+1)>mx val j
   ·rw[if_pos (decide_eq_true hb)]
    refine wpAny_bind ?_
    refine wpAny_updateSeq hS' rfl (wpAny_bind (wpAny_letGo ?_))
    rw[hname]
    have e1:mx val (j+1)=val (j+1):=by show(if _ then _ else _)=_;rw[if_pos hb]
    have Ig:=Heap.get?_update_self (Obj.mapSeq λ_=> #[Value.int (val (j+1)) t,Value.int (val (j+1)) t]) hS' rfl
    obtain⟨c',Yb⟩:∃c',(s'.heap.update S (Obj.mapSeq λ_=> #[Value.int (val (j+1)) t,Value.int (val (j+1)) t])).get? S=some {cls:= .type "list",dict:=none,data:= .seq #[.int (val (j+1)) t,.int (val (j+1)) t] c',slots:= #[]}:=⟨_,Ig⟩
    exact wpAny_pure ⟨plainId_quiet PySem.F.plain_max_loop _,ih (j+1) _ t c' (by omega) hlt (G'.frame (tk:=s'.toks) DJ hC hfp xR (.inl ⟨_,hS'⟩) (λb o hb e=>(Heap.get?_update_other _ _ (Ne.symm hb)).trans e) Ig (λv z=>by cases z)) (by rw[e1];exact Yb) hR⟩
   ·rw[if_neg (λz=>hb (of_decide_eq_true z))]
    refine wpAny_bind (wpAny_letGo ?_)
    rw[hname]
    have e1:mx val (j+1)=mx val j:=by show(if _ then _ else _)=_;rw[if_neg hb]
    refine wpAny_pure ⟨plainId_quiet PySem.F.plain_max_loop _,ih (j+1) _ tA c (by omega) hlt G' ?_ hR⟩
    rw[e1]
    exact hS')
theorem FY{Q:Value->Shared->Prop}{E:Value->Shared->Prop}{s:Shared}(IC:Inv X pins σ HC sC)(hf:∀b∈fp,ff X pins HC b)(hh:X.A.handled=none)(hroom:X.A.depth<recursionLimit)(hsz:s.heap.objs.size=a+1)(hC:sC.heap.objs.size<a)(hlt:∀b∈fp,b<sC.heap.objs.size)
  (xR:∀i h h',tn i h->(∀b∈fp,∀o,h.get? b=some o->h'.get? b=some o) ->tn i h')(hn:0<cnt)(val:Nat->Int)(hval:∀i v,i<cnt->R i v->v= .int (val i))(G:uK X X.A.in1.in1 sc N' code sC HC fp [a,a+1] tn cnt R W a 0 s)
  (hQ:∀s' t' σ' H',Inv X pins σ H' s'->W cnt σ' H'->Q (.int (mx val (cnt-1)) t') s'):wpAny (model X.prog X.w) X.A (call (.builtin "max") [.ref a]) Q E s:=by
 have hname:(toString "max"++toString ".loop":String)= "max.loop":=by decide
 refine call_function_tree PySem.F.kind_max PySem.F.plain_max PySem.F.entry_max (PySem.F.args_max1 _) ?_
 show wpAny _ X.A.in1 (Builtin.Builtins.bindParams "max" ["key","default"] 0 ⟨[],[]⟩>>=_) _ _ s
 refine wpAny_bind (wpAny_of_eq (show Builtin.Builtins.bindParams "max" ["key","default"] 0 ⟨[],[]⟩=pure [none,none]from rfl) ?_)
 refine wpAny_bind (wpAny_pure ?_)
 refine wpAny_bind (wpAny_pyIter_gen G.gen ?_)
 refine wpAny_bind (wpAny_newObj_type ?_)
 rw[hname]
 have DJ:a≠a+1:=Nat.ne_of_lt (Nat.lt_succ_self _)
 have NV:sC.heap.objs.size<a+1:=Nat.lt_succ_of_lt hC
 have Qq:∀b∈fp,b≠a+1:=λb hb=>Nat.ne_of_lt (Nat.lt_trans (hlt b hb) NV)
 refine wpAny_pure ⟨plainId_quiet PySem.F.plain_max_loop _,?_⟩
 rw[hsz]
 have eS:(s.heap.push {cls:= .type "list",dict:=none,data:= .seq #[]}).get? (a+1)=some {cls:= .type "list",dict:=none,data:= .seq #[]}:=by
  rw[<-hsz];exact Heap.get?_push_size _ rfl
 have G1:=G.frame (tk:=s.toks) DJ NV Qq xR (.inr (Nat.le_of_eq hsz)) (λb o _ e=>Heap.get?_push_of_some _ e) eS (λv z=>by cases z)
 refine codeAny_builtin PySem.F.entry_max_loop (by
  rw[Around.under_plainId PySem.F.plain_max_loop _]
  show wpAny _ X.A.in1 (seqItems? (.ref (a+1))>>=_) _ _ _
  refine wpAny_bind (wpAny_seqItems eS rfl ?_)
  show wpAny _ X.A.in1 (tryCatch (pyNext (.ref a)) _>>=_) _ _ _
  have ex:∀b∈ [a,a+1],∃o,(s.heap.push {cls:= .type "list",dict:=none,data:= .seq #[]}).get? b=some o:=λb hb=>by
   rcases List.mem_cons.mp hb with z|z
   ·obtain⟨o,_,_,q,_⟩:=G1.gen;rw[z];exact⟨o,q⟩
   ·rw[List.mem_singleton.mp z];exact⟨_,eS⟩
  refine wpAny_bind (wpAny_tryCatch (G1.item (D:=X.A.in1) hh hroom (by simp) ex hn λv x s' rx LV G' kp=> ?_))
  obtain rfl:=hval 0 x hn LV
  obtain⟨t,rfl⟩:=rx
  have hS':=kp (a+1) (by simp) _ eS
  show wpAny _ X.A.in1 (updateSeq (a+1) (λ_=> #[Value.int (val 0) t,Value.int (val 0) t])>>=_) _ _ _
  refine wpAny_bind ?_
  refine wpAny_updateSeq hS' rfl ?_
  rw[hname]
  have Ig:=Heap.get?_update_self (Obj.mapSeq λ_=> #[Value.int (val 0) t,Value.int (val 0) t]) hS' rfl
  exact wpAny_pure ⟨plainId_quiet PySem.F.plain_max_loop _,FW IC hf hh hroom DJ NV Qq xR val hval _ 0 _ t _ rfl hn (G'.frame (tk:=s'.toks) DJ NV Qq xR (.inl ⟨_,hS'⟩) (λb o hb e=>(Heap.get?_update_other _ _ (Ne.symm hb)).trans e) Ig (λv z=>by cases z)) Ig hQ⟩)
end
def JS(k:Nat)(P:Addr)(g:TG)(tt:TT)(te:TE)(σ:St)(J:It)(H1:Hp)(Q:VK):Prop:=H1 P=some (bN P)/\Ct k g tt te σ (λcnt R W=>0<cnt/\ ∃val:Nat->Int,(∀i v,i<cnt->R i v->v= .int (val i))/\ ∀σ' H',W cnt σ' H'->Q (.int (mx val (cnt-1))) H') J H1
def PC(k:Nat)(P:Addr)(wi:TI)(g:TG)(tt:TT)(te:TE):TE:=λσ H Q=>wi σ H λJ H1=>JS k P g tt te σ J H1 Q
section
variable{X:Cx}{sc:Scope}{N2:List Str}{x:Str}{px:Pos}{elt iter c:Expr}{gb p pos:Pos}{wi:TI}{tt:TT}{te:TE}{P:Addr}
theorem JT(hc:X.calm=true)(hr:X.A.depth<recursionLimit)(cd:fY X.K X.env.code P)(bm:BM X.mg X.base)(Aj:Gl X "max")(hm:X.mg "max"=none)(hi:PI X (.Name x px) iter wi)(hB:BY sc X.env.scope.names [x] N2 X.N=true)
  (ht:∀code s H fp,PT (X.gen X.A.in1.in1 sc ([x]++N2) code s H fp) c tt)(he:∀code s H fp,PE (X.gen X.A.in1.in1 sc ([x]++N2) code s H fp) elt te)
  (hs:∀x,genFold iter X.env x=pure x:=by intro _;rfl)(hst:starEach [.GeneratorExp elt [⟨.Name x px,iter,[c],0⟩] sc gb] X.env=[(false,eval (.GeneratorExp elt [⟨.Name x px,iter,[c],0⟩] sc gb) X.env)]:=by rfl):
  PE X (.Call (.Name "max" p) [.GeneratorExp elt [⟨.Name x px,iter,[c],0⟩] sc gb] [] pos) (PC 1 P wi (bV 0) tt te):=by
 have K:=oh hc hr cd bm hB
 intro pins s σ H Q I h
 refine wpAny_Call_Name_kw (jU I Aj hm PyProof.Rows.boot_max ?_)
 refine PyProof.Rows.callWith_builtin1 ?_ hst rfl
 rw[hst]
 refine Calls.spliced_cons (fN (JR (own:=[x]) (pos:=gb) (λa=>[a+1]) (λa b hb=>by rw[List.mem_singleton.mp hb];exact Nat.lt_succ_self _) K hi (λcode s H fp=>BX K.LW K.nc code s H fp) ht he hs I h) λu s5 h5=> ?_)
 obtain⟨a,cnt,R,W,sC,HC,fp,code,tn,rfl,hsz,G,IC,hf,hC,hlt,xR,hn,val,hval,hq⟩:=h5
 exact Calls.spliced_nil (FY IC hf (I.ok.hd K.calm) K.room hsz hC hlt xR hn val hval G λs' t' σ' H' I' w'=>⟨.int (mx val (cnt-1)),H',I',⟨_,rfl⟩,hq σ' H' w'⟩)
end
section
variable{X:Cx}
end
section
variable{X:Cx}{sc:Scope}{own N2:List Str}
variable{x y:Str}{px BB:Pos}{elt iter DM:Expr}{pos:Pos}{wi SA:TI}{te:TE}
end
structure UX(H1:Hp)(D:Addr)(k:Nat)(f:Nat->Nat->List V)(t:Nat)(bs:List Addr)(H':Hp):Prop where
 same:az H1 H'
 at':H' D=some (.lst (bs.map V.ref))
 fresh:∀b∈bs,H1 b=none
 nD:D∉bs
 nd:bs.Nodup
 rows:Paired (λ (i:Nat) b=>H' b=some (.lst (f (i/k) (i%k)))) (List.range t) bs
theorem MZ{σ:St}{tt:TT}{te:TE}{Q:VK}{H1:Hp}{P:Addr}(hP:H1 P=some (bN P))(sel:Nat->Bool)(ex:sel 0=true∨sel 1=true∨sel 2=true)
  (ht:∀j:Nat,j<3-> ∀H' (R:Bool->Hp->Prop),az H1 H'->(∀H2,az H' H2->R (sel j) H2) ->tt (some (.int (0+(j:Int)))::σ) H' R)
  (he:∀j:Nat,j<3-> ∀H' (Q':VK),az H1 H'->Q' (.int (0+(j:Int))) H'->te (some (.int (0+(j:Int)))::σ) H' Q')
  (hq:∀(i:Nat) H',az H1 H'->i<3->sel i=true->(∀j,i<j->j<3->sel j=false) ->Q (.int (i:Int)) H'):JS 1 P (bV 0) tt te σ (Dz 0 3) H1 Q:=by
 have r0:rk sel 0=0:=rfl
 have r1:=kU sel 0
 have r2:=kU sel 1
 have r3:=kU sel 2
 refine⟨hP,3,sel,λi v=>v= .int (if i=0 then(if sel 0=true then 0 else if sel 1=true then 1 else 2)else if i=1 then(if sel 0=true then(if sel 1=true then 1 else 2)else 2)else 2),λσ' H'=>(∃o,σ'=o::σ)/\az H1 H',⟨⟨none,rfl⟩,az.refl _⟩,λk σ' H' hk w=> ?_,λσ' H' w=>Nat.le_refl _,?_,_,λi v _ r=>r,λσ' H' w=> ?_⟩
 ·obtain⟨⟨o,rfl⟩,sm⟩:=w
  refine⟨hk,λx H2 yl=> ?_⟩
  obtain⟨e,Yc⟩:=yl
  subst e Yc
  show tt (some (.int (0+(k:Int)))::σ) H2 _
  refine ht k hk H2 _ sm λH3 s3=>⟨rfl,?_⟩
  cases hs:sel k with
  |false=>exact pK ⟨⟨_,rfl⟩,sm.trans s3⟩
  |true=>
   refine uF (he k hk H3 _ (sm.trans s3) ⟨?_,⟨_,rfl⟩,sm.trans s3⟩)
   congr 1
   rcases aB hk with rfl|rfl|rfl
   ·rw[r0]
    simp[hs]
   ·rw[r1,r0]
    cases h0:sel 0<;>simp[hs]
   ·rw[r2,r1,r0]
    cases h0:sel 0<;>cases h1:sel 1<;>simp
 ·rw[r3,r2,r1,r0]
  rcases ex with z|z|z<;>rw[z]<;>simp<;>omega
 ·rw[r3,r2,r1,r0]
  have:=λi h1 h2 h3=>hq i H' w.2 h1 h2 h3
  cases h0:sel 0<;>cases h1:sel 1<;>cases h2:sel 2<;>simp[mx,h0,h1,h2]at ex ⊢
  ·exact this 2 (by decide) h2 (λj a b=>by omega)
  ·exact this 1 (by decide) h1 (λj a b=>by rw[show j=2 by omega];exact h2)
  ·exact this 2 (by decide) h2 (λj a b=>by omega)
  ·exact this 0 (by decide) h0 (λj a b=>by rcases aB b with rfl|rfl|rfl<;>first|omega|assumption)
  ·exact this 2 (by decide) h2 (λj a b=>by omega)
  ·exact this 1 (by decide) h1 (λj a b=>by rw[show j=2 by omega];exact h2)
  ·exact this 2 (by decide) h2 (λj a b=>by omega)
def aC(m:List (List Int))(x:Nat->Int)(j:Nat):Int:=x 0*ent m 0 j+x 1*ent m 1 j+x 2*ent m 2 j
theorem FZ{m:List (List Int)}(h:cj m)(p:Int)(x a:Nat->Int):aL m (λj=>x j+a j*p)=aL m x+p*(a 0*aC m x 0+a 1*aC m x 1+a 2*aC m x 2)+p*p*aL m a:=by
 obtain⟨aa,b,c,d,e,f,⟨q1,q2,q3,q4,q5,q6⟩,q⟩:=l7 h
 obtain⟨⟨s1,s2,s3⟩,_⟩:=h
 rw[q,q,q]
 unfold aC
 rw[q1,q2,q3,s1,s2,s3,q4,q5,q6]
 grind
theorem uY{m:List (List Int)}(ev:cj m){p:Int}(hp:p∈([3,5,7,11,13]:List Int))(hd:aX m/2%p≠0){x:Nat->Int}(L:jf p x):¬(aC m x 0%p=0/\aC m x 1%p=0/\aC m x 2%p=0):=by
 rintro⟨h0,h1,h2⟩
 have p0:2<p:=by
  simp only[List.mem_cons,List.not_mem_nil,or_false]at hp
  omega
 obtain⟨k0,e0⟩:=Int.dvd_of_emod_eq_zero h0
 obtain⟨k1,e1⟩:=Int.dvd_of_emod_eq_zero h1
 obtain⟨k2,e2⟩:=Int.dvd_of_emod_eq_zero h2
 have key:∀j,j<3->x j*aX m=aC m x 0*ent (j4 m) 0 j+aC m x 1*ent (j4 m) 1 j+aC m x 2*ent (j4 m) 2 j:=λj hj=>by
  unfold aC
  rw[cZ]
  rcases aB hj with rfl|rfl|rfl<;>simp only[eK m (show 0<3 by decide) (show 0<3 by decide),eK m (show 0<3 by decide) (show 1<3 by decide),eK m (show 0<3 by decide) (show 2<3 by decide),eK m (show 1<3 by decide) (show 0<3 by decide),eK m (show 1<3 by decide) (show 1<3 by decide),eK m (show 1<3 by decide) (show 2<3 by decide),eK m (show 2<3 by decide) (show 0<3 by decide),eK m (show 2<3 by decide) (show 1<3 by decide),eK m (show 2<3 by decide) (show 2<3 by decide),uR]<;>grind
 have dv:∀j,j<3->x j%p=0:=λj hj=>by
  have k:=key j hj
  rw[e0,e1,e2]at k
  obtain⟨kd,ek⟩:=Ax ev
  have Yd:aX m/2=kd:=by omega
  rw[Yd]at hd
  have z:(x j*2*kd)%p=0:=Int.emod_eq_zero_of_dvd ⟨k0*ent (j4 m) 0 j+k1*ent (j4 m) 1 j+k2*ent (j4 m) 2 j,by rw[Int.mul_assoc,<-ek,k];grind⟩
  have z2:=(lZ hp hd).mp z
  exact(lZ hp (show(2:Int)%p≠0 by rw[bD (by decide) p0];decide)).mp z2
 rcases L.one with z|⟨z,z1⟩|⟨z,z1,z2⟩
 ·have:=dv 0 (by decide)
  rw[z,bD (by decide) (by omega)]at this
  cases this
 ·have:=dv 1 (by decide)
  rw[z1,bD (by decide) (by omega)]at this
  cases this
 ·have:=dv 2 (by decide)
  rw[z2,bD (by decide) (by omega)]at this
  cases this
structure p6(m:List (List Int))(p:Int)(x:Nat->Int)(i:Nat)(t:Int):Prop where
 hi:i<3
 sl:aC m x i%p≠0
 flat:∀j,i<j->j<3->aC m x j%p=0
 lo:0<=t
 up:t<p
 eq:(aL m x/p+t*aC m x i)%p=0
def cu(p:Int)(x:Nat->Int)(i:Nat)(t:Int):Nat->Int:=λj=>if j=i then x j+t*p else x j
def digit(n k j:Nat):Nat:=if j=0 then k/(n*n)else if j=1 then k/n%n else k%n
def dY(n:Nat)(x:Nat->Int)(k:Nat):Nat->Int:=λj=>x j+(digit n k j:Int)*n
theorem Az{m:List (List Int)}(ev:cj m){n:Nat}(hn:0<n){x:Nat->Int}(hx:aL m x%(n:Int)=0)(k:Nat):
  aL m (dY n x k)%((n:Int)*n)=0↔(aL m x/n+(digit n k 0*aC m x 0+digit n k 1*aC m x 1+digit n k 2*aC m x 2))%(n:Int)=0:=by
 have e:=FZ ev (n:Int) x (λj=>(digit n k j:Int))
 have e':aL m (dY n x k)=n*(aL m x/n+(digit n k 0*aC m x 0+digit n k 1*aC m x 1+digit n k 2*aC m x 2))+n*n*aL m (λj=>(digit n k j:Int)):=by
  show aL m (λj=>x j+(digit n k j:Int)*n)=_
  rw[e]
  have h:=Int.emod_add_mul_ediv (aL m x) n
  rw[hx]at h
  have h':aL m x=n*(aL m x/n):=by omega
  generalize aL m x/n=w at h' ⊢
  rw[h']
  grind
 rw[e',Int.add_mul_emod_self_left]
 have n0:(n:Int)≠0:=by omega
 constructor
 ·intro z
  obtain⟨c,hc⟩:=Int.dvd_of_emod_eq_zero z
  refine Int.emod_eq_zero_of_dvd ⟨c,?_⟩
  rw[Int.mul_assoc]at hc
  exact Int.eq_of_mul_eq_mul_left n0 hc
 ·intro z
  obtain⟨c,hc⟩:=Int.dvd_of_emod_eq_zero z
  exact Int.emod_eq_zero_of_dvd ⟨c,by rw[hc,Int.mul_assoc]⟩
theorem Ga{p:Int}(hp:p∈([3,5,7,11,13]:List Int)){w s a t:Int}(hs:s%p≠0)(ha:(w+a*s)%p=0)(ht:(w+t*s)%p=0)(a0:0<=a)(a1:a<p)(t0:0<=t)(t1:t<p):a=t:=by
 obtain⟨c,hc⟩:=Int.dvd_of_emod_eq_zero ha
 obtain⟨d,hd⟩:=Int.dvd_of_emod_eq_zero ht
 have z:((a-t)*s)%p=0:=Int.emod_eq_zero_of_dvd ⟨c-d,by rw[Int.sub_mul,Int.mul_sub,<-hc,<-hd];omega⟩
 have z2:=(lZ hp hs).mp z
 have e1:a%p=t%p:=Int.emod_eq_emod_iff_emod_sub_eq_zero.mpr z2
 rw[bD a0 a1,bD t0 t1]at e1
 exact e1
def gD(n i:Nat)(t:Nat):Nat:=if i=0 then t*(n*n)else if i=1 then t*n else t
theorem AA{n i t:Nat}(hn:0<n)(hi:i<3)(ht:t<n)(j:Nat)(hj:j<3):digit n (gD n i t) j=if j=i then t else 0:=by
 have nn:0<n*n:=Nat.mul_pos hn hn
 unfold digit gD
 rcases aB hi with rfl|rfl|rfl<;>rcases aB hj with rfl|rfl|rfl<;>simp
 ·exact Nat.mul_div_cancel _ nn
 ·rw[show t*(n*n)=t*n*n by rw[Nat.mul_assoc],Nat.mul_div_cancel _ hn,Nat.mul_mod_left]
 ·rw[show t*(n*n)=t*n*n by rw[Nat.mul_assoc]];exact Nat.mul_mod_left _ _
 ·exact .inr (Nat.mul_lt_mul_of_pos_right ht hn)
 ·rw[Nat.mul_div_cancel _ hn,Nat.mod_eq_of_lt ht]
 ·exact .inr (Nat.lt_of_lt_of_le ht (Nat.le_mul_of_pos_left n hn))
 ·rw[Nat.div_eq_of_lt ht];exact Nat.zero_mod _
 ·exact Nat.mod_eq_of_lt ht
theorem AB{n i t k:Nat}(hn:0<n)(hi:i<3)(ht:t<n)(hk:k<gD n i t):digit n k i<t/\ ∀j,j<i->digit n k j=0:=by
 have nn:0<n*n:=Nat.mul_pos hn hn
 unfold gD at hk
 unfold digit
 rcases aB hi with rfl|rfl|rfl
 ·simp at hk ⊢
  exact(Nat.div_lt_iff_lt_mul nn).mpr hk
 ·simp at hk ⊢
  have h1:k/n<t:=(Nat.div_lt_iff_lt_mul hn).mpr hk
  have h2:k<n*n:=Nat.lt_trans hk (Nat.mul_lt_mul_of_pos_right ht hn)
  refine⟨by rw[Nat.mod_eq_of_lt (by omega)];exact h1,?_⟩
  exact .inr h2
 ·simp at hk ⊢
  have h2:k<n*n:=Nat.lt_of_lt_of_le (Nat.lt_trans hk ht) (Nat.le_mul_of_pos_left n hn)
  have h3:k<n:=Nat.lt_trans hk ht
  refine⟨by rw[Nat.mod_eq_of_lt h3];exact hk,λj hj=> ?_⟩
  have:j=0∨j=1:=by omega
  rcases this with rfl|rfl
  ·simp;exact .inr h2
  ·simp;rw[Nat.div_eq_of_lt h3];exact Nat.zero_mod _
theorem mS{m:List (List Int)}(ev:cj m){n:Nat}(hp:(n:Int)∈([3,5,7,11,13]:List Int)){x:Nat->Int}(hx:aL m x%(n:Int)=0){i t:Nat}(F:p6 m n x i t):
  gD n i t<n*n*n/\(∀j,j<3->dY n x (gD n i t) j=cu n x i t j)/\aL m (dY n x (gD n i t))%((n:Int)*n)=0/\ ∀k,k<gD n i t-> ¬aL m (dY n x k)%((n:Int)*n)=0:=by
 have n2:2<n:=by
  simp only[List.mem_cons,List.not_mem_nil,or_false]at hp
  omega
 have hn:0<n:=by omega
 have ht:t<n:=by have:=F.up;omega
 have hi:=F.hi
 have D:=λj hj=>AA hn hi ht j hj
 have nn:0<n*n:=Nat.mul_pos hn hn
 refine⟨?_,λj hj=> ?_,?_,λk hk z=> ?_⟩
 ·unfold gD
  have h1:t*(n*n)<n*(n*n):=Nat.mul_lt_mul_of_pos_right ht nn
  have e1:n*n*n=n*(n*n):=Nat.mul_assoc ..
  have h2:t*n<=t*(n*n):=Nat.mul_le_mul_left t (Nat.le_mul_of_pos_left n hn)
  have h3:t<=t*n:=Nat.le_mul_of_pos_right t hn
  split
  ·omega
  ·split<;>omega
 ·unfold dY cu
  rw[D j hj]
  split
  ·rfl
  ·simp
 ·rw[Az ev hn hx,D 0 (by decide),D 1 (by decide),D 2 (by decide)]
  have e:=F.eq
  rcases aB hi with rfl|rfl|rfl<;>simpa using e
 ·rw[Az ev hn hx]at z
  obtain⟨h1,h2⟩:=AB hn hi ht hk
  have z':(aL m x/n+(digit n k i:Int)*aC m x i)%(n:Int)=0:=by
   rw[<-z]
   rcases aB hi with rfl|rfl|rfl
   ·obtain⟨c,hc⟩:=Int.dvd_of_emod_eq_zero (F.flat 1 (by decide) (by decide))
    obtain⟨d,hd⟩:=Int.dvd_of_emod_eq_zero (F.flat 2 (by decide) (by decide))
    rw[hc,hd]
    symm
    refine kT (k:=digit n k 1*c+digit n k 2*d) ?_
    grind
   ·obtain⟨d,hd⟩:=Int.dvd_of_emod_eq_zero (F.flat 2 (by decide) (by decide))
    rw[hd,h2 0 (by decide)]
    symm
    refine kT (k:=digit n k 2*d) ?_
    grind
   ·rw[h2 0 (by decide),h2 1 (by decide)]
    simp
  have:=Ga hp F.sl z' F.eq (by omega) (by omega) (by omega) (by omega)
  omega
theorem yR{m:List (List Int)}(ev:cj m){p:Int}(hp:p∈([3,5,7,11,13]:List Int))(hd:aX m/2%p≠0){x:Nat->Int}(L:jf p x):∃(i t:Nat),p6 m p x i t:=by
 have p0:2<p:=by
  simp only[List.mem_cons,List.not_mem_nil,or_false]at hp
  omega
 have ex:=uY ev hp hd L
 obtain⟨i,hi,si,fl⟩:∃i,i<3/\aC m x i%p≠0/\ ∀j,i<j->j<3->aC m x j%p=0:=by
  by_cases z2:aC m x 2%p=0
  ·by_cases z1:aC m x 1%p=0
   ·exact⟨0,by decide,λz0=>ex ⟨z0,z1,z2⟩,λj a b=>by rcases aB b with rfl|rfl|rfl<;>first|omega|assumption⟩
   ·exact⟨1,by decide,z1,λj a b=>by rw[show j=2 by omega];exact z2⟩
  ·exact⟨2,by decide,z2,λj a b=>by omega⟩
 obtain⟨u,hu,eu⟩:=ow hp si
 have t0:=Int.emod_nonneg (-(aL m x/p)*(1+(u:Int))) (show p≠0 by omega)
 have t1:=Int.emod_lt_of_pos (-(aL m x/p)*(1+(u:Int))) (show 0<p by omega)
 refine⟨i,(-(aL m x/p)*(1+(u:Int))%p).toNat,hi,si,fl,by omega,by omega,?_⟩
 rw[Int.toNat_of_nonneg t0]
 obtain⟨k,hk⟩:=f9 (show(1+(u:Int))*aC m x i%p=1%p by rw[eu];exact(bD (by decide) (by omega)).symm)
 have e2:=Int.emod_add_mul_ediv (-(aL m x/p)*(1+(u:Int))) p
 generalize(1+(u:Int))=u' at hk e2 ⊢
 generalize aL m x/p=w at e2 ⊢
 generalize-w*u'%p=y at e2 ⊢
 refine Int.emod_eq_zero_of_dvd ⟨-(w*k) - (-w*u'/p)*aC m x i,?_⟩
 generalize-w*u'/p=v at e2 ⊢
 have e3:y= -w*u'-p*v:=by omega
 have e4:w+y*aC m x i=w-w*(u'*aC m x i) -p*(v*aC m x i):=by rw[e3];grind
 rw[e4,hk]
 grind
theorem qQ{P:Nat->Prop}{j k:Nat}(hj:P j)(fj:∀i,i<j-> ¬P i)(hk:P k)(fk:∀i,i<k-> ¬P i):j=k:=by
 rcases Nat.lt_trichotomy j k with z|z|z
 ·exact absurd hj (fk j z)
 ·exact z
 ·exact absurd hk (fj k z)
section
variable{X:Cx}
def PD(K:PySem.W.Frag):V->List V->Hp->VK->Prop:=λx vs H Q=> ∃l xs y,∃j:Nat,x= .ref l/\vs=[y]/\aS K H l xs/\pO y=true/\xs.all pO=true/\(∃z,xs[j]?=some z/\HR z y=true)/\(∀(i:Nat) z,i<j->xs[i]?=some z->HR z y=false)/\Q (.int (j:Int)) H
theorem JU:VW X "list.index" (PD X.K):=by
 intro pins s σ H x vs v us Q I rx rv h
 obtain⟨l,xs,y,j,rfl,rfl,hq,fy,fs,⟨z,ez,hz1⟩,hno,q⟩:=h
 cases rx
 obtain⟨u,rfl,ru⟩:=rv.one
 obtain⟨its,r,pl,hz⟩:=I.list hq
 obtain⟨⟨cls,dd,data,sl⟩,ho,hc,n,hd⟩:=id pl.isList
 simp only at hc hd
 subst hc hd
 have hlen:=r.length
 have hj:j<xs.length:=(List.getElem?_eq_some_iff.mp ez).1
 have at_:∀(i:Nat) (hi:i<its.length),∃w,xs[i]?=some w/\EM y its[i]=HR w y:=λi hi=>by
  obtain⟨u',h1,h2⟩:=r.get (i:=i) (x:=xs[i]'(by omega)) (List.getElem?_eq_getElem _)
  rw[List.getElem?_eq_getElem hi]at h1
  cases h1
  exact⟨_,List.getElem?_eq_getElem _,BO h2 (List.all_eq_true.mp fs _ (List.getElem_mem _))⟩
 refine call_meets PySem.F.slot_list_index ⟨_,ho,rfl⟩ PySem.F.entry_list_index (PySem.F.args_list_index_2 _ _)
  (SeqAt.list_indexAt l its.toArray n dd sl u (EM y) j (by simpa using(by omega:j<its.length)) (by have:=sizeLine_eq;omega) ?_ ?_) ⟨ho,λw hw=>qB ru fy r fs w (by simpa using hw),.int (j:Int),H,I.tok _,⟨_,rfl⟩,q⟩
 ·obtain⟨w,e1,e2⟩:=at_ j (by omega)
  rw[ez]at e1
  cases e1
  show EM y its[j]=true
  rw[e2,hz1]
 ·intro i hi hlt
  have hi':i<its.length:=by simpa using hi
  obtain⟨w,e1,e2⟩:=at_ i hi'
  show EM y its[i]=false
  rw[e2]
  exact hno i w hlt e1
theorem wO(hc:X.calm=true):nZ X (.builtin "any") (λxs H Q=> ∃p bs,xs=[.ref p]/\aS X.K H p ((bs:List Bool).map V.bl)/\Q (.bl (bs.any id)) H):=by
 intro pins s σ H xs us Q I r h
 obtain⟨p,bs,rfl,hq,q⟩:=h
 obtain⟨u,rfl,rx⟩:=vals1 r
 cases rx
 obtain⟨its,rv,pl,hz⟩:=I.list hq
 have hl:=rv.length
 rw[List.length_map]at hl
 refine call_any_walk (wpAny_pyIter_list pl.isList ?_)
 have hp:p<s.heap.objs.size:=let⟨o,n,e,_⟩:=pl;Heap.lt_size e
 refine⟨s.heap.objs.size,[s.heap.objs.size,p],[s.heap.objs.size],its.toArray.size,_,_,λi=>(bs[i]?).getD true,rfl,Walks.list (A:=X.A.in1) (show X.A.in1.handled=none from I.ok.hd hc) s.heap.objs.size p (Nat.ne_of_lt hp) its.toArray,⟨⟨_,Heap.get?_push_size _ rfl,rfl,rfl⟩,pl.isList.push _⟩,λi v s' Q' E' hv UL=> ?_,λh' tk k=> ?_⟩
 ·obtain⟨b,e1,rfl⟩:=Io rv (by simpa using hv)
  have Oa:Q' ((bs[i]?).getD true) s':=UL
  rw[e1]at Oa
  exact wpAny_truthy_bool Oa
 ·refine⟨.bl (bs.any id),H,I.kept (t':=tk) λb o e=>k b o (λz=> ?_) (Heap.get?_push_of_some _ e),?_,q⟩
  ·exact absurd (Heap.lt_size e) (by rw[List.mem_singleton.mp z];exact Nat.lt_irrefl _)
  ·have e:(List.range its.toArray.size).any (λi=>(bs[i]?).getD true)=bs.any id:=by
    rw[List.size_toArray,<-hl,Bool.eq_iff_iff,List.any_eq_true,List.any_eq_true]
    constructor
    ·rintro⟨j,hj,e⟩
     have hj':=List.mem_range.mp hj
     rw[List.getElem?_eq_getElem hj']at e
     exact⟨_,List.getElem_mem hj',e⟩
    ·rintro⟨b,hb,e⟩
     obtain⟨j,hj,rfl⟩:=List.getElem_of_mem hb
     exact⟨j,List.mem_range.mpr hj,by rw[List.getElem?_eq_getElem hj];exact e⟩
   show Value.bool _=Value.bool _
   rw[e]
end
theorem rP{J:It}{H1:Hp}{xs:List V}{σ:St}{te:TE}{Q:VK}(jw:JW J H1 xs)(hz:xs.length<=sizeLine){D:Addr}(hD:H1 D=none)(f:V->V)
  (hs:∀x∈xs,∀H' (Q':VK),az H1 H'->(∀H2,az H' H2->Q' (f x) H2) ->te (some x::σ) H' Q')
  (hq:∀H',az H1 H'->H' D=some (.lst (xs.map f)) ->Q (.ref D) H'):jt 1 (bV 0) te σ J H1 D Q:=by
 refine qE jw hz hD (λpre acc H'=>acc=pre.map f) rfl (λpre x post acc H' Q' e hl sm eD p k=> ?_) (λacc H' hl sm eD p=> ?_)
 ·subst p
  exact hs x (by rw[e];simp) H' Q' sm λH2 s2=>k (f x) H2 s2 (by simp)
 ·subst p
  exact hq H' sm eD
theorem fJ(m:List (List Int))(x y:Nat->Int):bH m x y=aC m x 0*y 0+aC m x 1*y 1+aC m x 2*y 2:=by
 rw[cN]
 unfold aC
 grind
theorem p7{m:List (List Int)}{p:Int}{x y:Nat->Int}(e:∀i,i<3->x i%p=y i%p)(j:Nat):aC m x j%p=aC m y j%p:=by
 obtain⟨k0,h0⟩:=f9 (e 0 (by decide))
 obtain⟨k1,h1⟩:=f9 (e 1 (by decide))
 obtain⟨k2,h2⟩:=f9 (e 2 (by decide))
 unfold aC
 rw[h0,h1,h2]
 refine kT (k:=k0*ent m 0 j+k1*ent m 1 j+k2*ent m 2 j) ?_
 grind
theorem pC(p:Int)(x:Nat->Int)(i:Nat)(t:Int)(j:Nat):cu p x i t j%p=x j%p:=by
 unfold cu
 split
 ·exact kT (k:=t) (by rw[Int.mul_comm])
 ·rfl
theorem uZ{m:List (List Int)}(ev:cj m){p:Int}{x:Nat->Int}(L:jf p x)(hc:aL m x%p=0){i:Nat}{t:Int}(F:p6 m p x i t):∃l,l<3/\l≠i/\x l=1/\ ∀j,j<l->x j=0:=by
 have e:=gw ev x
 rw[fJ]at e
 have hi:=F.hi
 have done:∀l,l<3->x l=1->(∀j,j<l->x j=0) ->l≠i:=λl hl h1 h0 z=>by
  subst z
  apply F.sl
  obtain⟨c,hc'⟩:=Int.dvd_of_emod_eq_zero hc
  rw[hc']at e
  rcases aB hl with rfl|rfl|rfl
  ·obtain⟨c1,d1⟩:=Int.dvd_of_emod_eq_zero (F.flat 1 (by decide) (by decide))
   obtain⟨c2,d2⟩:=Int.dvd_of_emod_eq_zero (F.flat 2 (by decide) (by decide))
   rw[h1,d1,d2]at e
   exact Int.emod_eq_zero_of_dvd ⟨2*c-c1*x 1-c2*x 2,by grind⟩
  ·obtain⟨c2,d2⟩:=Int.dvd_of_emod_eq_zero (F.flat 2 (by decide) (by decide))
   rw[h1,h0 0 (by decide),d2]at e
   exact Int.emod_eq_zero_of_dvd ⟨2*c-c2*x 2,by grind⟩
  ·rw[h1,h0 0 (by decide),h0 1 (by decide)]at e
   exact Int.emod_eq_zero_of_dvd ⟨2*c,by grind⟩
 rcases L.one with z|⟨z,z1⟩|⟨z,z1,z2⟩
 ·exact⟨0,by decide,done 0 (by decide) z (λj hj=>by omega),z,λj hj=>by omega⟩
 ·have h0:∀j,j<1->x j=0:=λj hj=>by rw[show j=0 by omega];exact z
  exact⟨1,by decide,done 1 (by decide) z1 h0,z1,h0⟩
 ·have h0:∀j,j<2->x j=0:=λj hj=>by
   have:j=0∨j=1:=by omega
   rcases this with rfl|rfl
   ·exact z
   ·exact z1
  exact⟨2,by decide,done 2 (by decide) z2 h0,z2,h0⟩
structure oA(m:List (List Int))(p:Int)(x:Nat->Int)(i l o:Nat)(t c:Int):Prop where
 F:p6 m p x i t
 L:jf p x
 hc:aL m x%p=0
 w:aL m (cu p x i t)%(p*p)=0
 hl:l<3
 ho:o<3
 sum:i+l+o=3
 li:l≠i
 oi:o≠i
 ol:o≠l
 one:x l=1
 lo:0<=c
 up:c<p
 eq:(aC m x o+c*aC m x i)%p=0
def fZ(p:Int)(x:Nat->Int)(i o:Nat)(t c:Int)(k:Nat):Nat->Int:=match k with
 |0=>cu p x i t
 |1=>λj=>if j=i then c*p else if j=o then p else 0
 |_=>λj=>if j=i then p*p else 0
def stepT(p:Int)(x:Nat->Int)(i o:Nat)(t c:Int):List (List Int):=mk3 λk j=>fZ p x i o t c k j
theorem d7(p:Int)(x:Nat->Int)(i o:Nat)(t c:Int){k j:Nat}(hk:k<3)(hj:j<3):ent (stepT p x i o t c) k j=fZ p x i o t c k j:=bO _ hk hj
theorem vc{m:List (List Int)}{p:Int}{x:Nat->Int}{i l o:Nat}{t c:Int}(S:oA m p x i l o t c):aX (stepT p x i o t c)=p*p*p∨aX (stepT p x i o t c)= -(p*p*p):=by
 rw[cZ]
 simp only[d7 p x i o t c (show 0<3 by decide) (show 0<3 by decide),d7 p x i o t c (show 0<3 by decide) (show 1<3 by decide),d7 p x i o t c (show 0<3 by decide) (show 2<3 by decide),d7 p x i o t c (show 1<3 by decide) (show 0<3 by decide),d7 p x i o t c (show 1<3 by decide) (show 1<3 by decide),d7 p x i o t c (show 1<3 by decide) (show 2<3 by decide),d7 p x i o t c (show 2<3 by decide) (show 0<3 by decide),d7 p x i o t c (show 2<3 by decide) (show 1<3 by decide),d7 p x i o t c (show 2<3 by decide) (show 2<3 by decide),fZ,cu]
 have one:=S.one
 have li:=S.li
 have hs:=S.sum
 have hi:=S.F.hi
 rcases aB hi with rfl|rfl|rfl<;>rcases aB S.hl with rfl|rfl|rfl<;>rcases aB S.ho with rfl|rfl|rfl<;>first|(exfalso;omega)|(simp[one];grind)|(simp[one])
theorem oB(m:List (List Int))(a b:Int)(x y:Nat->Int):bH m (λj=>a*x j) (λj=>b*y j)=a*b*bH m x y:=by
 rw[cN,cN]
 grind
theorem rQ{m:List (List Int)}(h:cj m)(x y:Nat->Int):bH m x y=bH m y x:=by
 obtain⟨⟨s1,s2,s3⟩,_⟩:=h
 rw[cN,cN,s1,s2,s3]
 grind
theorem l8{m:List (List Int)}{x y x' y':Nat->Int}(h:∀i,i<3->x i=x' i)(k:∀i,i<3->y i=y' i):bH m x y=bH m x' y':=by
 rw[cN,cN,h 0 (by decide),h 1 (by decide),h 2 (by decide),k 0 (by decide),k 1 (by decide),k 2 (by decide)]
theorem Gb{m:List (List Int)}(ev:cj m){p:Int}{x:Nat->Int}{i l o:Nat}{t c:Int}(S:oA m p x i l o t c):∃M:List (List Int),bI M/\cj M/\ ∀a b,a<3->b<3->bH m (fZ p x i o t c a) (fZ p x i o t c b)=p*p*ent M a b:=by
 obtain⟨w,hw⟩:=Int.dvd_of_emod_eq_zero S.w
 have hi:=S.F.hi
 have ho:=S.ho
 have Ye:∃k,bH m (fZ p x i o t c 0) (fZ p x i o t c 1)=p*p*k:=by
  have e1:=p7 (m:=m) (p:=p) (x:=cu p x i t) (y:=x) (λj _=>pC p x i t j) o
  have e2:=p7 (m:=m) (p:=p) (x:=cu p x i t) (y:=x) (λj _=>pC p x i t j) i
  obtain⟨k1,h1⟩:=f9 e1
  obtain⟨k2,h2⟩:=f9 e2
  obtain⟨k3,h3⟩:=Int.dvd_of_emod_eq_zero S.eq
  refine⟨k1+c*k2+k3,?_⟩
  rw[fJ]
  have e:aC m (fZ p x i o t c 0) 0*fZ p x i o t c 1 0+aC m (fZ p x i o t c 0) 1*fZ p x i o t c 1 1+aC m (fZ p x i o t c 0) 2*fZ p x i o t c 1 2=p*(aC m (cu p x i t) o+c*aC m (cu p x i t) i):=by
   show aC m (cu p x i t) 0*_+aC m (cu p x i t) 1*_+aC m (cu p x i t) 2*_=_
   have oi:=S.oi
   simp only[fZ]
   rcases aB hi with rfl|rfl|rfl<;>rcases aB ho with rfl|rfl|rfl<;>first|(exact absurd rfl oi)|(simp;grind)
  rw[e,h1,h2]
  have:aC m x o+p*k1+c*(aC m x i+p*k2)=(aC m x o+c*aC m x i)+p*(k1+c*k2):=by grind
  rw[this,h3]
  grind
 obtain⟨k,hk⟩:=Ye
 obtain⟨z1,hz1⟩:∃z1:Nat->Int,z1=λj=>if j=i then c else if j=o then 1 else 0:=⟨_,rfl⟩
 obtain⟨z2,hz2⟩:∃z2:Nat->Int,z2=λj=>if j=i then p else 0:=⟨_,rfl⟩
 have r1:∀j,fZ p x i o t c 1 j=p*z1 j:=λj=>by
  rw[hz1]
  simp only[fZ]
  split
  ·exact Int.mul_comm ..
  ·split<;>simp
 have r2:∀j,fZ p x i o t c 2 j=p*z2 j:=λj=>by
  rw[hz2]
  simp only[fZ]
  split<;>simp
 have SK:bH m (fZ p x i o t c 0) (fZ p x i o t c 0)=p*p*(2*w):=by
  have e:=gw ev (cu p x i t)
  show bH m (cu p x i t) (cu p x i t)=_
  rw[e,hw]
  grind
 have Rx:bH m (fZ p x i o t c 0) (fZ p x i o t c 2)=p*p*aC m (cu p x i t) i:=by
  rw[fJ]
  show aC m (cu p x i t) 0*_+aC m (cu p x i t) 1*_+aC m (cu p x i t) 2*_=_
  simp only[fZ]
  rcases aB hi with rfl|rfl|rfl<;>simp<;>grind
 have SM:bH m (fZ p x i o t c 1) (fZ p x i o t c 1)=p*p*(2*aL m z1):=by
  rw[<-gw ev z1,<-oB]
  exact l8 (λj _=>r1 j) (λj _=>r1 j)
 have Ry:bH m (fZ p x i o t c 1) (fZ p x i o t c 2)=p*p*bH m z1 z2:=by
  rw[<-oB]
  exact l8 (λj _=>r1 j) (λj _=>r2 j)
 have SN:bH m (fZ p x i o t c 2) (fZ p x i o t c 2)=p*p*(2*aL m z2):=by
  rw[<-gw ev z2,<-oB]
  exact l8 (λj _=>r2 j) (λj _=>r2 j)
 refine⟨lW (2*w) (2*aL m z1) (2*aL m z2) k (aC m (cu p x i t) i) (bH m z1 z2),cD _,rK _ _ _ _ _ _,λa b ha hb=> ?_⟩
 rcases aB ha with rfl|rfl|rfl<;>rcases aB hb with rfl|rfl|rfl
 ·exact SK
 ·exact hk
 ·exact Rx
 ·exact(rQ ev _ _).trans hk
 ·exact SM
 ·exact Ry
 ·exact(rQ ev _ _).trans Rx
 ·exact(rQ ev _ _).trans Ry
 ·exact SN
theorem Gd{m:List (List Int)}(ev:cj m){n:Nat}{x:Nat->Int}{i l o:Nat}{t c:Int}(S:oA m (n:Int) x i l o t c)(hp:(n:Int)∈([3,5,7,11,13]:List Int)){k:Nat}(hk:aL m (dY n x k)%((n:Int)*n)=0)(fk:∀j,j<k-> ¬aL m (dY n x j)%((n:Int)*n)=0){a:Nat}(ha:a<3):
  bH m (dY n x k) (fZ n x i o t c a)%((n:Int)*n)=0/\ ∃d:Nat,d<n/\ ∀j,j<3->(fZ n x i o t c a j- (d:Int)*x j)%(n:Int)=0:=by
 have n2:2<n:=by
  simp only[List.mem_cons,List.not_mem_nil,or_false]at hp
  omega
 obtain⟨tn,rfl⟩:∃tn:Nat,t=(tn:Int):=⟨t.toNat,by have:=S.F.lo;omega⟩
 obtain⟨_,k2,k3,k4⟩:=mS ev hp S.hc S.F
 have ek:gD n i tn=k:=qQ (P:=λk=>aL m (dY n x k)%((n:Int)*n)=0) k3 k4 hk fk
 rw[ek]at k2
 obtain⟨M,_,_,hM⟩:=Gb ev S
 refine⟨?_,?_⟩
 ·have e:bH m (dY n x k) (fZ n x i o tn c a)=bH m (fZ n x i o tn c 0) (fZ n x i o tn c a):=l8 k2 (λ_ _=>rfl)
  rw[e,hM 0 a (by decide) ha]
  exact Int.mul_emod_right _ _
 ·rcases aB ha with rfl|rfl|rfl
  ·refine⟨1,by omega,λj hj=> ?_⟩
   have:=pC (n:Int) x i tn j
   show(cu n x i tn j-1*x j)%(n:Int)=0
   rw[Int.one_mul]
   exact Int.emod_eq_emod_iff_emod_sub_eq_zero.mp this
  ·refine⟨0,by omega,λj hj=> ?_⟩
   show((if j=i then c*(n:Int)else if j=o then(n:Int)else 0) - ((0:Nat):Int)*x j)%(n:Int)=0
   split
   ·exact Int.emod_eq_zero_of_dvd ⟨c,by rw[Int.mul_comm];simp⟩
   ·split
    ·exact Int.emod_eq_zero_of_dvd ⟨1,by simp⟩
    ·simp
  ·refine⟨0,by omega,λj hj=> ?_⟩
   show((if j=i then(n:Int)*n else 0) - ((0:Nat):Int)*x j)%(n:Int)=0
   split
   ·exact Int.emod_eq_zero_of_dvd ⟨n,by simp⟩
   ·simp
def RJ(h base:Heap)(e:Addr)(cls a0 fl:Value):Prop:=
 ∃ob ws tb ot us,h.get? e=some ob/\ob.data= .fields ws/\ob.cls=cls/\ws[0]?=some a0/\ws[2]?=some .none/\ws[1]?=some (.ref tb)/\tb≠e/\base.get? tb=none/\h.get? tb=some ot/\ot.data= .fields us/\us[3]?=some fl
structure Fl(base:Heap)(l:List Env)(e:Addr)(cls a0 fl:Value)(h:Heap):Prop where
 stay:base.StaysIn h
 new:base.get? e=none
 ZI:h.FunFrames base l
 Yg:RJ h base e cls a0 fl
section
variable{M:Model}{A:Around}{E:Value->Shared->Prop}{s:Shared}{base:Heap}{env:Env}{outer:List Env}{L e:Addr}{cls a0:Value}
end
section
variable{P:Program}{w:World}{K:PySem.W.Frag}{mg:Str->Option Value}{base:Heap}{N:List Str}{qual:Str}{scope:Scope}{f:Addr}{cd:Value}{A:Around}{outer:List Env}{s:Shared}{H:Hp}{E:XK}
end
section
variable{X:Cx}{pins:List (Addr×Obj)}{σ:St}{H:Hp}{s:Shared}
def Ends.behind(D:Ends)(i:Nat):Ends:={nx:=λσ H=>D.nx (σ.set i none) H,rt:=D.rt,bk:=λσ H=>D.bk (σ.set i none) H,ct:=λσ H=>D.ct (σ.set i none) H}
end
section
variable{X:Cx}{pins:List (Addr×Obj)}{σ:St}{H:Hp}{s:Shared}
end
end L2
namespace L2
open PySem PySem.Spec PyProof.Rows PySem.W Builtin Builtin.ObjectAttr Builtin.Getset_descriptor
section
variable{K:Frag}{x D:Addr}
structure PF(K:Frag)(D:Addr):Prop where
 ga:findIn K (.ref D) "__getattribute__"=some (some (.builtin "BaseException.__getattribute__"))
 gh:findIn K (.ref D) "__getattr__"=some none
 mb:mroIn K D (.type "BaseException")=some true
 at_:findIn K (.ref D) "__class__"=some (some (.builtin "object.__class__"))
 ZJ:specialIn K (.builtin "object.__class__") "__get__"=some (some (.builtin "getset_descriptor.__get__"))
 ZK:takesIn K (.builtin "object.__class__")=some true
 mro:mroIn K D (.type "object")=some true
 lk:∃oD,K.lookup D=some oD/\oD.cls= .type "type"
 ZL:kitCls K (.ref D) (.ref D)=some true
end
end L2
namespace L2
open PySem PySem.Spec PyProof.Rows
section
variable{P:Program}{w:World}{K:PySem.W.Frag}{mg:Str->Option Value}{base:Heap}
end
section
variable{X:Cx}{pins:List (Addr×Obj)}{σ:St}{H:Hp}{s:Shared}
structure Wu(X:Cx)(CK:Addr)(i:Nat)(n kx:Str):Prop where
 stk:X.stack=X.env::X.outer
 fr:X.env.frame=some X.env.locals
 nd:X.N.Nodup
 at_:X.N[i]?=some n
 loc:X.env.scope.names.lookup n=some .local
 gl:Gl X kx
 ZM:X.mg kx=some (.ref CK)
 db:(kx==("__debug__":Str))=false
end
structure JV(k:Nat)(A:Around):Prop where
 dp:A.depth+3*k+5<recursionLimit
 un:A.units+16*k+200<cLine
theorem JV.of{k:Nat}{A:Around}(r:gC k A):JV k A:=⟨r.dp,r.un⟩
structure Wv(P:Program)(w:World)(K:PySem.W.Frag)(mg:Str->Option Value)(base:Heap)(k:Nat)(f:Addr)(fd:FuncData)(ps:List Str)(sp:Addr->Obj->Sp):Prop where
 len:∀a oe vs H Q E,sp a oe vs H Q E->vs.length=ps.length
 run:∀(a:Addr) (oe:Obj) (A:Around) (outer:List Env) (s:Shared) (H:Hp) (args:Args) (us:List Value) (vs:List V) (Q:VK),JV k A->HQ P w K mg base A outer s H->BindsTo s fd args (ps.zip us) ->Vals vs us->
  s.heap.get? a=some oe->H a=none->a∉frs outer->(∀v,oe.data≠ .cell v) ->sp a oe vs H Q E0->codeAny (model P w) A (.call (.ref f) args) (CR cC outer P w H s Q E0) s
section
variable{X:Cx}
end
def UY:List Value:=[.type "ValueError",.type "Exception",.type "BaseException",.type "object"]
structure JX(K:PySem.W.Frag)(CK:Addr)(Cs:List Addr)(D:Addr):Prop where
 cls:PF K D
 ZN:PySem.W.exmOne K (.ref D) (.ref CK)=some true
 val:PySem.W.kitOne K (.ref D) (.type "ValueError")=some true
 exc:PySem.W.excIn K D UY "ValueError.__new__"=true
 kit:∀C∈Cs,PySem.W.kitOne K (.ref D) (.ref C)=some (decide (D=C))
structure RK(K:PySem.W.Frag)(CK:Addr)(Cs:List Addr):Prop where
 nd:Cs.Nodup
 one:∀D∈Cs,JX K CK Cs D
theorem RK.at{K:PySem.W.Frag}{CK:Addr}{Cs:List Addr}(X:RK K CK Cs)(i:Nat){D:Addr}(h:Cs[i]?=some D):JX K CK Cs D:=X.one D (List.mem_of_getElem? h)
structure cQ(P:Program)(w:World)(K:PySem.W.Frag)(mg:Str->Option Value)(base:Heap)(C:EK)(k:Nat)(x:Str)(ps:List Str)(sp:Sp):Prop where
 ex:∃f fd,qA P w K mg base C k f fd ps sp/\Binds K fd ps []/\PySem.W.keepIn K (.ref f)=true/\mg x=some (.ref f)
structure eT(K:PySem.W.Frag)(mg:Str->Option Value)(x:Str)(st:Stmt)(ps:List Str):Prop where
 ex:∃f fd,NR K x x st f fd/\Binds K fd ps []/\mg x=some (.ref f)
structure nO(K:PySem.W.Frag)(mg:Str->Option Value)(x:Str)(st:Stmt)(ps:List Str)(T:Addr):Prop where
 ex:∃f fd,Fd K x x st f fd T/\Binds K fd ps []/\mg x=some (.ref f)
section
variable{P:Program}{w:World}{K:PySem.W.Frag}{mg:Str->Option Value}{base:Heap}{C:EK}{x:Str}{st:Stmt}{N ps:List Str}{j k:Nat}{sp:Sp}{T:Addr}
theorem cQ.mono(F:cQ P w K mg base C j x ps sp)(h:j<=k):cQ P w K mg base C k x ps sp:=by
 obtain⟨f,fd,a,b⟩:=F.ex
 exact⟨f,fd,a.mono h,b⟩
theorem eT.ok(F:eT K mg x st ps)(S:aQ N ps (aA st))(len:∀vs H Q E,sp vs H Q E->vs.length=ps.length)
  (hbody:∀f (cdv:Value) (A:Around) (outer:List Env) (s:Shared) (H:Hp) (vs:List V) (Q:VK) (E:XK),gC k (A.deeper (envOfC x (aA st) s.heap.objs.size f cdv)) ->sp vs H Q E->
   ∃t,yp (yt cC P w K mg base N x (aA st) f cdv A outer s H E).GZ (eY st) t/\t {nx:=λ_ H'=>Q .gP H',rt:=Q} (start N vs) H):cQ P w K mg base cC (k+1) x ps sp:=by
 obtain⟨f,fd,a,b,m⟩:=F.ex
 exact⟨f,fd,a.ok S len (hbody f),b,a.kp,m⟩
theorem nO.ok(F:nO K mg x st ps T)(S:aQ N ps (aA st))(len:∀vs H Q E,sp vs H Q E->vs.length=ps.length)
  (hbody:∀f (cdv:Value) (A:Around) (outer:List Env) (s:Shared) (H:Hp) (vs:List V) (Q:VK) (E:XK),fY K cdv T->gC k (A.deeper (envOfC x (aA st) s.heap.objs.size f cdv)) ->sp vs H Q E->
   ∃t,yp (yt cC P w K mg base N x (aA st) f cdv A outer s H E).GZ (eY st) t/\t {nx:=λ_ H'=>Q .gP H',rt:=Q} (start N vs) H):cQ P w K mg base cC (k+1) x ps sp:=by
 obtain⟨f,fd,a,b,m⟩:=F.ex
 exact⟨f,fd,a.ok S len (hbody f),b,a.kp,m⟩
end
theorem aN{X:Cx}{CX:EK}{k:Nat}{ps:List Str}{sp:Sp}{E:XK}{x:Str}{p pos:Pos}{e:Expr}{es:List Expr}{t:TA}(F:cQ X.prog X.w X.K X.mg X.base CX k x ps sp)(hr:gC k X.A)(hg:Gl X x)(hx:Passes CX X E)(ha:PA X (e::es) t)
  (hdb:(x==("__debug__":Str))=false:=by decide)(he:starEach (e::es) X.env=(false,eval e X.env)::starEach es X.env:=by rfl)(hpl:(backTo pos (starEach es X.env)).any (·.1)=false:=by rfl):
  PE X (.Call (.Name x p) (e::es) [] pos) (jW sp [] E t):=by
 obtain⟨f,fd,a,b,kp,m⟩:=F.ex
 exact LM a hr hg m kp b .nil hx ha hdb he hpl
def FnAt(K:PySem.W.Frag)(x:Str)(st:Stmt)(f:Addr):Prop:=∃(oc:Value) (od an:Option Addr) (sl:Array (Option Value)) (kV dc pm cd ct:Value),PySem.W.nsIn K mainGlobals x=some (some (.ref f))/\
 K.lookup f=some ⟨oc,od,.func (PySem.W.fnOf x x (gQ st) (eY st) (aA st) .none kV dc pm an cd ct),sl⟩/\PySem.W.codeIn K cd x=true/\PySem.W.keepIn K (.ref f)=true
theorem fnAt{K:PySem.W.Frag}{x:Str}{st:Stmt}{f:Addr}{oc:Value}{od an:Option Addr}{sl:Array (Option Value)}{kV dc pm cd ct:Value}(a:PySem.W.nsIn K mainGlobals x=some (some (.ref f)))
  (l:K.lookup f=some ⟨oc,od,.func (PySem.W.fnOf x x (gQ st) (eY st) (aA st) .none kV dc pm an cd ct),sl⟩)(c:PySem.W.codeIn K cd x=true)(k:PySem.W.keepIn K (.ref f)=true):FnAt K x st f:=
 ⟨oc,od,an,sl,kV,dc,pm,cd,ct,a,l,c,k⟩
section
variable{q:Program}{loose:List Str}{mean:ExcName->Option Value}{mg mb:Str->Option Value}{h:Heap}{K:PySem.W.Frag}{x:Str}{st:Stmt}{f:Addr}{ps:List Str}
theorem FnAt.fun(Tp:Top q loose mean mg mb h)(X:K.In h)(A:FnAt K x st f)
  (hb:∀(kV doc pm:Value) (an:Option Addr) (cdv ct:Value) (us:List Value),us.length=ps.length->bindArgs (PySem.W.fnOf x x (gQ st) (eY st) (aA st) .none kV doc pm an cdv ct) ⟨us,[]⟩=pure (ps.zip us)):eT K mg x st ps:=by
 obtain⟨oc,od,an,sl,kV,dc,pm,cd,ct,a,l,c,k⟩:=A
 have F:=HU (st:=st) l c k
 exact⟨f,_,F,F.binds hb,PySem.W.mg_of X Tp.g a⟩
theorem FnAt.yS(Tp:Top q loose mean mg mb h)(X:K.In h)(A:FnAt K x st f){d:DefRec}(r:(recsOf q).find? (λe=>e.name==x)=some d)
  (hb:∀(kV doc pm:Value) (an:Option Addr) (cdv ct:Value) (us:List Value),us.length=ps.length->bindArgs (PySem.W.fnOf x x (gQ st) (eY st) (aA st) .none kV doc pm an cdv ct) ⟨us,[]⟩=pure (ps.zip us)):
  ∃T,nO K mg x st ps T/\isCodeTable h T/\h.get? T=some {cls:= .none,data:= .fields #[]}/\tabOf K f=some (.ref T):=by
 obtain⟨oc,od,an,sl,kV,dc,pm,cd,ct,a,l,c,k⟩:=A
 have m:=PySem.W.mg_of X Tp.g a
 obtain⟨T,cA,cT,cE⟩:=BW Tp r X m l (show PySem.W.codeIn K (PySem.W.fnOf x x (gQ st) (eY st) (aA st) .none kV dc pm an cd ct).code x=true from c)
 have F:Fd K x x st f _ T:=⟨⟨oc,od,kV,dc,pm,an,cd,ct,sl,rfl,l,c,cA⟩,k⟩
 exact⟨T,⟨f,_,F,F.fn.binds hb,m⟩,cT,cE,Al l cA⟩
end
end L2
set_option maxHeartbeats 1000000
namespace CM
open PySem L2
def top(i:Nat):Stmt:=PySem.Challenge.pw_conekin_k45_what_is_a_step.main.body.getD i (.Pass ⟨0,0,0,0⟩)
abbrev p8:Stmt:=top 7
abbrev iR:List Str:=["thing"]
theorem AD:aQ ["thing"] iR (aA p8):=⟨rfl,rfl,rfl,by decide+kernel,rfl,by decide+kernel,by decide+kernel⟩
abbrev vd:Stmt:=top 8
abbrev l9:List Str:=["thing"]
theorem Ge:aQ ["thing"] l9 (aA vd):=⟨rfl,rfl,rfl,by decide+kernel,rfl,by decide+kernel,by decide+kernel⟩
abbrev p9:Stmt:=top 9
abbrev iS:List Str:=["thing"]
theorem AE:aQ ["thing"] iS (aA p9):=⟨rfl,rfl,rfl,by decide+kernel,rfl,by decide+kernel,by decide+kernel⟩
abbrev lq:Stmt:=top 10
abbrev gG:List Str:=["table"]
theorem ve:aQ ["table"] gG (aA lq):=⟨rfl,rfl,rfl,by decide+kernel,rfl,by decide+kernel,by decide+kernel⟩
abbrev j7:Stmt:=top 11
abbrev gi:List Str:=["table","i","j"]
theorem jv:aQ ["table","i","j","row","next_row","column","next_column"] gi (aA j7):=⟨rfl,rfl,rfl,by decide+kernel,rfl,by decide+kernel,by decide+kernel⟩
abbrev lu:Stmt:=top 12
abbrev eV:List Str:=["table"]
theorem cP:aQ ["table","a","b","c","d","e","f","g","h","i"] eV (aA lu):=⟨rfl,rfl,rfl,by decide+kernel,rfl,by decide+kernel,by decide+kernel⟩
abbrev yT:Stmt:=top 13
abbrev qR:List Str:=["table"]
theorem JY:aQ ["table"] qR (aA yT):=⟨rfl,rfl,rfl,by decide+kernel,rfl,by decide+kernel,by decide+kernel⟩
abbrev jx:Stmt:=top 16
abbrev fP:List Str:=["thing"]
theorem rR:aQ ["thing"] fP (aA jx):=⟨rfl,rfl,rfl,by decide+kernel,rfl,by decide+kernel,by decide+kernel⟩
abbrev rS:Stmt:=top 17
abbrev mh:List Str:=["thing"]
theorem Cu:aQ ["thing"] mh (aA rS):=⟨rfl,rfl,rfl,by decide+kernel,rfl,by decide+kernel,by decide+kernel⟩
abbrev rT:Stmt:=top 18
abbrev jS:List Str:=["table","one","other"]
theorem mT:aQ ["table","one","other","x","y","z"] jS (aA rT):=⟨rfl,rfl,rfl,by decide+kernel,rfl,by decide+kernel,by decide+kernel⟩
abbrev yU:Stmt:=top 19
abbrev pD:List Str:=["table","row"]
theorem JZ:aQ ["table","row"] pD (aA yU):=⟨rfl,rfl,rfl,by decide+kernel,rfl,by decide+kernel,by decide+kernel⟩
abbrev rV:Stmt:=top 20
abbrev mj:List Str:=["table"]
theorem qa:aQ ["table","first","mixed"] mj (aA rV):=⟨rfl,rfl,rfl,by decide+kernel,rfl,by decide+kernel,by decide+kernel⟩
abbrev Cv:Stmt:=top 21
abbrev vf:List Str:=["form"]
theorem Ef:aQ ["form","told"] vf (aA Cv):=⟨rfl,rfl,rfl,by decide+kernel,rfl,by decide+kernel,by decide+kernel⟩
abbrev ly:Stmt:=top 24
abbrev gH:List Str:=["halved","thing"]
theorem vg:aQ ["halved","thing"] gH (aA ly):=⟨rfl,rfl,rfl,by decide+kernel,rfl,by decide+kernel,by decide+kernel⟩
abbrev iy:Stmt:=top 25
abbrev eN:List Str:=["form","p"]
theorem qb:aQ ["form","p"] eN (aA iy):=⟨rfl,rfl,rfl,by decide+kernel,rfl,by decide+kernel,by decide+kernel⟩
abbrev qc:Stmt:=top 26
abbrev iT:List Str:=["number","p"]
theorem AF:aQ ["number","p"] iT (aA qc):=⟨rfl,rfl,rfl,by decide+kernel,rfl,by decide+kernel,by decide+kernel⟩
abbrev mU:Stmt:=top 27
abbrev iz:List Str:=["form","p","row"]
theorem ja:aQ ["form","p","row","rests","leading","times"] iz (aA mU):=⟨rfl,rfl,rfl,by decide+kernel,rfl,by decide+kernel,by decide+kernel⟩
abbrev rW:Stmt:=top 28
abbrev mq:List Str:=["form","p","thing"]
theorem Cw:aQ ["form","p","thing"] mq (aA rW):=⟨rfl,rfl,rfl,by decide+kernel,rfl,by decide+kernel,by decide+kernel⟩
abbrev vh:Stmt:=top 29
abbrev oE:List Str:=["form","p","line"]
theorem Gf:aQ ["form","p","line"] oE (aA vh):=⟨rfl,rfl,rfl,by decide+kernel,rfl,by decide+kernel,by decide+kernel⟩
abbrev mV:Stmt:=top 30
abbrev iA:List Str:=["told"]
theorem wQ:aQ ["told"] iA (aA mV):=⟨rfl,rfl,rfl,by decide+kernel,rfl,by decide+kernel,by decide+kernel⟩
abbrev mW:Stmt:=top 31
abbrev iB:List Str:=["form","p","line"]
theorem gJ:aQ ["form","p","line","slants","at","times","told"] iB (aA mW):=⟨rfl,rfl,rfl,by decide+kernel,rfl,by decide+kernel,by decide+kernel⟩
abbrev iU:Stmt:=top 32
abbrev fC:List Str:=["form","p","line"]
theorem qS:aQ ["form","p","line"] fC (aA iU):=⟨rfl,rfl,rfl,by decide+kernel,rfl,by decide+kernel,by decide+kernel⟩
abbrev rX:Stmt:=top 34
abbrev mw:List Str:=["form","p","line","lifted","row"]
theorem vj:aQ ["form","p","line","lifted","row","times"] mw (aA rX):=⟨rfl,rfl,rfl,by decide+kernel,rfl,by decide+kernel,by decide+kernel⟩
abbrev lA:Stmt:=top 35
abbrev gK:List Str:=["form","p","line","table"]
theorem oF:aQ ["form","p","line","table","lifted"] gK (aA lA):=⟨rfl,rfl,rfl,by decide+kernel,rfl,by decide+kernel,by decide+kernel⟩
abbrev rY:Stmt:=top 36
abbrev mz:List Str:=["form","p","line","table"]
theorem Cy:aQ ["form","p","line","table"] mz (aA rY):=⟨rfl,rfl,rfl,by decide+kernel,rfl,by decide+kernel,by decide+kernel⟩
abbrev qd:Stmt:=top 38
abbrev j8:List Str:=["_law_script","_law_at"]
theorem jg:aQ ["_law_script","_law_at","_law_cell","_law_great"] j8 (aA qd):=⟨rfl,rfl,rfl,by decide+kernel,rfl,by decide+kernel,by decide+kernel⟩
abbrev oG:Stmt:=top 39
abbrev dN:List Str:=["_law_bag_here","_law_many"]
theorem qT:aQ ["_law_bag_here","_law_many","_law_digit"] dN (aA oG):=⟨rfl,rfl,rfl,by decide+kernel,rfl,by decide+kernel,by decide+kernel⟩
abbrev gU:Stmt:=top 40
abbrev b7:List Str:=["_law_t"]
theorem gE:aQ ["_law_t","_law_first","_law_second"] b7 (aA gU):=⟨rfl,rfl,rfl,by decide+kernel,rfl,by decide+kernel,by decide+kernel⟩
abbrev j9:Stmt:=top 41
abbrev dO:List Str:=["_law_form_here","_law_one","_law_other"]
theorem fQ:aQ ["_law_form_here","_law_one","_law_other","_law_total","_law_i","_law_j"] dO (aA j9):=⟨rfl,rfl,rfl,by decide+kernel,rfl,by decide+kernel,by decide+kernel⟩
abbrev mX:Stmt:=top 42
abbrev gx:List Str:=["_law_form_here","_law_row"]
theorem wR:aQ ["_law_form_here","_law_row"] gx (aA mX):=⟨rfl,rfl,rfl,by decide+kernel,rfl,by decide+kernel,by decide+kernel⟩
abbrev kg:Stmt:=top 43
abbrev gj:List Str:=["_law_one","_law_other"]
theorem jy:aQ ["_law_one","_law_other","_law_made","_law_row"] gj (aA kg):=⟨rfl,rfl,rfl,by decide+kernel,rfl,by decide+kernel,by decide+kernel⟩
abbrev kh:Stmt:=top 44
abbrev gk:List Str:=["_law_form_here","_law_by"]
theorem tR:aQ ["_law_form_here","_law_by"] gk (aA kh):=⟨rfl,rfl,rfl,by decide+kernel,rfl,by decide+kernel,by decide+kernel⟩
abbrev oH:Stmt:=top 45
abbrev gY:List Str:=["_law_table"]
theorem yV:aQ ["_law_table"] gY (aA oH):=⟨rfl,rfl,rfl,by decide+kernel,rfl,by decide+kernel,by decide+kernel⟩
abbrev iC:Stmt:=top 46
abbrev eO:List Str:=["_law_bag_here","_law_most"]
theorem cY:aQ ["_law_bag_here","_law_most","_law_a","_law_b","_law_c","_law_one","_law_other","_law_third"] eO (aA iC):=⟨rfl,rfl,rfl,by decide+kernel,rfl,by decide+kernel,by decide+kernel⟩
abbrev jz:Stmt:=top 47
abbrev fV:List Str:=["_law_form_here"]
theorem rZ:aQ ["_law_form_here"] fV (aA jz):=⟨rfl,rfl,rfl,by decide+kernel,rfl,by decide+kernel,by decide+kernel⟩
abbrev ki:Stmt:=top 48
abbrev gm:List Str:=["_law_bag_here","_law_most"]
theorem gR:aQ ["_law_bag_here","_law_most","_law_turn","_law_form_here","_law_last"] gm (aA ki):=⟨rfl,rfl,rfl,by decide+kernel,rfl,by decide+kernel,by decide+kernel⟩
abbrev mY:Stmt:=top 49
abbrev gy:List Str:=["_law_bag_here","_law_far"]
theorem fX:aQ ["_law_bag_here","_law_far","_law_made","_law_turn","_law_i","_law_j","_law_times"] gy (aA mY):=⟨rfl,rfl,rfl,by decide+kernel,rfl,by decide+kernel,by decide+kernel⟩
abbrev oJ:Stmt:=top 50
abbrev jh:List Str:=["_law_bag_here","_law_most"]
theorem mZ:aQ ["_law_bag_here","_law_most","_law_form_here","_law_way"] jh (aA oJ):=⟨rfl,rfl,rfl,by decide+kernel,rfl,by decide+kernel,by decide+kernel⟩
abbrev m5:Stmt:=top 51
abbrev iD:List Str:=["_law_bag_here","_law_form_here"]
theorem lB:aQ ["_law_bag_here","_law_form_here","_law_halved","_law_some"] iD (aA m5):=⟨rfl,rfl,rfl,by decide+kernel,rfl,by decide+kernel,by decide+kernel⟩
abbrev oK:Stmt:=top 52
abbrev ji:List Str:=["_law_p"]
theorem jO:aQ ["_law_p","_law_found","_law_a"] ji (aA oK):=⟨rfl,rfl,rfl,by decide+kernel,rfl,by decide+kernel,by decide+kernel⟩
abbrev m6:Stmt:=top 53
abbrev iE:List Str:=["_law_form_here","_law_p"]
theorem pQ:aQ ["_law_form_here","_law_p","_law_small"] iE (aA m6):=⟨rfl,rfl,rfl,by decide+kernel,rfl,by decide+kernel,by decide+kernel⟩
abbrev oM:Stmt:=top 54
abbrev gZ:List Str:=["_law_form_here","_law_p","_law_line"]
theorem m7:aQ ["_law_form_here","_law_p","_law_line","_law_at","_law_row"] gZ (aA oM):=⟨rfl,rfl,rfl,by decide+kernel,rfl,by decide+kernel,by decide+kernel⟩
abbrev kj:Stmt:=top 55
abbrev gn:List Str:=["_law_form_here","_law_p","_law_line","_law_up","_law_row"]
theorem tS:aQ ["_law_form_here","_law_p","_law_line","_law_up","_law_row"] gn (aA kj):=⟨rfl,rfl,rfl,by decide+kernel,rfl,by decide+kernel,by decide+kernel⟩
abbrev ko:Stmt:=top 56
abbrev gp:List Str:=["_law_form_here","_law_p","_law_line","_law_table"]
theorem nQ:aQ ["_law_form_here","_law_p","_law_line","_law_table","_law_up"] gp (aA ko):=⟨rfl,rfl,rfl,by decide+kernel,rfl,by decide+kernel,by decide+kernel⟩
abbrev lC:Stmt:=top 57
abbrev gM:List Str:=["_law_form_here","_law_p","_law_up"]
theorem dP:aQ ["_law_form_here","_law_p","_law_up","_law_pairings","_law_place","_law_unmade","_law_made","_law_k","_law_row"] gM (aA lC):=⟨rfl,rfl,rfl,by decide+kernel,rfl,by decide+kernel,by decide+kernel⟩
abbrev lD:Stmt:=top 58
abbrev gO:List Str:=["_law_rows_here"]
theorem b8:aQ ["_law_rows_here","_law_left","_law_found","_law_k","_law_some","_law_at","_law_q"] gO (aA lD):=⟨rfl,rfl,rfl,by decide+kernel,rfl,by decide+kernel,by decide+kernel⟩
abbrev oN:Stmt:=top 59
abbrev g6:List Str:=["_law_form_here","_law_p","_law_line"]
theorem qU:aQ ["_law_form_here","_law_p","_law_line","_law_up"] g6 (aA oN):=⟨rfl,rfl,rfl,by decide+kernel,rfl,by decide+kernel,by decide+kernel⟩
abbrev kq:Stmt:=top 60
abbrev gq:List Str:=["_law_bag_here","_law_form_here","_law_p","_law_some","_law_step_here"]
theorem cR:aQ ["_law_bag_here","_law_form_here","_law_p","_law_some","_law_step_here","_law_way","_law_made","_law_k"] gq (aA kq):=⟨rfl,rfl,rfl,by decide+kernel,rfl,by decide+kernel,by decide+kernel⟩
abbrev m8:Stmt:=top 61
abbrev iF:List Str:=["_law_form_here","_law_p","_law_line","_law_table","_law_due"]
theorem lE:aQ ["_law_form_here","_law_p","_law_line","_law_table","_law_due","_law_handed","_law_found"] iF (aA m8):=⟨rfl,rfl,rfl,by decide+kernel,rfl,by decide+kernel,by decide+kernel⟩
abbrev qV:Stmt:=top 62
abbrev RL:List Str:=["_law_script"]
theorem m9:aQ ["_law_script","_law_bag_here","_law_form_here","_law_p","_law_some","_law_line","_law_step_here","_law_turn","_law_table"] RL (aA qV):=⟨rfl,rfl,rfl,by decide+kernel,rfl,by decide+kernel,by decide+kernel⟩
section
variable{P:Program}{w:World}{K:PySem.W.Frag}{mg:Str->Option Value}{base:Heap}
end
end CM
set_option maxHeartbeats 1000000
namespace CM
open PySem L2
section
variable{P:Program}{w:World}{K:PySem.W.Frag}{mg:Str->Option Value}{base:Heap}
def Od(K:PySem.W.Frag):Sp:=λvs H Q _=> ∃(a:Addr) (ns:List Int) (k:Int),vs=[.ref a,.int k]/\aS K H a (ns.map V.int)/\ns.length<=63/\0<=k/\k<1000/\ ∀B H',az H H'->H B=none->gX H' B->Q (.ref B) H'
theorem AG(F:eT K mg "_law_bag" qd j8)(gB:mg "len"=none)(mC:mg "abs"=none):cQ P w K mg base cC 1 "_law_bag" j8 (Od K):=by
 refine F.ok jg (λvs H Q E h=> ?_) (λf cdv A outer s H vs Q E hr h=> ?_)
 ·obtain⟨a,ns,k,rfl,hS,h63,h0,hk,q⟩:=h
  rfl
 obtain⟨a,ns,k,rfl,hS,h63,h0,hk,q⟩:=h
 have hu:=hr.units
 refine⟨_,(lV (@ay _ _ _ _ _ (aW (i:=2) jg.nd rfl (Or.inl rfl) ah)
  (@ay _ _ _ _ _ (cI (bz NO (pv 1) (bZ eE rfl gB PySem.boot_len (af (pv 0) ak)) (aZ _)) (@aK _ _ _ (aW (i:=2) jg.nd rfl (Or.inl rfl) (aF aq (pv 0) (pv 1) (λ_ _=>rfl)))) dJ)
  (@ay _ _ _ _ _ (aW (i:=3) jg.nd rfl (Or.inl rfl) ah)
  (@ay _ _ _ _ _ (cI (bz Ra (bZ n5 rfl mC PyProof.Rows.boot_abs (af (pv 2) ak)) (av HL ah ah) (aZ _)) (@aK _ _ _ (aW (i:=3) jg.nd rfl (Or.inl rfl) (bZ n5 rfl mC PyProof.Rows.boot_abs (af (pv 2) ak)))) dJ)
  (@aK _ _ _ (aT (gS (af (pv 3) (af (av cV (av cH (av bQ (av cV (av cV (av cH (pv 2) ah) (av bQ ah (pv 1))) ah) ah) ah) ah) ak)))))))))),?_⟩
 have hl:(ns.map V.int).length=ns.length:=List.length_map _
 refine⟨_,rfl,_,rfl,a,_,rfl,.inl hS,_,_,rfl,rfl,_,rfl,IJ (λσ' H'=> ∃c:Int,H'=H/\σ'=[some (.ref a),some (.int k),some (.int c),none]) ?_ (λc hK=> ?_) ⟨0,rfl,rfl⟩⟩
 rotate_left
 ·have c':k<(((ns.map V.int).length:Nat):Int):=of_decide_eq_true c
  rw[hl]at c'
  obtain⟨z,hz⟩:=Mb h0 c'
  exact⟨_,rfl,_,rfl,a,_,_,_,rfl,rfl,hS,hz,hK _ _ ⟨z,rfl,rfl⟩⟩
 rintro σ' H' ⟨c,rfl,rfl⟩
 refine⟨_,rfl,c,rfl,_,_,rfl,rfl,⟨by decide,by decide,by decide⟩,_,_,rfl,rfl,_,rfl,IJ (λσ' H2=> ∃g:Int,0<=g/\H2=H'/\σ'=[some (.ref a),some (.int k),some (.int c),some (.int g)]) ?_ (λ_ hK=> ?_) ⟨0,Int.le_refl 0,rfl,rfl⟩⟩
 rotate_left
 ·exact⟨_,rfl,c,rfl,hK _ _ ⟨_,by split<;>omega,rfl,rfl⟩⟩
 rintro σ' H2 ⟨g,hg,rfl,rfl⟩
 refine⟨_,rfl,_,rfl,_,_,rfl,rfl,(by show(0:Int)<2147483629;decide),_,rfl,_,_,rfl,rfl,.inl ⟨by decide,by decide⟩,_,_,rfl,rfl,_,_,rfl,rfl,_,_,rfl,rfl,.inr ⟨by decide,by decide⟩,_,_,rfl,rfl,(by show(0:Int)<2147483629;decide),_,_,rfl,rfl,(by show 2<=sizeLine;decide),λB hB=> ?_⟩
 exact q B _ (az.up hB) hB ⟨g,_,au,hg,by have:=Int.emod_nonneg ((c%2147483629+7919*k+13)*69621) (show(2147483629:Int)≠0 by decide);omega⟩
def kr:Sp:=λvs H Q _=> ∃(B:Addr) (many:Int),vs=[.ref B,.int many]/\gX H B/\0<many/\many.natAbs.log2<9000/\ ∀(d:Int) H',0<=d->d<many->SB B H H'->Q (.int d) H'
theorem yW(F:eT K mg "_law_take" oG dN):cQ P w K mg base cC 1 "_law_take" dN kr:=by
 refine F.ok qT (λvs H Q E h=> ?_) (λf cdv A outer s H vs Q E hr h=> ?_)
 ·obtain⟨B,many,rfl,⟨g,s,eB,hg,hs⟩,hm,hm2,q⟩:=h
  rfl
 obtain⟨B,many,rfl,⟨g,s,eB,hg,hs⟩,hm,hm2,q⟩:=h
 have hu:=hr.units
 refine⟨_,(lV (@ay _ _ _ _ _ (cI (bz xJ (aF aq (pv 0) ah (λ_ _=>rfl)) ah (aZ _)) (@ay _ _ _ _ _ (aW (i:=2) qT.nd rfl (Or.inl rfl) (av cH (aF aq (pv 0) ah (λ_ _=>rfl)) (pv 1)))
  (@ay _ _ _ _ _ (kY (av Il (aF aq (pv 0) ah (λ_ _=>rfl)) (pv 1)) (mJ (pv 0) ah set_list))
  (@aK _ _ _ (aT (pv 2))))) dJ)
  (@ay _ _ _ _ _ (kY (av cH (av cV (av bQ (aF aq (pv 0) ah (λ_ _=>rfl)) ah) ah) ah) (mJ (pv 0) ah set_list))
  (@aK _ _ _ (aT (av cH (av fE (av cH (av bQ (av fE (aF aq (pv 0) ah (λ_ _=>rfl)) ah) ah) ah) ah) (pv 1))))))),?_⟩
 refine⟨_,rfl,B,_,_,_,rfl,rfl,aS.of eB,rfl,_,_,rfl,rfl,_,rfl,jo (λc=> ?_) (λc=> ?_)⟩
 ·refine⟨_,rfl,B,_,_,_,rfl,rfl,aS.of eB,rfl,_,rfl,_,_,rfl,rfl,hm,?_⟩
  refine⟨_,rfl,B,_,_,_,rfl,rfl,aS.of eB,rfl,_,rfl,_,_,rfl,rfl,⟨hm,hm2⟩,_,rfl,B,_,_,0,rfl,rfl,eB,rfl,?_⟩
  exact⟨_,rfl,q (g%many) _ (Int.emod_nonneg _ (by omega)) (Int.emod_lt_of_pos _ hm) (IK (Int.ediv_nonneg hg (by omega)) hs)⟩
 ·refine⟨_,rfl,B,_,_,_,rfl,rfl,aS.of eB,rfl,_,_,rfl,rfl,.inr ⟨by decide,by decide⟩,_,_,rfl,rfl,_,_,rfl,rfl,(by show(0:Int)<2147483647;decide),_,rfl,B,_,_,1,rfl,rfl,eB,rfl,?_⟩
  have Yh:upd H B (.lst ([V.int g,.int s].set 1 (.int ((s*48271+11)%2147483647)))) B=some (.lst [.int g,.int ((s*48271+11)%2147483647)]):=au
  refine⟨_,rfl,B,_,_,_,rfl,rfl,aS.of Yh,rfl,_,_,rfl,rfl,⟨by decide,by decide⟩,_,_,rfl,rfl,.inr ⟨by decide,by decide⟩,_,_,rfl,rfl,(by show(0:Int)<2147483629;decide),_,_,rfl,rfl,⟨by decide,by decide⟩,_,rfl,_,_,rfl,rfl,hm,?_⟩
  exact q _ _ (Int.emod_nonneg _ (by omega)) (Int.emod_lt_of_pos _ hm) (IK hg (Int.emod_nonneg _ (by decide)))
def vm:Sp:=λvs H Q _=> ∃(t:Addr) (bs:List Addr) (m:List (List Int)),vs=[.ref t]/\Tab H t bs m/\bI m/\Bd 1000 m/\Q (.int (aX m)) H
theorem pM(F:eT K mg "_law_determinant" gU b7):cQ P w K mg base cC 1 "_law_determinant" b7 vm:=by
 refine F.ok gE (λvs H Q E h=> ?_) (λf cdv A outer s H vs Q E hr h=> ?_)
 ·obtain⟨t,bs,m,rfl,hT,bP,hB,q⟩:=h
  rfl
 obtain⟨t,bs,m,rfl,hT,bP,hB,q⟩:=h
 have hu:=hr.units
 refine⟨_,(lV (@ay _ _ _ _ _ (aW (i:=1) gE.nd rfl (Or.inl rfl) (av bA (aF aq (aF aq (pv 0) ah (λ_ _=>rfl)) ah (λ_ _=>rfl)) (av fm (av bA (aF aq (aF aq (pv 0) ah (λ_ _=>rfl)) ah (λ_ _=>rfl)) (aF aq (aF aq (pv 0) ah (λ_ _=>rfl)) ah (λ_ _=>rfl))) (av bA (aF aq (aF aq (pv 0) ah (λ_ _=>rfl)) ah (λ_ _=>rfl)) (aF aq (aF aq (pv 0) ah (λ_ _=>rfl)) ah (λ_ _=>rfl))))))
  (@ay _ _ _ _ _ (aW (i:=2) gE.nd rfl (Or.inl rfl) (av bA (aF aq (aF aq (pv 0) ah (λ_ _=>rfl)) ah (λ_ _=>rfl)) (av fm (av bA (aF aq (aF aq (pv 0) ah (λ_ _=>rfl)) ah (λ_ _=>rfl)) (aF aq (aF aq (pv 0) ah (λ_ _=>rfl)) ah (λ_ _=>rfl))) (av bA (aF aq (aF aq (pv 0) ah (λ_ _=>rfl)) ah (λ_ _=>rfl)) (aF aq (aF aq (pv 0) ah (λ_ _=>rfl)) ah (λ_ _=>rfl))))))
  (@aK _ _ _ (aT (av cV (av fm (pv 1) (pv 2)) (av bA (aF aq (aF aq (pv 0) ah (λ_ _=>rfl)) ah (λ_ _=>rfl)) (av fm (av bA (aF aq (aF aq (pv 0) ah (λ_ _=>rfl)) ah (λ_ _=>rfl)) (aF aq (aF aq (pv 0) ah (λ_ _=>rfl)) ah (λ_ _=>rfl))) (av bA (aF aq (aF aq (pv 0) ah (λ_ _=>rfl)) ah (λ_ _=>rfl)) (aF aq (aF aq (pv 0) ah (λ_ _=>rfl)) ah (λ_ _=>rfl))))))))))),?_⟩
 obtain⟨c0,x1,x2,_⟩:=bf hT bP (i:=0) (by decide)
 obtain⟨c1,y1,y2,_⟩:=bf hT bP (i:=1) (by decide)
 obtain⟨c2,w1,w2,_⟩:=bf hT bP (i:=2) (by decide)
 refine⟨_,rfl,t,_,_,_,rfl,rfl,aS.of hT.1,x1,c0,_,_,_,rfl,rfl,aS.of x2,rfl,_,rfl,t,_,_,_,rfl,rfl,aS.of hT.1,y1,c1,_,_,_,rfl,rfl,aS.of y2,rfl,_,rfl,t,_,_,_,rfl,rfl,aS.of hT.1,w1,c2,_,_,_,rfl,rfl,aS.of w2,rfl,_,_,rfl,rfl,⟨aG (hB 1 1 (by decide) (by decide)) (by decide),aG (hB 2 2 (by decide) (by decide)) (by decide)⟩,_,rfl,t,_,_,_,rfl,rfl,aS.of hT.1,y1,c1,_,_,_,rfl,rfl,aS.of y2,rfl,_,rfl,t,_,_,_,rfl,rfl,aS.of hT.1,w1,c2,_,_,_,rfl,rfl,aS.of w2,rfl,_,_,rfl,rfl,⟨aG (hB 1 2 (by decide) (by decide)) (by decide),aG (hB 2 1 (by decide) (by decide)) (by decide)⟩,_,_,rfl,rfl,_,_,rfl,rfl,⟨aG (hB 0 0 (by decide) (by decide)) (by decide),aG (pZ (di (hB 1 1 (by decide) (by decide)) (hB 2 2 (by decide) (by decide))) (di (hB 1 2 (by decide) (by decide)) (hB 2 1 (by decide) (by decide)))) (by decide)⟩,?_⟩
 refine⟨_,rfl,t,_,_,_,rfl,rfl,aS.of hT.1,x1,c0,_,_,_,rfl,rfl,aS.of x2,rfl,_,rfl,t,_,_,_,rfl,rfl,aS.of hT.1,y1,c1,_,_,_,rfl,rfl,aS.of y2,rfl,_,rfl,t,_,_,_,rfl,rfl,aS.of hT.1,w1,c2,_,_,_,rfl,rfl,aS.of w2,rfl,_,_,rfl,rfl,⟨aG (hB 1 0 (by decide) (by decide)) (by decide),aG (hB 2 2 (by decide) (by decide)) (by decide)⟩,_,rfl,t,_,_,_,rfl,rfl,aS.of hT.1,y1,c1,_,_,_,rfl,rfl,aS.of y2,rfl,_,rfl,t,_,_,_,rfl,rfl,aS.of hT.1,w1,c2,_,_,_,rfl,rfl,aS.of w2,rfl,_,_,rfl,rfl,⟨aG (hB 1 2 (by decide) (by decide)) (by decide),aG (hB 2 0 (by decide) (by decide)) (by decide)⟩,_,_,rfl,rfl,_,_,rfl,rfl,⟨aG (hB 0 1 (by decide) (by decide)) (by decide),aG (pZ (di (hB 1 0 (by decide) (by decide)) (hB 2 2 (by decide) (by decide))) (di (hB 1 2 (by decide) (by decide)) (hB 2 0 (by decide) (by decide)))) (by decide)⟩,?_⟩
 refine⟨_,rfl,_,rfl,_,_,rfl,rfl,_,rfl,t,_,_,_,rfl,rfl,aS.of hT.1,x1,c0,_,_,_,rfl,rfl,aS.of x2,rfl,_,rfl,t,_,_,_,rfl,rfl,aS.of hT.1,y1,c1,_,_,_,rfl,rfl,aS.of y2,rfl,_,rfl,t,_,_,_,rfl,rfl,aS.of hT.1,w1,c2,_,_,_,rfl,rfl,aS.of w2,rfl,_,_,rfl,rfl,⟨aG (hB 1 0 (by decide) (by decide)) (by decide),aG (hB 2 1 (by decide) (by decide)) (by decide)⟩,_,rfl,t,_,_,_,rfl,rfl,aS.of hT.1,y1,c1,_,_,_,rfl,rfl,aS.of y2,rfl,_,rfl,t,_,_,_,rfl,rfl,aS.of hT.1,w1,c2,_,_,_,rfl,rfl,aS.of w2,rfl,_,_,rfl,rfl,⟨aG (hB 1 1 (by decide) (by decide)) (by decide),aG (hB 2 0 (by decide) (by decide)) (by decide)⟩,_,_,rfl,rfl,_,_,rfl,rfl,⟨aG (hB 0 2 (by decide) (by decide)) (by decide),aG (pZ (di (hB 1 0 (by decide) (by decide)) (hB 2 1 (by decide) (by decide))) (di (hB 1 1 (by decide) (by decide)) (hB 2 0 (by decide) (by decide)))) (by decide)⟩,_,_,rfl,rfl,?_⟩
 have e:ent m 0 0*(ent m 1 1*ent m 2 2-ent m 1 2*ent m 2 1) -ent m 0 1*(ent m 1 0*ent m 2 2-ent m 1 2*ent m 2 0)+ent m 0 2*(ent m 1 0*ent m 2 1-ent m 1 1*ent m 2 0)=aX m:=by
  rw[cZ]
  grind
 rw[<-e]at q
 exact q
def kX:Sp:=λvs H Q _=> ∃(t:Addr) (bs:List Addr) (m:List (List Int)) (a b:Addr) (x y:Nat->Int),vs=[.ref t,.ref a,.ref b]/\Tab H t bs m/\bI m/\Bd 1000 m/\cM H a x/\cM H b y/\(∀i,i<3->(x i).natAbs<2^1000)/\(∀i,i<3->(y i).natAbs<2^1000)/\Q (.int (bH m x y)) H
theorem tT(F:eT K mg "_law_pairing" j9 dO)(aJ:mg "range"=none):cQ P w K mg base cC 1 "_law_pairing" dO kX:=by
 refine F.ok fQ (λvs H Q E h=> ?_) (λf cdv A outer s H vs Q E hr h=> ?_)
 ·obtain⟨t,bs,m,a,b,x,y,rfl,hT,bP,hB,hx,hy,bx,bY,q⟩:=h
  rfl
 obtain⟨t,bs,m,a,b,x,y,rfl,hT,bP,hB,hx,hy,bx,bY,q⟩:=h
 have hu:=hr.units
 refine⟨_,(lV (@ay _ _ _ _ _ (aW (i:=3) fQ.nd rfl (Or.inl rfl) ah)
  (@ay _ _ _ _ _ (jm PassesOwn.never rfl (bg rfl aJ (af ah ak)) (bL (i:=4) fQ.nd rfl (Or.inl rfl)) (dz (jm PassesOwn.never rfl (bg rfl aJ (af ah ak)) (bL (i:=5) fQ.nd rfl (Or.inl rfl)) (dz (aW (i:=3) fQ.nd rfl (Or.inl rfl) (av cV (pv 3) (av bA (av bA (aF aq (pv 1) (pv 4) (λ_ _=>rfl)) (aF aq (aF aq (pv 0) (pv 4) (λ_ _=>rfl)) (pv 5) (λ_ _=>rfl))) (aF aq (pv 2) (pv 5) (λ_ _=>rfl)))))))))
  (@aK _ _ _ (aT (pv 3)))))),?_⟩
 refine⟨3,rfl,by decide,by decide,fh (n:=3) (λi σ H'=> ∃(oi oj:Option V),H=H'/\σ=[some (.ref t),some (.ref a),some (.ref b),some (.int (preSum (pairF m x y) (i*3))),oi,oj]) ⟨_,_,rfl,rfl⟩ (λi σ H' hi h=> ?_) (λσ H' h=> ?_)⟩
 ·obtain⟨oi,oj,rfl,rfl⟩:=h
  refine⟨3,rfl,by decide,by decide,fh (n:=3) (λj σ H'=> ∃(oj:Option V),H=H'/\σ=[some (.ref t),some (.ref a),some (.ref b),some (.int (preSum (pairF m x y) (i*3+j))),some (.int (0+i)),oj]) ⟨_,rfl,rfl⟩ (λj σ H' hj h=> ?_) (λσ H' h=> ?_)⟩
  ·obtain⟨oj,rfl,rfl⟩:=h
   have e1:(i*3+j)/3=i:=by omega
   have e2:(i*3+j)%3=j:=by omega
   obtain⟨c,row,f1,f2,f3⟩:=qF hT bP hi hj
   simp only[Int.zero_add]
   refine⟨_,rfl,_,rfl,_,rfl,a,_,_,_,rfl,rfl,aS.of hx,ju x hi,_,rfl,_,rfl,t,_,_,_,rfl,rfl,aS.of hT.1,f1,_,rfl,c,_,_,_,rfl,rfl,aS.of f2,f3,_,_,rfl,rfl,⟨aG (bx i hi) (by decide),aG (hB i j hi hj) (by decide)⟩,_,rfl,_,rfl,b,_,_,_,rfl,rfl,aS.of hy,ju y hj,_,_,rfl,rfl,⟨aG (di (bx i hi) (hB i j hi hj)) (by decide),aG (bY j hj) (by decide)⟩,_,_,rfl,rfl,?_⟩
   refine⟨some (.int j),rfl,?_⟩
   have e:preSum (pairF m x y) (i*3+(j+1))=preSum (pairF m x y) (i*3+j)+x i*ent m i j*y j:=by
    show preSum (pairF m x y) (i*3+j)+pairF m x y (i*3+j)=_
    unfold pairF
    rw[e1,e2]
   rw[e]
   rfl
  ·obtain⟨oj,rfl,rfl⟩:=h
   exact⟨some (.int (0+i)),oj,rfl,by rw[Nat.succ_mul]⟩
 ·obtain⟨oi,oj,rfl,rfl⟩:=h
  exact⟨_,rfl,q⟩
def qW:Sp:=λvs H Q _=> ∃(t:Addr) (bs:List Addr) (m:List (List Int)) (a:Addr) (x:Nat->Int),vs=[.ref t,.ref a]/\Tab H t bs m/\bI m/\Bd 1000 m/\cM H a x/\(∀i,i<3->(x i).natAbs<2^1000)/\Q (.int (aL m x)) H
theorem wU(F:eT K mg "_law_worth" mX gx)(bK:cQ P w K mg base cC 1 "_law_pairing" dO kX):cQ P w K mg base cC 2 "_law_worth" gx qW:=by
 refine F.ok wR (λvs H Q E h=> ?_) (λf cdv A outer s H vs Q E hr h=> ?_)
 ·obtain⟨t,bs,m,a,x,rfl,hT,bP,hB,hx,bx,q⟩:=h
  rfl
 obtain⟨t,bs,m,a,x,rfl,hT,bP,hB,hx,bx,q⟩:=h
 have hu:=hr.units
 refine⟨_,(dz (aT (av fE (aN bK hr rfl aM (af (pv 0) (af (pv 1) (af (pv 1) ak)))) ah))),?_⟩
 exact⟨_,rfl,_,rfl,_,rfl,t,bs,m,a,a,x,x,rfl,hT,bP,hB,hx,hx,bx,bx,_,_,rfl,rfl,⟨by decide,by decide⟩,q⟩
def Ka:Sp:=λvs H Q _=> ∃(t1:Addr) (b1:List Addr) (m1:List (List Int)) (t2:Addr) (b2:List Addr) (m2:List (List Int)),vs=[.ref t1,.ref t2]/\Tab H t1 b1 m1/\Tab H t2 b2 m2/\bI m1/\bI m2/\Bd 1000 m1/\Bd 1000 m2/\
 ∀r bs H',az H H'->H r=none->(∀b∈bs,H b=none) ->r∉bs->bs.Nodup->Tab H' r bs (mO m1 m2) ->Q (.ref r) H'
theorem tU(F:eT K mg "_law_carried" kh gk)(bK:cQ P w K mg base cC 1 "_law_pairing" dO kX):cQ P w K mg base cC 2 "_law_carried" gk Ka:=by
 refine F.ok tR (λvs H Q E h=> ?_) (λf cdv A outer s H vs Q E hr h=> ?_)
 ·obtain⟨t1,b1,m1,t2,b2,m2,rfl,h1,h2,c1,c2,d1,d2,q⟩:=h
  rfl
 obtain⟨t1,b1,m1,t2,b2,m2,rfl,h1,h2,c1,c2,d1,d2,q⟩:=h
 have hu:=hr.units
 refine⟨_,(dz (aT (dZ (N2:=["_law_form_here","_law_by"]) (te:=(jJ 1 (z6 K (aH 2)) (bV 0) (jW kX [] E0 (bE (aH 2) (bE (aH 1) (bE (aH 0) gF)))))) rfl (cJ (pv 1)) (by kernel_rfl) rfl (λ_ _ _=>by exact dU (dZ (N2:=["_law_one","_law_form_here","_law_by"]) (te:=(jW kX [] E0 (bE (aH 2) (bE (aH 1) (bE (aH 0) gF))))) rfl (cJ (pv 2)) (by kernel_rfl) rfl (λ_ _ _=>by exact dU (aN bK hr rfl aM (af (pv 2) (af (pv 1) (af (pv 0) ak)))))))))),?_⟩
 have l2:(b2.map V.ref).length=3:=by rw[List.length_map,<-h2.2.length,c2.1]
 have e:mk3 (λi j=>bH m1 (ent m2 i) (ent m2 j))=mO m1 m2:=by
  rw[BZ (show bI (mO m1 m2)from(show bI (ie (ie m2 m1) (dW m2))from cD _))]
  exact jR λi j hi hj=>(As m1 m2 hi hj).symm
 refine⟨_,rfl,t2,rfl,⟨_,aS.of h2.1⟩,λD hD=>uU (c8 (aS.of h2.1)) l2 hD (λi j=>bH m1 (ent m2 i) (ent m2 j)) (λi x hi ex H1 Q1 s1 k1=> ?_) (λbs' H1 s1 fr nD nn hT=>q D bs' H1 s1 hD fr nD nn (by rw[<-e];exact hT))⟩
 obtain⟨b,e1,e2,_⟩:=bf (h2.same s1) c2 hi
 have ex':x= .ref b:=by
  have q1:=fz ex
  rw[e1]at q1
  exact(Option.some.inj q1).symm
 subst ex'
 refine⟨_,rfl,t2,rfl,⟨_,aS.of (h2.same s1).1⟩,λD2 qX=>eZ (c8 (aS.of (h2.same s1).1)) l2 qX (λj=>bH m1 (ent m2 i) (ent m2 j)) (λj x hj PJ H2 Q2 s2 k2=> ?_) (λH2 s2 e2=>k1 D2 H2 qX s2 e2)⟩
 obtain⟨b',f1,f2,_⟩:=bf ((h2.same s1).same s2) c2 hj
 have ex':x= .ref b':=by
  have q1:=fz PJ
  rw[f1]at q1
  exact(Option.some.inj q1).symm
 subst ex'
 exact⟨_,rfl,_,rfl,_,rfl,t1,b1,m1,b,b',ent m2 i,ent m2 j,rfl,(h1.same s1).same s2,c1,d1,s2 _ _ e2,f2,λk hk=>d2 i k hi hk,λk hk=>d2 j k hj hk,k2 H2 (az.refl _)⟩
end
end CM
set_option maxHeartbeats 1000000
namespace CM
open PySem L2
section
variable{P:Program}{w:World}{K:PySem.W.Frag}{mg:Str->Option Value}{base:Heap}
def PK(a b c p q r:Int):Prop:=0<a/\a<=b/\b<=c/\c<1000000/\ -a<=p/\p<=a/\ -a<=q/\q<=a/\ -b<=r/\r<=b
def AH:Sp:=λvs H Q _=> ∃(B:Addr) (most:Int),vs=[.ref B,.int most]/\gX H B/\0<=most/\most<=1000/\ ∀a b c p q r t bs H',PK a b c p q r->SB B H H'->H t=none->(∀b∈bs,H b=none) ->t∉bs->bs.Nodup->Tab H' t bs (lW (2*a) (2*b) (2*c) p q r) ->Q (.ref t) H'
theorem qe(F:eT K mg "_law_drawn_form" iC eO)(aI:cQ P w K mg base cC 1 "_law_take" dN kr):cQ P w K mg base cC 2 "_law_drawn_form" eO AH:=by
 refine F.ok cY (λvs H Q E h=> ?_) (λf cdv A outer s H vs Q E hr h=> ?_)
 ·obtain⟨B,most,rfl,hb,m0,m1,q⟩:=h
  rfl
 obtain⟨B,most,rfl,hb,m0,m1,q⟩:=h
 have hu:=hr.units
 refine⟨_,(lV (@ay _ _ _ _ _ (aW (i:=2) cY.nd rfl (Or.inl rfl) (av cV ah (av bQ ah (aN aI hr rfl aM (af (pv 0) (af ah ak))))))
  (@ay _ _ _ _ _ (aW (i:=3) cY.nd rfl (Or.inl rfl) (av cV (pv 2) (av bQ ah (aN aI hr rfl aM (af (pv 0) (af ah ak))))))
  (@ay _ _ _ _ _ (aW (i:=4) cY.nd rfl (Or.inl rfl) (av cV (pv 3) (av bQ ah (aN aI hr rfl aM (af (pv 0) (af (av cV ah (av fE (av bQ ah (pv 1)) (av bQ (pv 2) (pv 3)))) ak))))))
  (@ay _ _ _ _ _ (aW (i:=5) cY.nd rfl (Or.inl rfl) (av fm (aN aI hr rfl aM (af (pv 0) (af (av cV (pv 2) ah) ak))) (av fE (pv 2) ah)))
  (@ay _ _ _ _ _ (aW (i:=6) cY.nd rfl (Or.inl rfl) (av fm (aN aI hr rfl aM (af (pv 0) (af (av cV (pv 2) ah) ak))) (av fE (pv 2) ah)))
  (@ay _ _ _ _ _ (aW (i:=7) cY.nd rfl (Or.inl rfl) (av fm (aN aI hr rfl aM (af (pv 0) (af (av cV (pv 3) ah) ak))) (av fE (pv 3) ah)))
  (@aK _ _ _ (aT (gS (af (gS (af (pv 2) (af (pv 5) (af (pv 6) ak)))) (af (gS (af (pv 5) (af (pv 3) (af (pv 7) ak)))) (af (gS (af (pv 6) (af (pv 7) (af (pv 4) ak)))) ak))))))))))))),?_⟩
 refine⟨_,rfl,B,_,rfl,hb,by decide,by decide,λd0 H1 l0 u0 s1=>⟨_,_,rfl,rfl,.inl ⟨by decide,by decide⟩,_,_,rfl,rfl,?_⟩⟩
 obtain⟨a,ea,a1,a4⟩:∃a,2+2*d0=2*a/\0<a/\a<=4:=⟨1+d0,by omega,by omega,by omega⟩
 simp only[ea]
 refine⟨_,rfl,_,rfl,B,_,rfl,s1.2,by decide,by decide,λd1 H2 l1 u1 s2=>⟨_,_,rfl,rfl,.inl ⟨by decide,by decide⟩,_,_,rfl,rfl,?_⟩⟩
 obtain⟨b,eb,ab,b9⟩:∃b,2*a+2*d1=2*b/\a<=b/\b<=9:=⟨a+d1,by omega,by omega,by omega⟩
 simp only[eb]
 have Yi:0<2*a*(2*b):=Int.mul_pos (by omega) (by omega)
 have ZO:2*a*(2*b)<=8*18:=Int.mul_le_mul (by omega) (by omega) (by omega) (by decide)
 have g0:0<=2*most/(2*a*(2*b)):=Int.ediv_nonneg (by omega) (by omega)
 have g1:2*most/(2*a*(2*b))<=2*most:=Int.ediv_le_self _ (by omega)
 refine⟨_,rfl,_,rfl,_,rfl,_,_,rfl,rfl,.inl ⟨by decide,by decide⟩,_,rfl,_,rfl,_,_,rfl,rfl,.inl ⟨by omega,by omega⟩,_,_,rfl,rfl,⟨Yi,by omega⟩,_,_,rfl,rfl,B,_,rfl,s2.2,by omega,log2_small (by omega) (by omega),λd2 H3 l2 u2 s3=>⟨_,_,rfl,rfl,.inl ⟨by decide,by decide⟩,_,_,rfl,rfl,?_⟩⟩
 obtain⟨c,ec,bc,c9⟩:∃c,2*b+2*d2=2*c/\b<=c/\c<1000000:=⟨b+d2,by omega,by omega,by omega⟩
 simp only[ec]
 refine⟨_,rfl,_,rfl,_,_,rfl,rfl,B,_,rfl,s3.2,by omega,log2_small (by omega) (by omega),λd3 H4 l3 u3 s4=>⟨_,rfl,_,_,rfl,rfl,⟨by decide,by decide⟩,_,_,rfl,rfl,?_⟩⟩
 refine⟨_,rfl,_,rfl,_,_,rfl,rfl,B,_,rfl,s4.2,by omega,log2_small (by omega) (by omega),λd4 H5 l4 u4 s5=>⟨_,rfl,_,_,rfl,rfl,⟨by decide,by decide⟩,_,_,rfl,rfl,?_⟩⟩
 refine⟨_,rfl,_,rfl,_,_,rfl,rfl,B,_,rfl,s5.2,by omega,log2_small (by omega) (by omega),λd5 H6 l5 u5 s6=>⟨_,rfl,_,_,rfl,rfl,⟨by decide,by decide⟩,_,_,rfl,rfl,?_⟩⟩
 obtain⟨p,ep,hp,wH⟩:∃p,d3-2*a/2=p/\ -a<=p/\p<=a:=⟨_,rfl,by omega,by omega⟩
 obtain⟨qq,eq,hq,hq'⟩:∃p,d4-2*a/2=p/\ -a<=p/\p<=a:=⟨_,rfl,by omega,by omega⟩
 obtain⟨r,er,hr',UZ⟩:∃p,d5-2*b/2=p/\ -b<=p/\p<=b:=⟨_,rfl,by omega,by omega⟩
 simp only[ep,eq,er]
 have Hj:=s1.trans (s2.trans (s3.trans (s4.trans (s5.trans s6))))
 refine⟨_,rfl,_,rfl,_,rfl,(by show 3<=sizeLine;decide),λp0 h0=>⟨_,rfl,_,rfl,_,rfl,(by show 3<=sizeLine;decide),λp1 h1=>⟨_,rfl,_,rfl,_,rfl,(by show 3<=sizeLine;decide),λp2 h2=>⟨(by show 3<=sizeLine;decide),λt ht=> ?_⟩⟩⟩⟩
 have v0:=az.up (o:= .lst [.int (2*a),.int p,.int qq]) h0
 have v1:=az.up (o:= .lst [.int p,.int (2*b),.int r]) h1
 have v2:=az.up (o:= .lst [.int qq,.int r,.int (2*c)]) h2
 have v3:=az.up (o:= .lst [.ref p0,.ref p1,.ref p2]) ht
 have T:Tab _ t [p0,p1,p2] (lW (2*a) (2*b) (2*c) p qq r):=iw _ au (v3 _ _ (v2 _ _ (v1 _ _ au))) (v3 _ _ (v2 _ _ au)) (v3 _ _ au)
 obtain⟨f1,f2,f3⟩:=Cc h0 h1 h2 ht
 exact q a b c p qq r t _ _ ⟨a1,ab,bc,c9,hp,wH,hq,hq',hr',UZ⟩ (Hj.trans (SB.of Hj.2 (v0.trans (v1.trans (v2.trans v3))))) (Hj.gone f1) (λx hx=>Hj.gone (f2 x hx)) f3 (ID h0 h1 h2) T
def AI:Sp:=λvs H Q _=> ∃(t:Addr) (bs:List Addr) (m:List (List Int)),vs=[.ref t]/\Tab H t bs m/\bI m/\Bd 1000 m/\Q (.bl (decide (ent m 0 1*ent m 0 1<ent m 0 0*ent m 1 1) && decide (0<aX m))) H
theorem r6(F:eT K mg "_law_is_above" jz fV)(bw:cQ P w K mg base cC 1 "_law_determinant" b7 vm):cQ P w K mg base cC 2 "_law_is_above" fV AI:=by
 refine F.ok rZ (λvs H Q E h=> ?_) (λf cdv A outer s H vs Q E hr h=> ?_)
 ·obtain⟨t,bs,m,rfl,hT,bP,hB,q⟩:=h
  rfl
 obtain⟨t,bs,m,rfl,hT,bP,hB,q⟩:=h
 have hu:=hr.units
 refine⟨_,(dz (aT (mG (d9 xJ (av bA (aF aq (aF aq (pv 0) ah (λ_ _=>rfl)) ah (λ_ _=>rfl)) (aF aq (aF aq (pv 0) ah (λ_ _=>rfl)) ah (λ_ _=>rfl))) (av bA (aF aq (aF aq (pv 0) ah (λ_ _=>rfl)) ah (λ_ _=>rfl)) (aF aq (aF aq (pv 0) ah (λ_ _=>rfl)) ah (λ_ _=>rfl))) (aZ _)) (pV (d9 xJ (aN bw hr rfl aM (af (pv 0) ak)) ah (aZ _)))))),?_⟩
 obtain⟨c0,x1,x2,_⟩:=bf hT bP (i:=0) (by decide)
 obtain⟨c1,y1,y2,_⟩:=bf hT bP (i:=1) (by decide)
 obtain⟨c2,w1,w2,_⟩:=bf hT bP (i:=2) (by decide)
 refine⟨_,rfl,t,_,_,_,rfl,rfl,aS.of hT.1,x1,c0,_,_,_,rfl,rfl,aS.of x2,rfl,_,rfl,t,_,_,_,rfl,rfl,aS.of hT.1,y1,c1,_,_,_,rfl,rfl,aS.of y2,rfl,_,_,rfl,rfl,⟨aG (hB 0 0 (by decide) (by decide)) (by decide),aG (hB 1 1 (by decide) (by decide)) (by decide)⟩,_,rfl,t,_,_,_,rfl,rfl,aS.of hT.1,x1,c0,_,_,_,rfl,rfl,aS.of x2,rfl,_,rfl,t,_,_,_,rfl,rfl,aS.of hT.1,x1,c0,_,_,_,rfl,rfl,aS.of x2,rfl,_,_,rfl,rfl,⟨aG (hB 0 1 (by decide) (by decide)) (by decide),aG (hB 0 1 (by decide) (by decide)) (by decide)⟩,_,_,rfl,rfl,_,rfl,jo (λd=> ?_) (λd=> ?_)⟩
 ·have d:ent m 0 1*ent m 0 1<ent m 0 0*ent m 1 1:=of_decide_eq_true d
  rw[decide_eq_true d,Bool.true_and]at q
  exact⟨_,rfl,t,bs,m,rfl,hT,bP,hB,_,_,rfl,rfl,q⟩
 ·have d:¬ent m 0 1*ent m 0 1<ent m 0 0*ent m 1 1:=λz=>d (decide_eq_true z)
  rw[decide_eq_false d,Bool.false_and]at q
  exact q
def xY:Sp:=λvs H Q _=> ∃(B:Addr) (most:Int),vs=[.ref B,.int most]/\gX H B/\4<=most/\most<=1000/\ ∀m t bs H',bI m->Bd 30 m->cj m->dj m=true->aX m/2<=most->SB B H H'->H t=none->(∀b∈bs,H b=none) ->t∉bs->bs.Nodup->Tab H' t bs m->Q (.ref t) H'
theorem tV(F:eT K mg "_law_reduced" ki gm)(aJ:mg "range"=none)(iG:cQ P w K mg base cC 2 "_law_drawn_form" eO AH)(jA:cQ P w K mg base cC 2 "_law_is_above" fV AI)(bw:cQ P w K mg base cC 2 "_law_determinant" b7 vm)(aI:cQ P w K mg base cC 2 "_law_take" dN kr):cQ P w K mg base cC 3 "_law_reduced" gm xY:=by
 refine F.ok gR (λvs H Q E h=> ?_) (λf cdv A outer s H vs Q E hr h=> ?_)
 ·obtain⟨B,most,rfl,hb,m0,m1,q⟩:=h
  rfl
 obtain⟨B,most,rfl,hb,m0,m1,q⟩:=h
 have hu:=hr.units
 refine⟨_,(lV (@ay _ _ _ _ _ (jm PassesOwn.never rfl (bg rfl aJ (af ah ak)) (bL (i:=2) gR.nd rfl (Or.inl rfl)) (lV (@ay _ _ _ _ _ (aW (i:=3) gR.nd rfl (Or.inl rfl) (aN iG hr rfl aM (af (pv 0) (af (pv 1) ak))))
  (@aK _ _ _ (cI (PW.pt (OB (jk (aN jA hr rfl aM (af (pv 3) ak))) (LF (bz DF (aN bw hr rfl aM (af (pv 3) ak)) (av bQ ah (pv 1)) (aZ _))))) (@aK _ _ _ (aT (pv 3))) dJ)))))
  (@ay _ _ _ _ _ (aW (i:=4) gR.nd rfl (Or.inl rfl) (av cV ah (av bQ ah (aN aI hr rfl aM (af (pv 0) (af (av fE (pv 1) ah) ak))))))
  (IA (fH (aR (fH (aR bJ (aR bJ (aR bJ fF (by kernel_rfl)) (by kernel_rfl)) (by kernel_rfl))) (aR (fH (aR bJ (aR bJ (aR bJ fF (by kernel_rfl)) (by kernel_rfl)) (by kernel_rfl))) (aR (fH (aR bJ (aR bJ (aR (fe (pv 4)) fF (by kernel_rfl)) (by kernel_rfl)) (by kernel_rfl))) fF (by kernel_rfl)) (by kernel_rfl)) (by kernel_rfl))))))),?_⟩
 refine⟨12,rfl,by decide,by decide,fh (n:=12) (λi σ H'=> ∃(o2 o3:Option V),SB B H H'/\σ=[some (.ref B),some (.int most),o2,o3,none]) ⟨_,_,SB.refl hb,rfl⟩ (λi σ H1 hi h=> ?_) (λσ H1 h=> ?_)⟩
 ·obtain⟨o2,o3,s1,rfl⟩:=h
  refine⟨_,rfl,_,rfl,B,most,rfl,s1.2,by omega,m1,λa b c p qq r t bs H2 hD s2 ft fb nt nn T=> ?_⟩
  obtain⟨i1,i2,i3,i4,i5,i6,i7,i8,i9,ZP⟩:=hD
  have bM:Bd 30 (lW (2*a) (2*b) (2*c) p qq r):=DT (by omega) (by omega) (by omega) (by omega) (by omega) (by omega)
  have s12:=s1.trans s2
  refine⟨_,rfl,t,bs,_,rfl,T,cD _,bM.mono (by decide),_,rfl,?_⟩
  refine Pr ⟨_,_,s12,rfl⟩ (λca hE=>⟨_,rfl,t,bs,_,rfl,T,cD _,bM.mono (by decide),_,rfl,_,_,rfl,rfl,.inl ⟨by decide,by decide⟩,_,_,rfl,rfl,_,rfl,jo (λcd=> ?_) (λ_=>hE)⟩)
  rw[Bool.and_eq_true]at ca
  have hd:=of_decide_eq_true ca.2
  have cd:aX (lW (2*a) (2*b) (2*c) p qq r)<=2*most:=of_decide_eq_true cd
  exact⟨_,rfl,q (lW (2*a) (2*b) (2*c) p qq r) t bs H2 (cD _) bM (rK _ _ _ _ _ _) (uT i1 i2 i5 i6 hd) (by omega) s12 (s1.gone ft) (λx hx=>s1.gone (fb x hx)) nt nn T⟩
 ·obtain⟨o2,o3,s1,rfl⟩:=h
  refine⟨_,rfl,_,rfl,_,_,rfl,rfl,⟨by decide,by decide⟩,B,_,rfl,s1.2,by omega,log2_small (by omega) (by omega),λd H2 l0 u0 s2=>⟨_,_,rfl,rfl,.inl ⟨by decide,by decide⟩,_,_,rfl,rfl,?_⟩⟩
  obtain⟨c,ec,c1,c2⟩:∃c,2+2*d=2*c/\0<c/\4*c<=most:=⟨1+d,by omega,by omega,by omega⟩
  simp only[ec]
  have s12:=s1.trans s2
  refine⟨(by show 3<=sizeLine;decide),λp0 h0=>⟨(by show 3<=sizeLine;decide),λp1 h1=>⟨_,rfl,(by show 3<=sizeLine;decide),λp2 h2=>⟨(by show 3<=sizeLine;decide),λt ht=> ?_⟩⟩⟩⟩
  have v0:=az.up (o:= .lst [.int (2*1),.int 0,.int 0]) h0
  have v1:=az.up (o:= .lst [.int 0,.int (2*1),.int 0]) h1
  have v2:=az.up (o:= .lst [.int 0,.int 0,.int (2*c)]) h2
  have v3:=az.up (o:= .lst [.ref p0,.ref p1,.ref p2]) ht
  have T:Tab _ t [p0,p1,p2] (lW (2*1) (2*1) (2*c) 0 0 0):=iw _ au (v3 _ _ (v2 _ _ (v1 _ _ au))) (v3 _ _ (v2 _ _ au)) (v3 _ _ au)
  obtain⟨f1,f2,f3⟩:=Cc h0 h1 h2 ht
  have ed:aX (lW (2*1) (2*1) (2*c) 0 0 0)=8*c:=by
   rw[Iw]
   omega
  exact q (lW (2*1) (2*1) (2*c) 0 0 0) t _ _ (cD _) (DT (by omega) (by omega) (by omega) (by omega) (by omega) (by omega)) (rK 1 1 c 0 0 0) (uT (by decide) (by decide) (by decide) (by decide) (by rw[ed];omega)) (by rw[ed];omega) (s12.trans (SB.of s12.2 (v0.trans (v1.trans (v2.trans v3))))) (s12.gone f1) (λx hx=>s12.gone (f2 x hx)) f3 (ID h0 h1 h2) T
end
end CM
set_option maxHeartbeats 1000000
namespace CM
open PySem L2
section
variable{P:Program}{w:World}{K:PySem.W.Frag}{mg:Str->Option Value}{base:Heap}
def vn:Sp:=λvs H Q _=> ∃(B:Addr) (Oe:Int),vs=[.ref B,.int Oe]/\gX H B/\0<=Oe/\Oe<=10000/\ ∀m t bs H',bI m->Bd 100 m->aX m=1->SB B H H'->H t=none->(∀b∈bs,H b=none) ->t∉bs->Tab H' t bs m->Q (.ref t) H'
theorem wV(F:eT K mg "_law_basis" mY gy)(aJ:mg "range"=none)(nU:mg "zip"=none)(oO:mg "int"=none)(aI:cQ P w K mg base cC 1 "_law_take" dN kr):cQ P w K mg base cC 2 "_law_basis" gy vn:=by
 refine F.ok fX (λvs H Q E h=> ?_) (λf cdv A outer s H vs Q E hr h=> ?_)
 ·obtain⟨B,Oe,rfl,hb,f0,f1,K0⟩:=h
  rfl
 obtain⟨B,Oe,rfl,hb,f0,f1,K0⟩:=h
 have hu:=hr.units
 refine toF ?_
 refine⟨_,(Iz (i:=2) fX.nd rfl (Or.inl rfl) (fH (aR (fH (aR bJ (aR bJ (aR bJ fF (by kernel_rfl)) (by kernel_rfl)) (by kernel_rfl))) (aR (fH (aR bJ (aR bJ (aR bJ fF (by kernel_rfl)) (by kernel_rfl)) (by kernel_rfl))) (aR (fH (aR bJ (aR bJ (aR bJ fF (by kernel_rfl)) (by kernel_rfl)) (by kernel_rfl))) fF (by kernel_rfl)) (by kernel_rfl)) (by kernel_rfl))) (by kernel_rfl) (by first|exact .inl rfl|exact .inr rfl)
  (@ay _ _ _ _ _ (jm PassesOwn.never rfl (bg rfl aJ (af (aN aI hr rfl aM (af (pv 0) (af (aF aq (gS (af ah (af ah ak))) (gv pq rfl oO PyProof.Rows.boot_int (af (d9 xJ (pv 1) ah (aZ _)) ak)) (λ_ _=>rfl)) ak))) ak)) (bL (i:=3) fX.nd rfl (Or.inl rfl)) (lV (@ay _ _ _ _ _ (aW (i:=4) fX.nd rfl (Or.inl rfl) (aN aI hr rfl aM (af (pv 0) (af ah ak))))
  (@ay _ _ _ _ _ (aW (i:=5) fX.nd rfl (Or.inl rfl) (av cH (av cV (av cV (pv 4) ah) (aN aI hr rfl aM (af (pv 0) (af ah ak)))) ah))
  (@ay _ _ _ _ _ (aW (i:=6) fX.nd rfl (Or.inr rfl) (av fm (aN aI hr rfl aM (af (pv 0) (af (av cV (av bQ ah (pv 1)) ah) ak))) (pv 1)))
  (@ay _ _ _ _ _ (kY (Iv (N2:=["_law_bag_here","_law_far","_law_made","_law_turn","_law_i","_law_j","_law_times"]) (te:=(dH (z9 λi j=> .int (i+j)) (aH 0) (dH (rI iu λi j=> .int (i*j)) (aH 8) (aH 1)))) rfl (yL rfl nU (af (aF aq (pv 2) (pv 4) (λ_ _=>rfl)) (af (aF aq (pv 2) (pv 5) (λ_ _=>rfl)) ak))) (by kernel_rfl) rfl (λ_ _ _=>by exact dU (av cV (pv 0) (av bA (pv 8) (pv 1))))) (mJ (pv 2) (pv 4) set_list))
  (@aK _ _ _ (cI (bz f6 (aN aI hr rfl aM (af (pv 0) (af ah ak))) ah (aZ _)) (@aK _ _ _ (kY (yr (af (aF aq (pv 2) (pv 5) (λ_ _=>rfl)) (af (dZ (N2:=["_law_bag_here","_law_far","_law_made","_law_turn","_law_i","_law_j","_law_times"]) (te:=(dH (z9 λi j=> .int (i-j)) (tC (.int 0)) (aH 0))) rfl (cJ (aF aq (pv 2) (pv 4) (λ_ _=>rfl))) (by kernel_rfl) rfl (λ_ _ _=>by exact dU (av fm ah (pv 0)))) ak))) (BG rfl (cK (mJ (pv 2) (pv 4) set_list) (cK (mJ (pv 2) (pv 5) set_list) kP))))) dJ))))))))
  (@aK _ _ _ (aT (pv 2))))),?_⟩
 refine⟨(by show 3<=sizeLine;decide),λp0 g0=>⟨(by show 3<=sizeLine;decide),λp1 g1=>⟨(by show 3<=sizeLine;decide),λp2 g2=>⟨(by show 3<=sizeLine;decide),λD hD=> ?_⟩⟩⟩⟩
 have u0:=az.up (o:= .lst [.int 1,.int 0,.int 0]) g0
 have u1:=az.up (o:= .lst [.int 0,.int 1,.int 0]) g1
 have u2:=az.up (o:= .lst [.int 0,.int 0,.int 1]) g2
 have u3:=az.up (o:= .lst [.ref p0,.ref p1,.ref p2]) hD
 have T:Tab _ D [p0,p1,p2] (DR 1):=iw _ au (u3 _ _ (u2 _ _ (u1 _ _ au))) (u3 _ _ (u2 _ _ au)) (u3 _ _ au)
 have us:=u0.trans (u1.trans (u2.trans u3))
 obtain⟨fD,fb,nD⟩:=Cc g0 g1 g2 hD
 have Of:D≠B:=hb.ne fD
 have nB:∀bs:List Addr,(∀b∈bs,H b=none) ->B∉bs:=λbs f z=>hb.ne (f B z) rfl
 refine⟨_,rfl,(by show 2<=sizeLine;decide),λLx hL=> ?_⟩
 have u4:=az.up (o:= .lst [.int 6,.int 4]) hL
 refine⟨_,rfl,_,_,rfl,rfl,.inr ⟨_,rfl,?_⟩⟩
 obtain⟨v,hv,hv2⟩:=at2 (x:= .int 6) (y:= .int 4) (i:=if decide ((3:Int)<Oe)=true then 1 else 0) (by split<;>decide) (by split<;>decide)
 obtain⟨w,rfl,w0,w6⟩:∃w:Int,v= .int w/\0<w/\w<=6:=by
  rcases hv2 with rfl|rfl
  ·exact⟨_,rfl,by decide,by decide⟩
  ·exact⟨_,rfl,by decide,by decide⟩
 have Ww:=SB.of hb (us.trans u4)
 refine⟨Lx,_,_,_,rfl,rfl,aS.of au,hv,B,w,rfl,Ww.2,w0,log2_small (by omega) (by omega),λd H2 l0 d6 s2=> ?_⟩
 have T2:=(T.same u4).sb s2 Of (nB _ fb)
 have SQ:=Ww.trans s2
 refine⟨_,rfl,by omega,by omega,fh (n:=d.toNat) (λk σ H'=> ∃(o3 o4 o5 o6:Option V) (bs:List Addr) (m:List (List Int)),σ=[some (.ref B),some (.int Oe),some (.ref D),o3,o4,o5,o6]/\SB B H H'/\Tab H' D bs m/\bI m/\Bd (15*k+1) m/\aX m=1/\(∀b∈bs,H b=none)/\D∉bs) ⟨_,_,_,_,_,_,rfl,SQ,T2,cD _,λi j hi hj=> ?_,rfl,fb,nD⟩ (λk σ H1 hk h=> ?_) (λσ H1 h=> ?_)⟩
 ·rw[DR,bO _ hi hj]
  split<;>decide
 ·obtain⟨o3,o4,o5,o6,bs,m,rfl,s1,T1,vp,dm,PL,fb,nD⟩:=h
  have Yj:=nB bs fb
  refine⟨_,rfl,B,_,rfl,s1.2,by decide,by decide,λd1 H2 l1 u1 s2=> ?_⟩
  refine⟨_,rfl,_,_,rfl,rfl,_,rfl,B,_,rfl,s2.2,by decide,by decide,λd2 H3 l2 u2 s3=>⟨_,_,rfl,rfl,_,_,rfl,rfl,(by show(0:Int)<3;decide),?_⟩⟩
  refine⟨_,rfl,_,rfl,_,_,rfl,rfl,.inl ⟨by decide,by decide⟩,_,_,rfl,rfl,B,_,rfl,s3.2,by omega,log2_small (by omega) (by omega),λd3 H4 l3 u3 s4=>⟨_,rfl,_,_,rfl,rfl,?_⟩⟩
  obtain⟨i,ei,hi⟩:∃i:Nat,d1=(i:Int)/\i<3:=⟨d1.toNat,by omega,by omega⟩
  obtain⟨j,ej,hj⟩:∃j:Nat,((i:Int)+1+d2)%3=(j:Int)/\j<3:=⟨(((i:Int)+1+d2)%3).toNat,by omega,by omega⟩
  have hij:i≠j:=by omega
  obtain⟨o,eo,ho⟩:∃o:Int,o=d3-Oe/\o.natAbs<2^14:=⟨_,rfl,by omega⟩
  simp only[ei,ej,<-eo]
  have RM:=s2.trans (s3.trans s4)
  have T4:=T1.sb RM Of Yj
  have tF:=s1.trans RM
  obtain⟨bi,x1,x2,x3⟩:=bf T4 vp hi
  obtain⟨bj,y1,y2,y3⟩:=bf T4 vp hj
  refine⟨_,rfl,_,rfl,D,_,_,_,rfl,rfl,aS.of T4.1,x1,_,rfl,_,rfl,D,_,_,_,rfl,rfl,aS.of T4.1,y1,bi,bj,_,_,rfl,aS.of x2,aS.of y2,λR hR=> ?_⟩
  have bk:∀s,s<3->(ent m i s+o*ent m j s).natAbs<2^(15*(k+1)+1):=λs hs=>aG (oq (aG (dm i s hi hs) (show 15*k+1<=14+(15*k+1)by omega)) (di ho (dm j s hj hs))) (by omega)
  have k6:k<6:=by omega
  refine Aq (aS.of x2) (aS.of y2) rfl (by show 3<=sizeLine;decide) hR (λu v=>match u,v with| .int i,.int j=> .int (i+o*j)|_,_=> .gP) (λn u v eu ev G Q' sm kk=> ?_) (λH5 s5 e5=> ?_)
  ·have hn:n<3:=(List.getElem?_eq_some_iff.mp eu).1
   rcases aB hn with rfl|rfl|rfl<;>cases eu<;>cases ev<;>exact⟨_,rfl,_,rfl,_,rfl,_,_,rfl,rfl,⟨aG ho (by decide),aG (dm j _ hj (by decide)) (by omega)⟩,_,_,rfl,rfl,kk⟩
  have nR:R≠D:=Ne.symm (dX T4.1 hR)
  have l3:bs.length=3:=by rw[<-T4.2.length,vp.1]
  have fR:H R=none:=tF.gone hR
  refine⟨_,rfl,_,rfl,D,_,_,i,rfl,rfl,s5 _ _ T4.1,(by rw[List.length_map,l3];rcases aB hi with rfl|rfl|rfl<;>rfl),?_⟩
  have T5:=qL (g:=λs=>ent m i s+o*ent m j s) (T4.same s5) vp hi e5 nR nD
  have Kc:SB B H _:=(tF.trans (SB.of tF.2 s5)).tQ (o:= .lst ((bs.map V.ref).set i (.ref R))) fD Of
  have Qu:∀b∈bs.set i R,H b=none:=λb hb=>by
   rcases List.mem_or_eq_of_mem_set hb with z|z
   ·exact fb b z
   ·rw[z];exact fR
  have RN:D∉bs.set i R:=λhb=>by
   rcases List.mem_or_eq_of_mem_set hb with z|z
   ·exact nD z
   ·exact nR z.symm
  have RO:Bd (15*(k+1)+1) (qK m i λs=>ent m i s+o*ent m j s):=λr s hr hs=>by
   rw[cO m _ hr hs]
   split
   ·exact bk s hs
   ·exact aG (dm r s hr hs) (by omega)
  have PM:=(Me m hi hj hij o).trans PL
  have c5:bI (qK m i λs=>ent m i s+o*ent m j s):=cD _
  generalize qK m i (λs=>ent m i s+o*ent m j s)=M at T5 RO PM c5
  generalize bs.set i R=bS at T5 Qu RN
  refine⟨_,rfl,B,_,rfl,Kc.2,by decide,by decide,λd4 H6 l4 u4 s6=>⟨rfl,_,rfl,jo (λ_=> ?_) (λ_=> ?_)⟩⟩
  ·have T6:=T5.sb s6 Of (nB _ Qu)
   have Hj:=Kc.trans s6
   obtain⟨ai,q1,q2,q3⟩:=bf T6 c5 hi
   obtain⟨aj,r1,r2,r3⟩:=bf T6 c5 hj
   refine⟨_,rfl,_,rfl,D,_,_,_,rfl,rfl,aS.of T6.1,r1,_,rfl,_,rfl,D,_,_,_,rfl,rfl,aS.of T6.1,q1,ai,rfl,⟨_,aS.of q2⟩,λR2 Va=> ?_⟩
   refine eZ (c8 (aS.of q2)) rfl Va (λs=>0-ent M i s) (λn y hn ey G Q' sm kk=> ?_) (λH7 s7 e7=> ?_)
   ·rcases aB hn with rfl|rfl|rfl<;>cases ey<;>exact⟨_,rfl,_,_,rfl,rfl,kk G (az.refl _)⟩
   refine⟨(by show 2<=sizeLine;decide),λPt hP=> ?_⟩
   have u8:=az.up (o:= .tup [.ref aj,.ref R2]) hP
   have Vb:=s7.trans u8
   have T8:=T6.same Vb
   have l5:bS.length=3:=by rw[<-T6.2.length,c5.1]
   have Wx:aj≠D:=λz=>RN (by rw[<-z];exact r3)
   have T9:=qL (g:=λs=>ent M j s) T8 c5 hi (Vb _ _ r2) Wx RN
   have Wy:D∉bS.set i aj:=λhb=>by
    rcases List.mem_or_eq_of_mem_set hb with z|z
    ·exact RN z
    ·exact Wx z.symm
   have Vc:R2≠D:=Ne.symm (dX T6.1 Va)
   have e9:upd (upd H7 Pt (.tup [.ref aj,.ref R2])) D (.lst ((bS.map V.ref).set i (.ref aj))) R2=some (.lst [.int (0-ent M i 0),.int (0-ent M i 1),.int (0-ent M i 2)]):=by rw[aE Vc];exact u8 _ _ e7
   have Ta:=qL (g:=λs=>0-ent M i s) T9 (cD _) hj e9 Vc Wy
   have ix:∀(r:Nat) (l:List V),r<3->l.length=3->Lu l.length (r:Int)=some r:=λr l hr hl=>by rw[hl];rcases aB hr with rfl|rfl|rfl<;>rfl
   refine⟨Pt,_,rfl,pN.of au,rfl,_,_,rfl,_,rfl,_,rfl,D,_,_,i,rfl,rfl,T8.1,ix i _ hi (by rw[List.length_map,l5]),_,_,rfl,_,rfl,_,rfl,D,_,_,j,rfl,rfl,au,ix j _ hj (by rw[List.length_set,List.length_map,l5]),rfl,?_⟩
   have sa:SB B H _:=((Hj.trans (SB.of Hj.2 Vb)).tQ (o:= .lst ((bS.map V.ref).set i (.ref aj))) fD Of).tQ (o:= .lst (((bS.map V.ref).set i (.ref aj)).set j (.ref R2))) fD Of
   have ea:((bS.set i aj).map V.ref).set j (.ref R2)=((bS.map V.ref).set i (.ref aj)).set j (.ref R2):=by rw[List.map_set]
   refine⟨_,_,_,_,(bS.set i aj).set j R2,qK (qK M i λs=>ent M j s) j λs=>0-ent M i s,rfl,sa,(by rw[<-ea];exact Ta),cD _,λr s hr hs=> ?_,(IL M hi hj hij).trans PM,λb hb=> ?_,λhb=> ?_⟩
   ·rw[cO _ _ hr hs]
    split
    ·have:=RO i s hi hs
     show(0-ent M i s).natAbs<_
     rw[Int.zero_sub,Int.natAbs_neg]
     exact this
    ·rw[cO M _ hr hs]
     split
     ·exact RO j s hj hs
     ·exact RO r s hr hs
   ·rcases List.mem_or_eq_of_mem_set hb with z|z
    ·rcases List.mem_or_eq_of_mem_set z with y|y
     ·exact Qu b y
     ·rw[y];exact Qu aj r3
    ·rw[z];exact Hj.gone Va
   ·rcases List.mem_or_eq_of_mem_set hb with z|z
    ·exact Wy z
    ·exact Vc z.symm
  ·exact⟨_,_,_,_,_,M,rfl,Kc.trans s6,T5.sb s6 Of (nB _ Qu),c5,RO,PM,Qu,RN⟩
 ·obtain⟨o3,o4,o5,o6,bs,m,rfl,s1,T1,vp,dm,PL,fb,nD⟩:=h
  exact⟨_,rfl,K0 m D bs H1 vp (dm.mono (by omega)) PL s1 fD fb nD T1⟩
def Eg:Sp:=λvs H Q _=> ∃(B:Addr) (most:Int),vs=[.ref B,.int most]/\gX H B/\4<=most/\most<=1000/\ ∀m t bs H',bI m->Bd 440 m->cj m->dj m=true->aX m/2<=most->SB B H H'->H t=none->(∀b∈bs,H b=none) ->t∉bs->bs.Nodup->Tab H' t bs m->Q (.ref t) H'
theorem yX(F:eT K mg "_law_form" oJ jh)(ku:cQ P w K mg base cC 3 "_law_reduced" gm xY)(aI:cQ P w K mg base cC 3 "_law_take" dN kr)(iH:cQ P w K mg base cC 3 "_law_carried" gk Ka)(fK:cQ P w K mg base cC 3 "_law_basis" gy vn):cQ P w K mg base cC 4 "_law_form" jh Eg:=by
 refine F.ok mZ (λvs H Q E h=> ?_) (λf cdv A outer s H vs Q E hr h=> ?_)
 ·obtain⟨B,most,rfl,hb,m0,m1,q⟩:=h
  rfl
 obtain⟨B,most,rfl,hb,m0,m1,q⟩:=h
 have hu:=hr.units
 refine⟨_,(lV (@ay _ _ _ _ _ (aW (i:=2) mZ.nd rfl (Or.inl rfl) (aN ku hr rfl aM (af (pv 0) (af (pv 1) ak))))
  (@ay _ _ _ _ _ (aW (i:=3) mZ.nd rfl (Or.inl rfl) (aN aI hr rfl aM (af (pv 0) (af ah ak))))
  (@ay _ _ _ _ _ (cI (bz f6 (pv 3) ah (aZ _)) (@aK _ _ _ (aT (aN iH hr rfl aM (af (pv 2) (af (aN fK hr rfl aM (af (pv 0) (af (av HL ah ah) ak))) ak))))) dJ)
  (@ay _ _ _ _ _ (cI (bz NO (pv 3) ah (aZ _)) (@aK _ _ _ (aT (aN iH hr rfl aM (af (pv 2) (af (aN fK hr rfl aM (af (pv 0) (af ah ak))) ak))))) dJ)
  (@aK _ _ _ (aT (pv 2)))))))),?_⟩
 refine⟨_,rfl,_,rfl,B,most,rfl,hb,m0,m1,λm t bs H1 vp dm ev ab le s1 ft fb nt nn T=> ?_⟩
 have Na:t≠B:=hb.ne ft
 have Ly:B∉bs:=λz=>hb.ne (fb B z) rfl
 refine⟨_,rfl,B,_,rfl,s1.2,by decide,by decide,λd H2 l0 u0 s2=> ?_⟩
 have T2:=T.sb s2 Na Ly
 have s12:=s1.trans s2
 refine⟨_,rfl,rfl,_,rfl,jo (λ_=> ?_) (λ_=> ?_)⟩
 ·refine⟨_,rfl,_,rfl,_,_,rfl,rfl,⟨by decide,by decide,by decide⟩,B,_,rfl,s12.2,by decide,by decide,λmb tb Vd H3 cb dB Kd s3 Yk Yl Ym Tb=> ?_⟩
  have Tm:=T2.sb s3 Na Ly
  refine⟨t,bs,m,tb,Vd,mb,rfl,Tm,Tb,vp,cb,dm.mono (by decide),dB.mono (by decide),λr rs H4 s4 fr frs nr nn Tr=> ?_⟩
  have iM:=s12.trans s3
  exact q (mO m mb) r rs H4 (show bI (ie (ie mb m) (dW mb))from cD _) ((qG (qG dB dm) (Am dB)).mono (by decide)) (xW ev vp cb) (uS (lX ev vp) ab cb (.inl Kd)) (by rw[Ar (.inl Kd)];exact le) (iM.trans (SB.of iM.2 s4)) (iM.gone fr) (λb hb=>iM.gone (frs b hb)) nr nn Tr
 refine⟨_,rfl,_,_,rfl,rfl,_,rfl,jo (λ_=> ?_) (λ_=> ?_)⟩
 ·refine⟨_,rfl,_,rfl,B,_,rfl,s12.2,by decide,by decide,λmb tb Vd H3 cb dB Kd s3 Yk Yl Ym Tb=> ?_⟩
  have Tm:=T2.sb s3 Na Ly
  refine⟨t,bs,m,tb,Vd,mb,rfl,Tm,Tb,vp,cb,dm.mono (by decide),dB.mono (by decide),λr rs H4 s4 fr frs nr nn Tr=> ?_⟩
  have iM:=s12.trans s3
  exact q (mO m mb) r rs H4 (show bI (ie (ie mb m) (dW mb))from cD _) ((qG (qG dB dm) (Am dB)).mono (by decide)) (xW ev vp cb) (uS (lX ev vp) ab cb (.inl Kd)) (by rw[Ar (.inl Kd)];exact le) (iM.trans (SB.of iM.2 s4)) (iM.gone fr) (λb hb=>iM.gone (frs b hb)) nr nn Tr
 ·exact⟨_,rfl,q m t bs H2 vp (dm.mono (by decide)) ev ab le s12 ft fb nt nn T2⟩
def AJ:Sp:=λvs H Q _=> ∃(B t:Addr) (bs:List Addr) (m:List (List Int)),vs=[.ref B,.ref t]/\gX H B/\Tab H t bs m/\bI m/\Bd 440 m/\cj m/\dj m=true/\aX m/2<=200/\ ∀(p:Int) H',p∈([3,5,7,11,13]:List Int) ->aX m/2%p≠0->SB B H H'->Q (.int p) H'
theorem wW(F:eT K mg "_law_prime" m5 iD)(gB:mg "len"=none)(Ke:mg "min"=none)(bw:cQ P w K mg base cC 1 "_law_determinant" b7 vm)(aI:cQ P w K mg base cC 1 "_law_take" dN kr):cQ P w K mg base cC 2 "_law_prime" iD AJ:=by
 refine F.ok lB (λvs H Q E h=> ?_) (λf cdv A outer s H vs Q E hr h=> ?_)
 ·obtain⟨B,t,bs,m,rfl,hb,hT,bP,hB,ev,ab,le,q⟩:=h
  rfl
 obtain⟨B,t,bs,m,rfl,hb,hT,bP,hB,ev,ab,le,q⟩:=h
 have hu:=hr.units
 refine⟨_,(lV (@ay _ _ _ _ _ (aW (i:=2) lB.nd rfl (Or.inr rfl) (av fE (aN bw hr rfl aM (af (pv 1) ak)) ah))
  (@ay _ _ _ _ _ (qM (i:=3) lB.nd rfl rfl (N2:=["_law_bag_here","_law_form_here","_law_halved","_law_some"]) (tt:=(lT (dH NN (dH (rI (λ_ j=>0<j) λi j=> .int (i%j)) (aH 3) (aH 0)) (tC (.int 0))))) (te:=(aH 0)) rfl (OG (yr (af ah (af ah (af ah (af ah (af ah ak))))))) (by kernel_rfl) rfl (λ_ _ _=>by exact tP (bz kQ (av cH (pv 3) (pv 0)) ah (aZ _))) (λ_ _ _=>by exact dU (pv 0)))
  (@aK _ _ _ (aT (aF aq (pv 3) (bZ (Fv rfl) rfl Ke PyProof.Rows.boot_min (af (aN aI hr rfl aM (af (pv 0) (af ah ak))) (af (aN aI hr rfl aM (af (pv 0) (af ah ak))) (af (av fm (bZ eE rfl gB PySem.boot_len (af (pv 3) ak)) ah) ak)))) (λ_ _=>rfl))))))),?_⟩
 obtain⟨kd,ek⟩:=Ax ev
 have hp:=(xV ab).2.2
 refine⟨_,rfl,t,bs,m,rfl,hT,bP,hB.mono (by decide),_,_,rfl,rfl,⟨by decide,by decide⟩,?_⟩
 obtain⟨h,eh,h1,h2⟩:∃h,aX m/2=h/\0<h/\h<=200:=⟨_,rfl,by omega,le⟩
 simp only[eh]
 rw[eh]at q
 refine⟨(by show 5<=sizeLine;decide),λP hP=>⟨P,rfl,⟨_,pN.of au⟩,λD hD=>dM (Po (pN.of au)) (by show 5<=sizeLine;decide) hD (λv=>match v with| .int p=> !decide (V.int (h%p)=V.int 0)|_=>false) id (λx hx H2 R s2 kk=> ?_) (λx hx px H2 Q' s2 kk=>⟨_,rfl,kk H2 (az.refl _)⟩) (λH2 s2 e2=> ?_)⟩⟩
 ·simp only[List.mem_cons,List.not_mem_nil,or_false]at hx
  rcases hx with rfl|rfl|rfl|rfl|rfl<;>exact⟨_,rfl,_,rfl,_,_,rfl,rfl,(by show(0:Int)<_;decide),rfl,_,rfl,kk H2 (az.refl _)⟩
 have u1:=az.up (o:= .tup [V.int 3,.int 5,.int 7,.int 11,.int 13]) hP
 have s12:=SB.of hb (u1.trans s2)
 have nD:D≠B:=hb.ne (u1.none hD)
 refine⟨_,rfl,_,rfl,B,_,rfl,s12.2,by decide,by decide,λd1 H3 l1 g1 s3=>⟨_,rfl,B,_,rfl,s3.2,by decide,by decide,λd2 H4 l2 g2 s4=> ?_⟩⟩
 have e4:=s4.1 _ _ nD (s3.1 _ _ nD e2)
 refine⟨_,rfl,D,_,rfl,.inl (aS.of e4),_,_,rfl,rfl,_,_,_,rfl,?_⟩
 have ne:0<(([V.int 3,.int 5,.int 7,.int 11,.int 13].filter (λv=>match v with| .int p=> !decide (V.int (h%p)=V.int 0)|_=>false)).map id).length:=by
  rw[List.length_map]
  refine List.length_pos_iff.mpr λz=> ?_
  rw[List.filter_eq_nil_iff]at z
  have z3:=z (.int 3) (by simp)
  have z5:=z (.int 5) (by simp)
  have z7:=z (.int 7) (by simp)
  simp only[Bool.not_eq_true,Bool.not_eq_false',decide_eq_true_eq,V.int.injEq]at z3 z5 z7
  have Yn:=z (.int 11) (by simp)
  simp only[Bool.not_eq_true,Bool.not_eq_false',decide_eq_true_eq,V.int.injEq]at Yn
  omega
 generalize Qv:([V.int 3,.int 5,.int 7,.int 11,.int 13].filter (λv=>match v with| .int p=> !decide (V.int (h%p)=V.int 0)|_=>false)).map id=Ls at e4 ne
 obtain⟨v,hv,hv2⟩:=yJ (xs:=Ls) (k:=if d2<d1 then(if((Ls.length:Nat):Int) -1<d2 then((Ls.length:Nat):Int) -1 else d2)else(if((Ls.length:Nat):Int) -1<d1 then((Ls.length:Nat):Int) -1 else d1)) (by split<;>split<;>omega) (by split<;>split<;>omega)
 have hm:=List.mem_of_getElem? hv2
 rw[<-Qv,List.map_id,List.mem_filter]at hm
 obtain⟨hm,Yo⟩:=hm
 refine⟨D,_,_,_,rfl,rfl,aS.of e4,hv,?_⟩
 simp only[List.mem_cons,List.not_mem_nil,or_false]at hm
 have tF:=s12.trans (s3.trans s4)
 rcases hm with rfl|rfl|rfl|rfl|rfl<;>exact q _ H4 (by decide) (λz=>by simp[z]at Yo) tF
end
end CM
set_option maxHeartbeats 1000000
namespace CM
open PySem L2
section
variable{P:Program}{w:World}{K:PySem.W.Frag}{mg:Str->Option Value}{base:Heap}
def Eh:Sp:=λvs H Q _=> ∃(p:Int),vs=[.int p]/\0<p/\p<14/\ ∀t bs H',az H H'->H t=none->(∀b∈bs,H b=none) ->t∉bs->Tab H' t bs (f7 p.toNat (p.toNat*p.toNat)) ->Q (.ref t) H'
theorem yY(F:eT K mg "_law_rows" oK ji)(aJ:mg "range"=none):cQ P w K mg base cC 1 "_law_rows" ji Eh:=by
 refine F.ok jO (λvs H Q E h=> ?_) (λf cdv A outer s H vs Q E hr h=> ?_)
 ·obtain⟨p,rfl,p0,SR,q⟩:=h
  rfl
 obtain⟨p,rfl,p0,SR,q⟩:=h
 have hu:=hr.units
 refine toF ?_
 refine⟨_,(Iz (i:=1) jO.nd rfl (Or.inl rfl) (fH (aR (fH (aR bJ (aR bJ (aR bJ fF (by kernel_rfl)) (by kernel_rfl)) (by kernel_rfl))) fF (by kernel_rfl))) (by kernel_rfl) (by first|exact .inl rfl|exact .inr rfl)
  (@ay _ _ _ _ _ (jm PassesOwn.never rfl (bg rfl aJ (af (pv 0) ak)) (bL (i:=2) jO.nd rfl (Or.inl rfl)) (dz (mH (xP PySem.F.plainAttrs_list PySem.F.slot_list_append PySem.F.type_list_append iO (pv 1) (af (gS (af ah (af ah (af (pv 2) ak)))) ak)))))
  (@ay _ _ _ _ _ (jm PassesOwn.never rfl (bg rfl aJ (af (av bQ (pv 0) (pv 0)) ak)) (bL (i:=2) jO.nd rfl (Or.inl rfl)) (dz (mH (xP PySem.F.plainAttrs_list PySem.F.slot_list_append PySem.F.type_list_append iO (pv 1) (af (gS (af ah (af (av fE (pv 2) (pv 0)) (af (av cH (pv 2) (pv 0)) ak)))) ak)))))
  (@aK _ _ _ (aT (pv 1)))))),?_⟩
 refine⟨(by show 3<=sizeLine;decide),λa0 h0=>⟨(by show 1<=sizeLine;decide),λD hD=> ?_⟩⟩
 have v0:=az.up (o:= .lst [.int 0,.int 0,.int 1]) h0
 have v1:=az.up (o:= .lst [.ref a0]) hD
 have fD:H D=none:=v0.none hD
 have Yp:D≠a0:=λz=>by rw[z,au]at hD;cases hD
 obtain⟨n,rfl⟩:∃n:Nat,p=(n:Int):=⟨p.toNat,by omega⟩
 have T0:Tab (upd (upd H a0 (.lst [.int 0,.int 0,.int 1])) D (.lst [.ref a0])) D [a0] (lY 0):=⟨au,.cons (v1 _ _ au) .nil⟩
 refine⟨_,rfl,_,rfl,by omega,by omega,fh (n:=((n:Int)).toNat) (λi σ H'=> ∃(o2:Option V) (bs:List Addr),σ=[some (.int (n:Int)),some (.ref D),o2]/\az H H'/\(∀b∈bs,H b=none)/\D∉bs/\Tab H' D bs (lY i)) ⟨_,[a0],rfl,v0.trans v1,λb hb=>by rw[List.mem_singleton.mp hb];exact h0,λhb=>Yp (List.mem_singleton.mp hb),T0⟩ (λi σ H1 hi h=> ?_) (λσ H1 h=> ?_)⟩
 ·obtain⟨o2,bs,rfl,s1,fb,nD,T⟩:=h
  have hl:bs.length=_:=T.2.length.symm
  refine⟨_,rfl,.inl ⟨rfl,_,aS.of T.1⟩,_,rfl,(by show 3<=sizeLine;decide),λr hr=> ?_⟩
  have u:=az.up (o:= .lst ([.int 0,.int 1,.int (0+(i:Int))]:List V)) hr
  have nr:r≠D:=Ne.symm (dX T.1 hr)
  refine⟨D,_,_,rfl,rfl,u _ _ T.1,(by rw[List.length_map,hl];(first|rw[rL]|rw[rM]);exact iP (by omega)),?_⟩
  refine⟨_,bs++ [r],rfl,(s1.trans u).upd fD,λb hb=> ?_,λhb=> ?_,?_⟩
  ·rcases List.mem_append.mp hb with z|z
   ·exact fb b z
   ·rw[List.mem_singleton.mp z];exact s1.none hr
  ·rcases List.mem_append.mp hb with z|z
   ·exact nD z
   ·exact nr (List.mem_singleton.mp z).symm
  ·rw[Cg];exact Ay (T.same u) nD (by rw[au,Int.zero_add];rfl) nr
 obtain⟨o2,bs,rfl,s1,fb,nD,T⟩:=h
 have T:Tab H1 D bs (f7 n 0):=by
  have e:f7 n 0=lY n:=by simp[f7]
  rw[e]
  exact T
 have nn:(n:Int)*n<2^40:=Int.lt_of_le_of_lt (Int.mul_le_mul (show(n:Int)<=13 by omega) (show(n:Int)<=13 by omega) (by omega) (by decide)) (by decide)
 have n0:(0:Int)<=(n:Int)*n:=Int.mul_nonneg (by omega) (by omega)
 have ZQ:n*n<=169:=Nat.mul_le_mul (show n<=13 by omega) (show n<=13 by omega)
 have en:((n:Int)*n).toNat=n*n:=by omega
 refine⟨_,rfl,_,rfl,_,_,rfl,rfl,.inl ⟨by omega,by omega⟩,_,rfl,by omega,by omega,fh (n:=((n:Int)*n).toNat) (λi σ H'=> ∃(o2:Option V) (bs:List Addr),σ=[some (.int (n:Int)),some (.ref D),o2]/\az H H'/\(∀b∈bs,H b=none)/\D∉bs/\Tab H' D bs (f7 n i)) ⟨_,bs,rfl,s1,fb,nD,T⟩ (λi σ H1 hi h=> ?_) (λσ H1 h=> ?_)⟩
 ·have i9:i<169:=by omega
  obtain⟨o2,bs,rfl,s1,fb,nD,T⟩:=h
  have hl:bs.length=_:=T.2.length.symm
  refine⟨_,rfl,.inl ⟨rfl,_,aS.of T.1⟩,_,rfl,_,rfl,_,_,rfl,rfl,⟨by omega,by omega⟩,_,rfl,_,rfl,_,_,rfl,rfl,(by show(0:Int)<_;omega),(by show 3<=sizeLine;decide),λr hr=> ?_⟩
  have u:=az.up (o:= .lst ([.int 1,.int ((0+(i:Int))/n),.int ((0+(i:Int))%n)]:List V)) hr
  have nr:r≠D:=Ne.symm (dX T.1 hr)
  refine⟨D,_,_,rfl,rfl,u _ _ T.1,(by rw[List.length_map,hl];(first|rw[rL]|rw[rM]);exact iP (by omega)),?_⟩
  refine⟨_,bs++ [r],rfl,(s1.trans u).upd fD,λb hb=> ?_,λhb=> ?_,?_⟩
  ·rcases List.mem_append.mp hb with z|z
   ·exact fb b z
   ·rw[List.mem_singleton.mp z];exact s1.none hr
  ·rcases List.mem_append.mp hb with z|z
   ·exact nD z
   ·exact nr (List.mem_singleton.mp z).symm
  ·rw[Ci];exact Ay (T.same u) nD (by rw[au,Int.zero_add];rfl) nr
 ·obtain⟨o2,bs,rfl,s1,fb,nD,T⟩:=h
  rw[en]at T
  exact⟨_,rfl,q D bs H1 s1 fD fb nD T⟩
def AK:Sp:=λvs H Q _=> ∃(t:Addr) (bs:List Addr) (m:List (List Int)) (p:Int),vs=[.ref t,.int p]/\Tab H t bs m/\bI m/\Bd 440 m/\cj m/\0<p/\p<14/\ ∀t bs H',az H H'->H t=none->(∀b∈bs,H b=none) ->t∉bs->Tab H' t bs ((f7 p.toNat (p.toNat*p.toNat)).filter λr=>decide (aL m (ao r)%p=0)) ->Q (.ref t) H'
theorem wX(F:eT K mg "_law_lines" m6 iE)(oQ:cQ P w K mg base cC 2 "_law_rows" ji Eh)(gz:cQ P w K mg base cC 2 "_law_worth" gx qW):cQ P w K mg base cC 3 "_law_lines" iE AK:=by
 refine F.ok pQ (λvs H Q E h=> ?_) (λf cdv A outer s H vs Q E hr h=> ?_)
 ·obtain⟨t,bs,m,p,rfl,hT,bP,hB,ev,p0,SR,q⟩:=h
  rfl
 obtain⟨t,bs,m,p,rfl,hT,bP,hB,ev,p0,SR,q⟩:=h
 have hu:=hr.units
 refine⟨_,(lV (@ay _ _ _ _ _ (aW (i:=2) pQ.nd rfl (Or.inr rfl) (dZ (N2:=["_law_form_here","_law_p","_law_small"]) (te:=(jJ 1 (z6 K (aH 0)) (bV 0) (dH (rI (λ_ j=>0<j) λi j=> .int (i%j)) (aH 0) (dH (rI rC λi j=> .int (i*j)) (tC (.int 2)) (aH 3))))) rfl (cJ (pv 0)) (by kernel_rfl) rfl (λ_ _ _=>by exact dU (dZ (N2:=["_law_row","_law_form_here","_law_p","_law_small"]) (te:=(dH (rI (λ_ j=>0<j) λi j=> .int (i%j)) (aH 0) (dH (rI rC λi j=> .int (i*j)) (tC (.int 2)) (aH 3)))) rfl (cJ (pv 0)) (by kernel_rfl) rfl (λ_ _ _=>by exact dU (av cH (pv 0) (av bQ ah (pv 3))))))))
  (@aK _ _ _ (aT (pB (N2:=["_law_form_here","_law_p","_law_small"]) (tt:=(lT (dH DA (dH (rI (λ_ j=>0<j) λi j=> .int (i%j)) (jW qW [] E0 (bE (aH 3) (bE (aH 0) gF))) (aH 2)) (tC (.int 0))))) (te:=(aH 0)) rfl (cJ (aN oQ hr rfl aM (af (pv 1) ak))) (by kernel_rfl) rfl (λ_ _ _=>by exact tP (bz f6 (av cH (aN gz hr rfl aM (af (pv 3) (af (pv 0) ak))) (pv 2)) ah (aZ _))) (λ_ _ _=>by exact dU (pv 0))))))),?_⟩
 obtain⟨n,rfl⟩:∃n:Nat,p=(n:Int):=⟨p.toNat,by omega⟩
 have l1:(bs.map V.ref).length=3:=by rw[List.length_map,<-hT.2.length,bP.1]
 refine⟨_,rfl,t,rfl,⟨_,aS.of hT.1⟩,λS hS=>yK (c8 (aS.of hT.1)) l1 hS (λi j=>ent m i j%(2*(n:Int))) (λi x hi ex H1 Q1 s1 k1=> ?_) (λss H1 s1 fs nS TS=> ?_)⟩
 ·obtain⟨b,e1,e2,_⟩:=bf (hT.same s1) bP hi
  have ex':x= .ref b:=by
   have q1:=fz ex
   rw[e1]at q1
   exact(Option.some.inj q1).symm
  subst ex'
  refine⟨_,rfl,b,rfl,⟨_,aS.of e2⟩,λD2 qX=>eZ (c8 (aS.of e2)) rfl qX (λj=>ent m i j%(2*(n:Int))) (λj x hj PJ H2 Q2 s2 k2=> ?_) (λH2 s2 e2=>k1 D2 H2 qX s2 e2)⟩
  have ex':x= .int (ent m i j):=by
   rcases aB hj with rfl|rfl|rfl<;>exact(Option.some.inj PJ).symm
  subst ex'
  exact⟨_,rfl,_,rfl,_,_,rfl,rfl,.inl ⟨by decide,by decide⟩,_,_,rfl,rfl,(by show(0:Int)<2*n;omega),k2 H2 (az.refl _)⟩
 have TS:Tab H1 S ss (je m (2*(n:Int))):=TS
 have bS:Bd 1000 (je m (2*(n:Int))):=λi j hi hj=>by
  unfold je
  rw[bO _ hi hj]
  have:=Int.emod_nonneg (ent m i j) (show 2*(n:Int)≠0 by omega)
  have:=Int.emod_lt_of_pos (ent m i j) (show 0<2*(n:Int)by omega)
  exact aG (a:=10) (by omega) (by decide)
 refine⟨_,rfl,(n:Int),rfl,p0,SR,λL ls H2 s2 fL Ve nL TL=> ?_⟩
 rw[Int.toNat_natCast]at TL
 have nn:n*n<=169:=Nat.mul_le_mul (show n<=13 by omega) (show n<=13 by omega)
 have mem:∀b∈ls,∃r,r∈f7 n (n*n)/\H2 b=some (.lst [.int (ao r 0),.int (ao r 1),.int (ao r 2)])/\(∀i,(ao r i).natAbs<2^10)/\r=[ao r 0,ao r 1,ao r 2]:=λb hb=>by
  obtain⟨r,hr,e⟩:=yH TL.2 hb
  obtain⟨e3,bd⟩:=xX (by omega) nn hr
  refine⟨r,hr,?_,bd,e3⟩
  rw[e]
  conv=>lhs;rw[e3]
  rfl
 have len:(ls.map V.ref).length<=sizeLine:=by rw[List.length_map,<-TL.2.length,rM];exact Nat.le_of_lt (iP (by omega))
 refine⟨L,rfl,⟨_,aS.of TL.1⟩,λD hD=>dM (c8 (aS.of TL.1)) len hD (λv=>match v with| .ref b=>(match H2 b with|some (.lst [.int r0,.int r1,.int r2])=>decide (V.int (aL (je m (2*(n:Int))) (ao [r0,r1,r2])%(n:Int))=V.int 0)|_=>false)|_=>false) id (λx hx H3 R s3 kk=> ?_) (λx hx px H3 Q' s3 kk=>⟨_,rfl,kk H3 (az.refl _)⟩) (λH3 s3 e3=> ?_)⟩
 ·obtain⟨b,rfl,hb⟩:=om hx
  obtain⟨r,hr,e,bd,er⟩:=mem b hb
  have kk:=kk H3 (az.refl _)
  simp only[e]at kk
  exact⟨_,rfl,_,rfl,S,ss,_,b,ao r,rfl,(TS.same s2).same s3,cD _,bS,s3 _ _ e,λi _=>aG (bd i) (by decide),_,rfl,_,_,rfl,rfl,(by show(0:Int)<n;omega),rfl,_,rfl,kk⟩
 ·obtain⟨ls',el,il,pr⟩:=tD (pf:=(λv=>match v with| .ref b=>(match H2 b with|some (.lst [.int r0,.int r1,.int r2])=>decide (V.int (aL (je m (2*(n:Int))) (ao [r0,r1,r2])%(n:Int))=V.int 0)|_=>false)|_=>false)) (g:=λr=>decide (aL m (ao r)%(n:Int)=0)) TL.2 (λrow b hm e=>by
   obtain⟨er,_⟩:=xX (by omega) nn hm
   have e':H2 b=some (.lst [.int (ao row 0),.int (ao row 1),.int (ao row 2)]):=by
    rw[e]
    conv=>lhs;rw[er]
    rfl
   simp only[e',<-er,Fx ev p0]
   simp)
  have SQ:=s1.trans s2
  have nD:D∉ls':=λz=>by
   obtain⟨r,_,e,_⟩:=mem D (il D z)
   rw[hD]at e
   cases e
  refine q D ls' H3 (SQ.trans s3) (SQ.none hD) (λb hb=>s1.none (Ve b (il b hb))) nD ⟨by rw[e3,List.map_id,el],?_⟩
  rw[Int.toNat_natCast]
  exact pr.yE λr b hb e=>s3 _ _ e
def yZ:Sp:=λvs H Q _=> ∃(t:Addr) (bs:List Addr) (m:List (List Int)) (n:Nat) (b:Addr) (x:Nat->Int),vs=[.ref t,.int (n:Int),.ref b]/\Tab H t bs m/\bI m/\Bd 440 m/\0<n/\n<14/\cM H b x/\(∀i,i<3->(x i).natAbs<2^400)/\(∃k,k<n*n*n/\aL m (dY n x k)%((n:Int)*n)=0)/\
 ∀(k:Nat) r H',k<n*n*n->aL m (dY n x k)%((n:Int)*n)=0->(∀j,j<k-> ¬aL m (dY n x j)%((n:Int)*n)=0) ->az H H'->H r=none->cM H' r (dY n x k) ->Q (.ref r) H'
theorem y9(F:eT K mg "_law_lift" oM gZ)(aJ:mg "range"=none)(gz:cQ P w K mg base cC 2 "_law_worth" gx qW):cQ P w K mg base cC 3 "_law_lift" gZ yZ:=by
 refine F.ok m7 (λvs H Q E h=> ?_) (λf cdv A outer s H vs Q E hr h=> ?_)
 ·obtain⟨t,bs,m,n,b,x,rfl,hT,bP,hB,n0,Nb,hx,bx,RP,q⟩:=h
  rfl
 obtain⟨t,bs,m,n,b,x,rfl,hT,bP,hB,n0,Nb,hx,bx,RP,q⟩:=h
 have hu:=hr.units
 refine⟨_,(lV (@ay _ _ _ _ _ (jm PassesOwn.never rfl (bg rfl aJ (af (av bQ (av bQ (pv 1) (pv 1)) (pv 1)) ak)) (bL (i:=3) m7.nd rfl (Or.inl rfl)) (lV (@ay _ _ _ _ _ (aW (i:=4) m7.nd rfl (Or.inl rfl) (gS (af (av cV (aF aq (pv 2) ah (λ_ _=>rfl)) (av bQ (av fE (pv 3) (av bQ (pv 1) (pv 1))) (pv 1))) (af (av cV (aF aq (pv 2) ah (λ_ _=>rfl)) (av bQ (av cH (av fE (pv 3) (pv 1)) (pv 1)) (pv 1))) (af (av cV (aF aq (pv 2) ah (λ_ _=>rfl)) (av bQ (av cH (pv 3) (pv 1)) (pv 1))) ak)))))
  (@aK _ _ _ (cI (bz f6 (av cH (aN gz hr rfl aM (af (pv 0) (af (pv 4) ak))) (av bQ (pv 1) (pv 1))) ah (aZ _)) (@aK _ _ _ (aT (pv 4))) dJ)))))
  (@aK _ _ _ (aT yq)))),?_⟩
 have Yq:n*n<=169:=Nat.mul_le_mul (show n<=13 by omega) (show n<=13 by omega)
 have SS:0<n*n:=Nat.mul_pos n0 n0
 have Wz:n*n*n<=169*13:=Nat.mul_le_mul Yq (show n<=13 by omega)
 have e2:(n:Int)*n=((n*n:Nat):Int):=by push_cast;rfl
 have e3:(n:Int)*n*n=((n*n*n:Nat):Int):=by push_cast;rfl
 have c2:(n:Int)*n<2^20:=by omega
 have c0:(0:Int)<(n:Int)*n:=by omega
 have c3:(n:Int)*n*n<2^20:=by omega
 refine⟨_,rfl,_,rfl,_,_,rfl,rfl,.inl ⟨by omega,by omega⟩,_,rfl,_,_,rfl,rfl,.inl ⟨by omega,by omega⟩,_,rfl,by omega,by omega,fh (n:=((n:Int)*n*n).toNat) (λk σ H'=>(∃o3 o4,σ=[some (.ref t),some (.int (n:Int)),some (.ref b),o3,o4])/\az H H'/\ ∀j,j<k-> ¬aL m (dY n x j)%((n:Int)*n)=0) ⟨⟨_,_,rfl⟩,az.refl _,λj hj=>absurd hj (Nat.not_lt_zero _)⟩ (λk σ H1 hk hh=> ?_) (λσ H1 hh=> ?_)⟩
 ·obtain⟨⟨o3,o4,rfl⟩,s1,hn⟩:=hh
  have Vf:=s1 _ _ hx
  have hk':k<n*n*n:=by omega
  have d0:(0+(k:Int))/((n:Int)*n)=((k/(n*n):Nat):Int):=by rw[Int.zero_add,e2];exact(Int.natCast_ediv ..).symm
  have d1:(0+(k:Int))/(n:Int)%n=((k/n%n:Nat):Int):=by rw[Int.zero_add];push_cast;rfl
  have d2:(0+(k:Int))%(n:Int)=((k%n:Nat):Int):=by rw[Int.zero_add];push_cast;rfl
  have q0:k/(n*n)<=k:=Nat.div_le_self _ _
  have q1:k/n%n<=k:=Nat.le_trans (Nat.mod_le _ _) (Nat.div_le_self _ _)
  have q2:k%n<=k:=Nat.mod_le _ _
  refine⟨_,rfl,b,_,_,_,rfl,rfl,aS.of Vf,rfl,_,rfl,_,rfl,_,rfl,_,_,rfl,rfl,.inl ⟨by omega,by omega⟩,_,_,rfl,rfl,⟨c0,by omega⟩,_,rfl,_,_,rfl,rfl,.inr ⟨by omega,by omega⟩,_,_,rfl,rfl,?_⟩
  refine⟨_,rfl,b,_,_,_,rfl,rfl,aS.of Vf,rfl,_,rfl,_,rfl,_,_,rfl,rfl,⟨by omega,by omega⟩,_,rfl,_,_,rfl,rfl,(by show(0:Int)<n;omega),_,rfl,_,_,rfl,rfl,.inr ⟨by omega,by omega⟩,_,_,rfl,rfl,?_⟩
  refine⟨_,rfl,b,_,_,_,rfl,rfl,aS.of Vf,rfl,_,rfl,_,rfl,_,_,rfl,rfl,(by show(0:Int)<n;omega),_,rfl,_,_,rfl,rfl,.inr ⟨by omega,by omega⟩,_,_,rfl,rfl,(by show 3<=sizeLine;decide),λD hD=> ?_⟩
  have eD:upd H1 D (.lst [.int (x 0+(0+(k:Int))/((n:Int)*n)*n),.int (x 1+(0+(k:Int))/(n:Int)%n*n),.int (x 2+(0+(k:Int))%(n:Int)*n)]) D=some (.lst [.int (dY n x k 0),.int (dY n x k 1),.int (dY n x k 2)]):=by
   rw[au,d0,d1,d2]
   rfl
  have uD:=az.up (o:= .lst [.int (x 0+(0+(k:Int))/((n:Int)*n)*n),.int (x 1+(0+(k:Int))/(n:Int)%n*n),.int (x 2+(0+(k:Int))%(n:Int)*n)]) hD
  have bv:∀i,i<3->(dY n x k i).natAbs<2^1000:=λi hi=>by
   have dg:digit n k i<=k:=by
    unfold digit
    split
    ·exact q0
    ·split
     ·exact q1
     ·exact q2
   have c1:((digit n k i:Int)*n).natAbs<2^(20+4):=di (by omega) (by omega)
   exact aG (oq (bx i hi) (aG c1 (by decide))) (by decide)
  have s2:=s1.trans uD
  refine⟨_,rfl,_,rfl,t,bs,m,D,dY n x k,rfl,hT.same s2,bP,hB.mono (by decide),eD,bv,_,rfl,_,rfl,_,_,rfl,rfl,.inl ⟨by omega,by omega⟩,_,_,rfl,rfl,c0,rfl,_,rfl,jo (λz=> ?_) (λz=> ?_)⟩
  ·have z:=V.int.inj (of_decide_eq_true z)
   exact⟨_,rfl,q k D _ hk' z (λj hj=>hn j hj) s2 (s1.none hD) eD⟩
  ·refine⟨⟨_,_,rfl⟩,s2,λj hj=> ?_⟩
   by_cases w:j=k
   ·subst w
    exact λw=>z (decide_eq_true (congrArg V.int w))
   ·exact hn j (by omega)
 ·obtain⟨⟨o3,o4,rfl⟩,s1,hn⟩:=hh
  obtain⟨k,hk,ek⟩:=RP
  exact absurd ek (hn k (by omega))
def Cz:Sp:=λvs H Q _=> ∃(t:Addr) (bs:List Addr) (m:List (List Int)),vs=[.ref t]/\Tab H t bs m/\bI m/\ ∀r rs H',az H H'->H r=none->(∀b∈rs,H b=none) ->r∉rs->rs.Nodup->Tab H' r rs m->Q (.ref r) H'
theorem zc(F:eT K mg "_law_copy" oH gY)(eX:mg "list"=none):cQ P w K mg base cC 1 "_law_copy" gY Cz:=by
 refine F.ok yV (λvs H Q E h=> ?_) (λf cdv A outer s H vs Q E hr h=> ?_)
 ·obtain⟨t,bs,m,rfl,hT,bP,q⟩:=h
  rfl
 obtain⟨t,bs,m,rfl,hT,bP,q⟩:=h
 have hu:=hr.units
 refine⟨_,(dz (aT (dZ (N2:=["_law_table"]) (te:=(Hf (yG K) (bE (aH 0) gF))) rfl (cJ (pv 0)) (by kernel_rfl) rfl (λ_ _ _=>by exact dU (gv ir rfl eX PyProof.Rows.boot_list (af (pv 0) ak)))))),?_⟩
 exact⟨_,rfl,t,rfl,⟨_,aS.of hT.1⟩,λD hD=>Au hT (by rw[bP.1];decide) hD λbs' H' s fr nD nn T=>q D bs' H' s hD fr nD nn T⟩
end
end CM
set_option maxHeartbeats 1000000
namespace CM
open PySem L2
section
variable{P:Program}{w:World}{K:PySem.W.Frag}{mg:Str->Option Value}{base:Heap}
def Kf:Sp:=λvs H Q _=> ∃(t1:Addr) (b1:List Addr) (m1:List (List Int)),vs=[.ref t1]/\Tab H t1 b1 m1/\bI m1/\
 ∀r bs H',az H H'->H r=none->(∀b∈bs,H b=none) ->r∉bs->Tab H' r bs (dW m1) ->Q (.ref r) H'
theorem vq(F:eT K mg "turned_over" lq gG)(aJ:mg "range"=none):cQ P w K mg base cC 1 "turned_over" gG Kf:=by
 refine F.ok ve (λvs H Q E h=> ?_) (λf cdv A outer s H vs Q E hr h=> ?_)
 ·obtain⟨t1,b1,m1,rfl,h1,c1,q⟩:=h
  rfl
 obtain⟨t1,b1,m1,rfl,h1,c1,q⟩:=h
 have hu:=hr.units
 refine⟨_,(dz (aT (dZ (N2:=["table"]) (te:=(jJ 1 (sY (bE (tC (.int 3)) gF)) (bV 0) (dH (gc K) (dH (gc K) (aH 2) (aH 0)) (aH 1)))) rfl (bg rfl aJ (af ah ak)) (by kernel_rfl) rfl (λ_ _ _=>by exact dU (dZ (N2:=["i","table"]) (te:=(dH (gc K) (dH (gc K) (aH 2) (aH 0)) (aH 1))) rfl (bg rfl aJ (af ah ak)) (by kernel_rfl) rfl (λ_ _ _=>by exact dU (aF aq (aF aq (pv 2) (pv 0) (λ_ _=>rfl)) (pv 1) (λ_ _=>rfl)))))))),?_⟩
 refine⟨3,rfl,by decide,by decide,λD hD=>yK (dI (n:=3)) rfl hD _ (λi x hi ex H1 Q1 s1 k1=> ?_) (λbs H1 s1 fr nD hT=>q D bs H1 s1 hD fr nD hT)⟩
 obtain⟨_,rfl⟩:=cz ex
 refine⟨3,rfl,by decide,by decide,λD2 qX=>eZ (dI (n:=3)) rfl qX (λj=>ent m1 j i) (λj x hj PJ H2 Q2 s2 k2=> ?_) (λH2 s2 e2=>k1 D2 H2 qX s2 e2)⟩
 obtain⟨_,rfl⟩:=cz PJ
 have sm:=s1.trans s2
 obtain⟨b,row,e1,e2,e3⟩:=qF (h1.same sm) c1 hj hi
 exact⟨_,rfl,_,rfl,t1,_,_,_,rfl,rfl,aS.of (h1.same sm).1,e1,_,rfl,b,_,_,_,rfl,rfl,aS.of e2,e3,k2 H2 (az.refl _)⟩
def uo(K:PySem.W.Frag):Sp:=λvs H Q _=> ∃(t:Addr) (bs:List Addr) (m:List (List Int)) (i j:Nat),vs=[.ref t,.int (i:Int),.int (j:Int)]/\Tab H t bs m/\bI m/\i<3/\j<3/\Bd 4096 m/\Q (.int (uR m i j)) H
theorem tW(F:eT K mg "signed_minor" j7 gi):cQ P w K mg base cC 1 "signed_minor" gi (uo K):=by
 refine F.ok jv (λvs H Q E h=> ?_) (λf cdv A outer s H vs Q E hr h=> ?_)
 ·obtain⟨t,bs,m,i,j,rfl,hT,bP,hi,hj,hB,q⟩:=h
  rfl
 obtain⟨t,bs,m,i,j,rfl,hT,bP,hi,hj,hB,q⟩:=h
 have hu:=hr.units
 refine⟨_,(lV (@ay _ _ _ _ _ (HA (i:=3) (j:=4) rfl jv.nd rfl rfl (by decide) rfl rfl (af (aF aq (pv 0) (av cH (av cV (pv 1) ah) ah) (λ_ _=>rfl)) (af (aF aq (pv 0) (av cH (av cV (pv 1) ah) ah) (λ_ _=>rfl)) ak)) rfl)
  (@ay _ _ _ _ _ (HA (i:=5) (j:=6) rfl jv.nd rfl rfl (by decide) rfl rfl (af (av cH (av cV (pv 2) ah) ah) (af (av cH (av cV (pv 2) ah) ah) ak)) rfl)
  (@aK _ _ _ (aT (av fm (av bA (aF aq (pv 3) (pv 5) (λ_ _=>rfl)) (aF aq (pv 4) (pv 6) (λ_ _=>rfl))) (av bA (aF aq (pv 3) (pv 6) (λ_ _=>rfl)) (aF aq (pv 4) (pv 5) (λ_ _=>rfl))))))))),?_⟩
 obtain⟨b,e1,e2,_⟩:=bf hT bP (i:=(i+1)%3) (wI _)
 obtain⟨b',ET,Pa,_⟩:=bf hT bP (i:=(i+2)%3) (wI _)
 rw[<-m3 i 1]at e1
 rw[<-m3 i 2]at ET
 refine⟨_,rfl,_,rfl,_,_,rfl,rfl,_,_,rfl,rfl,(by show(0:Int)<3;decide),t,_,_,_,rfl,rfl,aS.of hT.1,e1,?_⟩
 refine⟨_,rfl,_,rfl,_,_,rfl,rfl,_,_,rfl,rfl,(by show(0:Int)<3;decide),t,_,_,_,rfl,rfl,aS.of hT.1,ET,_,_,rfl,?_⟩
 refine⟨_,rfl,_,_,rfl,rfl,_,_,rfl,rfl,(by show(0:Int)<3;decide),_,rfl,_,_,rfl,rfl,_,_,rfl,rfl,(by show(0:Int)<3;decide),_,_,rfl,?_⟩
 have a1:=ju (λc=>ent m ((i+1)%3) c) (c:=(j+1)%3) (wI _)
 have a2:=ju (λc=>ent m ((i+2)%3) c) (c:=(j+2)%3) (wI _)
 have a3:=ju (λc=>ent m ((i+1)%3) c) (c:=(j+2)%3) (wI _)
 have a4:=ju (λc=>ent m ((i+2)%3) c) (c:=(j+1)%3) (wI _)
 rw[<-m3 j 1]at a1 a4
 rw[<-m3 j 2]at a2 a3
 refine⟨_,rfl,_,rfl,b,_,_,_,rfl,rfl,aS.of e2,a1,_,rfl,_,rfl,b',_,_,_,rfl,rfl,aS.of Pa,a2,_,_,rfl,rfl,⟨hB _ _ (wI _) (wI _),hB _ _ (wI _) (wI _)⟩,?_⟩
 exact⟨_,rfl,_,rfl,b,_,_,_,rfl,rfl,aS.of e2,a3,_,rfl,_,rfl,b',_,_,_,rfl,rfl,aS.of Pa,a4,_,_,rfl,rfl,⟨hB _ _ (wI _) (wI _),hB _ _ (wI _) (wI _)⟩,_,_,rfl,rfl,q⟩
theorem Kg{H:Hp}{t:Addr}{bs:List Addr}{m:List (List Int)}(hT:Tab H t bs m)(bP:bI m):∃c0 c1 c2,bs=[c0,c1,c2]/\cM H c0 (λc=>ent m 0 c)/\cM H c1 (λc=>ent m 1 c)/\cM H c2 (λc=>ent m 2 c):=by
 have l3:bs.length=3:=by rw[<-hT.2.length,bP.1]
 match bs,l3,hT with
 | [c0,c1,c2],_,hT=>
  obtain⟨b0,x1,x2,_⟩:=bf hT bP (i:=0) (by decide)
  obtain⟨b1,y1,y2,_⟩:=bf hT bP (i:=1) (by decide)
  obtain⟨b2,w1,w2,_⟩:=bf hT bP (i:=2) (by decide)
  cases x1;cases y1;cases w1
  exact⟨c0,c1,c2,rfl,x2,y2,w2⟩
def Ei:Sp:=λvs H Q _=> ∃(t:Addr) (bs:List Addr) (m:List (List Int)),vs=[.ref t]/\Tab H t bs m/\bI m/\Bd 1000 m/\True/\ ∀H',az H H'->Q (.int (aX m)) H'
theorem vt(F:eT K mg "determinant" lu eV):cQ P w K mg base cC 3 "determinant" eV Ei:=by
 refine F.ok cP (λvs H Q E h=> ?_) (λf cdv A outer s H vs Q E hr h=> ?_)
 ·obtain⟨t,bs,m,rfl,hT,bP,hB,hP,q⟩:=h
  rfl
 obtain⟨t,bs,m,rfl,hT,bP,hB,hP,q⟩:=h
 have hu:=hr.units
 refine⟨_,(lV (@ay _ _ _ _ _ (kY (pv 0) (qJ rfl (cK (qJ rfl (cK (bL (i:=1) cP.nd rfl (Or.inl rfl)) (cK (bL (i:=2) cP.nd rfl (Or.inl rfl)) (cK (bL (i:=3) cP.nd rfl (Or.inl rfl)) kP)))) (cK (qJ rfl (cK (bL (i:=4) cP.nd rfl (Or.inl rfl)) (cK (bL (i:=5) cP.nd rfl (Or.inl rfl)) (cK (bL (i:=6) cP.nd rfl (Or.inl rfl)) kP)))) (cK (qJ rfl (cK (bL (i:=7) cP.nd rfl (Or.inl rfl)) (cK (bL (i:=8) cP.nd rfl (Or.inl rfl)) (cK (bL (i:=9) cP.nd rfl (Or.inl rfl)) kP)))) kP)))))
  (@aK _ _ _ (aT (av cV (av cV (av bA (pv 1) (av fm (av bA (pv 5) (pv 9)) (av bA (pv 6) (pv 8)))) (av bA (pv 2) (av fm (av bA (pv 6) (pv 7)) (av bA (pv 4) (pv 9))))) (av bA (pv 3) (av fm (av bA (pv 4) (pv 8)) (av bA (pv 5) (pv 7))))))))),?_⟩
 obtain⟨c0,c1,c2,rfl,x2,y2,w2⟩:=Kg hT bP
 refine⟨_,rfl,t,_,rfl,aS.of hT.1,rfl,_,_,rfl,c0,_,rfl,aS.of x2,rfl,_,_,rfl,_,_,rfl,_,_,rfl,rfl,_,_,rfl,c1,_,rfl,aS.of y2,rfl,_,_,rfl,_,_,rfl,_,_,rfl,rfl,_,_,rfl,c2,_,rfl,aS.of w2,rfl,_,_,rfl,_,_,rfl,_,_,rfl,rfl,rfl,?_⟩
 refine⟨_,rfl,_,rfl,_,rfl,_,_,rfl,rfl,⟨aG (hB 1 1 (by decide) (by decide)) (by decide),aG (hB 2 2 (by decide) (by decide)) (by decide)⟩,_,rfl,_,rfl,_,_,rfl,rfl,⟨aG (hB 1 2 (by decide) (by decide)) (by decide),aG (hB 2 1 (by decide) (by decide)) (by decide)⟩,_,_,rfl,rfl,_,_,rfl,rfl,⟨aG (hB 0 0 (by decide) (by decide)) (by decide),aG (pZ (di (hB 1 1 (by decide) (by decide)) (hB 2 2 (by decide) (by decide))) (di (hB 1 2 (by decide) (by decide)) (hB 2 1 (by decide) (by decide)))) (by decide)⟩,_,rfl,_,rfl,_,rfl,_,_,rfl,rfl,⟨aG (hB 1 2 (by decide) (by decide)) (by decide),aG (hB 2 0 (by decide) (by decide)) (by decide)⟩,_,rfl,_,rfl,_,_,rfl,rfl,⟨aG (hB 1 0 (by decide) (by decide)) (by decide),aG (hB 2 2 (by decide) (by decide)) (by decide)⟩,_,_,rfl,rfl,_,_,rfl,rfl,⟨aG (hB 0 1 (by decide) (by decide)) (by decide),aG (pZ (di (hB 1 2 (by decide) (by decide)) (hB 2 0 (by decide) (by decide))) (di (hB 1 0 (by decide) (by decide)) (hB 2 2 (by decide) (by decide)))) (by decide)⟩,_,_,rfl,rfl,_,rfl,_,rfl,_,rfl,_,_,rfl,rfl,⟨aG (hB 1 0 (by decide) (by decide)) (by decide),aG (hB 2 1 (by decide) (by decide)) (by decide)⟩,_,rfl,_,rfl,_,_,rfl,rfl,⟨aG (hB 1 1 (by decide) (by decide)) (by decide),aG (hB 2 0 (by decide) (by decide)) (by decide)⟩,_,_,rfl,rfl,_,_,rfl,rfl,⟨aG (hB 0 2 (by decide) (by decide)) (by decide),aG (pZ (di (hB 1 0 (by decide) (by decide)) (hB 2 1 (by decide) (by decide))) (di (hB 1 1 (by decide) (by decide)) (hB 2 0 (by decide) (by decide)))) (by decide)⟩,_,_,rfl,rfl,?_⟩
 have e:ent m 0 0*(ent m 1 1*ent m 2 2-ent m 1 2*ent m 2 1)+ent m 0 1*(ent m 1 2*ent m 2 0-ent m 1 0*ent m 2 2)+ent m 0 2*(ent m 1 0*ent m 2 1-ent m 1 1*ent m 2 0)=aX m:=by
  rw[cZ]
 have q:=q H (az.refl _)
 rw[<-e]at q
 exact q
def Ej:Sp:=λvs H Q _=> ∃(t1:Addr) (b1:List Addr) (m1:List (List Int)),vs=[.ref t1]/\Tab H t1 b1 m1/\bI m1/\Bd 4096 m1/\
 ∀r bs H',az H H'->H r=none->(∀b∈bs,H b=none) ->r∉bs->Tab H' r bs (j4 m1) ->Q (.ref r) H'
theorem Kh(F:eT K mg "cover" yT qR)(aJ:mg "range"=none)(kB:cQ P w K mg base cC 1 "signed_minor" gi (uo K)):cQ P w K mg base cC 2 "cover" qR Ej:=by
 refine F.ok JY (λvs H Q E h=> ?_) (λf cdv A outer s H vs Q E hr h=> ?_)
 ·obtain⟨t1,b1,m1,rfl,h1,c1,d1,q⟩:=h
  rfl
 obtain⟨t1,b1,m1,rfl,h1,c1,d1,q⟩:=h
 have hu:=hr.units
 refine⟨_,(dz (aT (dZ (N2:=["table"]) (te:=(jJ 1 (sY (bE (tC (.int 3)) gF)) (bV 0) (jW (uo K) [] E0 (bE (aH 2) (bE (aH 0) (bE (aH 1) gF)))))) rfl (bg rfl aJ (af ah ak)) (by kernel_rfl) rfl (λ_ _ _=>by exact dU (dZ (N2:=["i","table"]) (te:=(jW (uo K) [] E0 (bE (aH 2) (bE (aH 0) (bE (aH 1) gF))))) rfl (bg rfl aJ (af ah ak)) (by kernel_rfl) rfl (λ_ _ _=>by exact dU (aN kB hr rfl aM (af (pv 2) (af (pv 0) (af (pv 1) ak)))))))))),?_⟩
 refine⟨3,rfl,by decide,by decide,λD hD=>yK (dI (n:=3)) rfl hD (λi j=>uR m1 j i) (λi x hi ex H1 Q1 s1 k1=> ?_) (λbs H1 s1 fr nD hT=>q D bs H1 s1 hD fr nD hT)⟩
 obtain⟨_,rfl⟩:=cz ex
 refine⟨3,rfl,by decide,by decide,λD2 qX=>eZ (dI (n:=3)) rfl qX (λj=>uR m1 j i) (λj x hj PJ H2 Q2 s2 k2=> ?_) (λH2 s2 e2=>k1 D2 H2 qX s2 e2)⟩
 obtain⟨_,rfl⟩:=cz PJ
 exact⟨_,rfl,_,rfl,_,rfl,t1,b1,m1,j,i,rfl,h1.same (s1.trans s2),c1,hj,hi,d1,k2 H2 (az.refl _)⟩
def Og:Sp:=λvs H Q _=> ∃(t:Addr) (bs:List Addr) (m:List (List Int)),vs=[.ref t]/\Tab H t bs m/\bI m/\Bd 440 m/\dW m=m/\True/\(dj m=true-> ∀H',az H H'->Q .gP H')/\
 (dj m=false-> ∀(x:Nat->Int) a H',az H H'->H a=none->cM H' a x-> ¬(x 0=0/\x 1=0/\x 2=0) ->bH m x x<=0->(∀i,i<3->(x i).natAbs<2^1000) ->Q (.ref a) H')
theorem CA(F:eT K mg "low_row" rV mj)(dD:cQ P w K mg base cC 3 "determinant" eV Ei)(zd:cQ P w K mg base cC 3 "cover" qR Ej):cQ P w K mg base cC 4 "low_row" mj Og:=by
 refine F.ok qa (λvs H Q E h=> ?_) (λf cdv A outer s H vs Q E hr h=> ?_)
 ·obtain⟨t,bs,m,rfl,hT,bP,hB,hS,hP,q1,q2⟩:=h
  rfl
 obtain⟨t,bs,m,rfl,hT,bP,hB,hS,hP,q1,q2⟩:=h
 have hu:=hr.units
 refine⟨_,(lV (@ay _ _ _ _ _ (aW (i:=1) qa.nd rfl (Or.inl rfl) (aF aq (aF aq (pv 0) ah (λ_ _=>rfl)) ah (λ_ _=>rfl)))
  (@ay _ _ _ _ _ (cI (bz DF (pv 1) ah (aZ _)) (IA (fH (aR bJ (aR bJ (aR bJ fF (by kernel_rfl)) (by kernel_rfl)) (by kernel_rfl)))) dJ)
  (@ay _ _ _ _ _ (aW (i:=2) qa.nd rfl (Or.inl rfl) (aF aq (aF aq (pv 0) ah (λ_ _=>rfl)) ah (λ_ _=>rfl)))
  (@ay _ _ _ _ _ (cI (bz DF (av fm (av bA (pv 1) (aF aq (aF aq (pv 0) ah (λ_ _=>rfl)) ah (λ_ _=>rfl))) (av bA (pv 2) (pv 2))) ah (aZ _)) (@aK _ _ _ (aT (gS (af (NL HM (pv 2)) (af (pv 1) (af ah ak)))))) dJ)
  (@ay _ _ _ _ _ (cI (bz DF (aN dD hr rfl aM (af (pv 0) ak)) ah (aZ _)) (@aK _ _ _ (aT (aF aq (aN zd hr rfl aM (af (pv 0) ak)) ah (λ_ _=>rfl)))) dJ)
  (@aK _ _ _ (aT yq)))))))),?_⟩
 obtain⟨c0,x1,x2,_⟩:=bf hT bP (i:=0) (by decide)
 obtain⟨c1,y1,y2,_⟩:=bf hT bP (i:=1) (by decide)
 obtain⟨c2,w1,w2,_⟩:=bf hT bP (i:=2) (by decide)
 have b0:=hB 0 0 (by decide) (by decide)
 have b1:=hB 0 1 (by decide) (by decide)
 refine⟨_,rfl,t,_,_,_,rfl,rfl,aS.of hT.1,x1,c0,_,_,_,rfl,rfl,aS.of x2,rfl,?_⟩
 refine⟨_,rfl,_,_,rfl,rfl,_,rfl,jo (λc=> ?_) (λc=> ?_)⟩
 ·have c:ent m 0 0<=0:=of_decide_eq_true c
  have ab:dj m=false:=by
   unfold dj
   rw[decide_eq_false (by omega),Bool.false_and]
  refine⟨(by show 3<=sizeLine;decide),λr hr=> ?_⟩
  refine q2 ab (λi=>if i=0 then 1 else 0) r _ (az.up hr) hr au (λz=>by simp at z) (by rw[Ru];exact c) (λi _=> ?_)
  show(if i=0 then(1:Int)else 0).natAbs<_
  exact aG (a:=1) (by split<;>decide) (by decide)
 have c:0<ent m 0 0:=by
  have:¬ent m 0 0<=0:=λz=>c (decide_eq_true z)
  omega
 refine⟨_,rfl,t,_,_,_,rfl,rfl,aS.of hT.1,x1,c0,_,_,_,rfl,rfl,aS.of x2,rfl,?_⟩
 refine⟨_,rfl,_,rfl,t,_,_,_,rfl,rfl,aS.of hT.1,y1,c1,_,_,_,rfl,rfl,aS.of y2,rfl,_,_,rfl,rfl,⟨aG (hB 0 0 (by decide) (by decide)) (by decide),aG (hB 1 1 (by decide) (by decide)) (by decide)⟩,_,rfl,_,rfl,_,_,rfl,rfl,⟨aG (hB 0 1 (by decide) (by decide)) (by decide),aG (hB 0 1 (by decide) (by decide)) (by decide)⟩,_,_,rfl,rfl,_,_,rfl,rfl,_,rfl,jo (λd=> ?_) (λd=> ?_)⟩
 ·have d:ent m 0 0*ent m 1 1-ent m 0 1*ent m 0 1<=0:=of_decide_eq_true d
  have ab:dj m=false:=by
   unfold dj
   rw[decide_eq_false (p:=ent m 0 1*ent m 0 1<ent m 0 0*ent m 1 1) (by omega),Bool.false_and,Bool.and_false]
  refine⟨_,rfl,_,rfl,_,rfl,(by show 3<=sizeLine;decide),λr hr=> ?_⟩
  refine q2 ab (λi=>match i with|0=> -ent m 0 1|1=>ent m 0 0|_=>0) r _ (az.up hr) hr au (λz=>by have y:ent m 0 0=0:=z.2.1;omega) ?_ (λi hi=> ?_)
  ·rw[Rv hS _ rfl rfl rfl]
   exact Int.mul_nonpos_of_nonneg_of_nonpos (by omega) d
  ·rcases aB hi with rfl|rfl|rfl
   ·show(-ent m 0 1).natAbs<_
    exact aG (a:=440) (by omega) (by decide)
   ·exact aG b0 (by decide)
   ·show(0:Int).natAbs<_
    exact Nat.two_pow_pos _
 have d:0<ent m 0 0*ent m 1 1-ent m 0 1*ent m 0 1:=by
  have:¬ent m 0 0*ent m 1 1-ent m 0 1*ent m 0 1<=0:=λz=>d (decide_eq_true z)
  omega
 refine⟨_,rfl,t,bs,m,rfl,hT,bP,hB.mono (by decide),hP,λH1 s1=>⟨_,_,rfl,rfl,_,rfl,jo (λe=> ?_) (λe=> ?_)⟩⟩
 ·have e:aX m<=0:=of_decide_eq_true e
  have ab:dj m=false:=by
   unfold dj
   rw[decide_eq_false (p:=0<aX m) (by omega),Bool.and_false,Bool.and_false]
  refine⟨_,rfl,t,bs,m,rfl,hT.same s1,bP,hB.mono (by decide),λr rs H2 s2 fr frs nr T2=> ?_⟩
  obtain⟨k,k1,k2,k3⟩:=bf T2 (cD _) (i:=2) (by decide)
  refine⟨r,_,_,_,rfl,rfl,aS.of T2.1,k1,?_⟩
  have Wf:0<ent (j4 m) 2 2:=by
   rw[Oc,jN hS (i:=0) (j:=1) (by decide) (by decide)]
   exact d
  refine q2 ab (λj=>ent (j4 m) 2 j) k H2 (s1.trans s2) (s1.none (frs k k3)) k2 (λz=>by have y:ent (j4 m) 2 2=0:=z.2.2;omega) ?_ (λj hj=> ?_)
  ·rw[Rw]
   exact Int.mul_nonpos_of_nonpos_of_nonneg e (by omega)
  ·show(ent (j4 m) 2 j).natAbs<_
   rw[eK m (by decide) hj]
   exact aG (Mc hB j 2) (by decide)
 ·have e:0<aX m:=by
   have:¬aX m<=0:=λz=>e (decide_eq_true z)
   omega
  refine q1 ?_ H1 s1
  unfold dj
  rw[decide_eq_true c,decide_eq_true e,decide_eq_true (p:=ent m 0 1*ent m 0 1<ent m 0 0*ent m 1 1) (by omega)]
  rfl
def pF:Sp:=λvs H Q _=> ∃z:Int,vs=[.int z]/\Q (.bl true) H
theorem AL(F:eT K mg "is_whole" p8 iR)(cB:mg "isinstance"=none)(oO:mg "int"=none)(r8:mg "bool"=none):cQ P w K mg base cC 1 "is_whole" iR pF:=by
 refine F.ok AD (λvs H Q E h=> ?_) (λf cdv A outer s H vs Q E hr h=> ?_)
 ·obtain⟨z,rfl,q⟩:=h
  rfl
 obtain⟨z,rfl,q⟩:=h
 have hu:=hr.units
 refine⟨_,(dz (aT (mG (bZ jc rfl cB PyProof.Rows.boot_isinstance (af (pv 0) (af (qy (v:= .ty "int") rfl oO PyProof.Rows.boot_int rfl) ak))) (pV (OC (bZ jc rfl cB PyProof.Rows.boot_isinstance (af (pv 0) (af (qy (v:= .ty "bool") rfl r8 PyProof.Rows.boot_bool rfl) ak)))))))),?_⟩
 exact⟨_,rfl,_,_,_,_,rfl,.int _,qH K "int",_,rfl,uF ⟨_,rfl,_,_,_,_,rfl,.int _,yI K,_,rfl,q⟩⟩
def uq(T0:Addr):Sp:=λvs H Q _=> ∃(b:Addr) (x:Nat->Int),vs=[.ref b]/\cM H b x/\H T0=some (bN T0)/\ ∀H',az H H'->Q (.bl true) H'
theorem Gg{aU:Addr}(F:nO K mg "is_row" vd l9 aU)(bm:BM mg base)(cB:mg "isinstance"=none)(eX:mg "list"=none)(gB:mg "len"=none)(iN:mg "all"=none)(iV:cQ P w K mg base cC 1 "is_whole" iR pF):cQ P w K mg base cC 3 "is_row" l9 (uq aU):=by
 refine F.ok Ge (λvs H Q E h=> ?_) (λf cdv A outer s H vs Q E cd hr h=> ?_)
 ·obtain⟨b,x,rfl,hx,hP,q⟩:=h
  rfl
 obtain⟨b,x,rfl,hx,hP,q⟩:=h
 have hu:=hr.units
 refine⟨_,(lV (@ay _ _ _ _ _ (cI (PW.pt (zY (jV (jk (bZ jc rfl cB PyProof.Rows.boot_isinstance (af (pv 0) (af (qy (v:= .ty "list") rfl eX PyProof.Rows.boot_list rfl) ak))))) (uB (bz kQ (bZ eE rfl gB PySem.boot_len (af (pv 0) ak)) ah (aZ _))))) (@aK _ _ _ (aT nX)) dJ)
  (@aK _ _ _ (aT (um (N2:=["thing"]) (te:=(jW pF [] E0 (bE (aH 0) gF))) rfl (gC.depth hr) cd bm rfl iN (cJ (pv 0)) (by kernel_rfl) (λ_ _ _ _=>by exact dU (aN iV (uP hr) rfl aM (af (pv 0) ak)))))))),?_⟩
 refine⟨_,rfl,_,_,_,_,rfl,.lst hx,qH K "list",_,rfl,pK ⟨_,rfl,b,_,rfl,.inl (aS.of hx),rfl,_,rfl,NS rfl ?_⟩⟩
 refine⟨_,rfl,b,rfl,⟨_,aS.of hx⟩,yF (c8 (aS.of hx)) hP (λ_=>true) (λj y ey H1 Q1 s1 k1=> ?_) (λc H1 s1 hc=> ?_)⟩
 ·obtain⟨z,rfl⟩:∃z,y= .int z:=by
   have hy:=List.mem_of_getElem? ey
   simp only[List.mem_cons,List.not_mem_nil,or_false]at hy
   rcases hy with rfl|rfl|rfl<;>exact⟨_,rfl⟩
  exact⟨_,rfl,z,rfl,k1 H1 (az.refl _)⟩
 ·have e:c=true:=hc.mpr λ_ _=>rfl
  subst e
  exact q H1 s1
def r9(T1 T0:Addr):Sp:=λvs H Q _=> ∃(t:Addr) (bs:List Addr) (m:List (List Int)),vs=[.ref t]/\Tab H t bs m/\bI m/\H T1=some (bN T1)/\H T0=some (bN T0)/\ ∀H',az H H'->Q (.bl true) H'
theorem AM{aU aO:Addr}(F:nO K mg "is_table" p9 iS aO)(bm:BM mg base)(cB:mg "isinstance"=none)(eX:mg "list"=none)(gB:mg "len"=none)(iN:mg "all"=none)(mD:cQ P w K mg base cC 3 "is_row" l9 (uq aU)):cQ P w K mg base cC 5 "is_table" iS (r9 aU aO):=by
 refine F.ok AE (λvs H Q E h=> ?_) (λf cdv A outer s H vs Q E cd hr h=> ?_)
 ·obtain⟨t,bs,m,rfl,hT,bP,hR,hP,q⟩:=h
  rfl
 obtain⟨t,bs,m,rfl,hT,bP,hR,hP,q⟩:=h
 have hu:=hr.units
 refine⟨_,(lV (@ay _ _ _ _ _ (cI (PW.pt (zY (jV (jk (bZ jc rfl cB PyProof.Rows.boot_isinstance (af (pv 0) (af (qy (v:= .ty "list") rfl eX PyProof.Rows.boot_list rfl) ak))))) (uB (bz kQ (bZ eE rfl gB PySem.boot_len (af (pv 0) ak)) ah (aZ _))))) (@aK _ _ _ (aT nX)) dJ)
  (@aK _ _ _ (aT (um (N2:=["thing"]) (te:=(jW (uq aU) [] E0 (bE (aH 0) gF))) rfl (gC.depth hr) cd bm rfl iN (cJ (pv 0)) (by kernel_rfl) (λ_ _ _ _=>by exact dU (aN mD (uP hr) rfl aM (af (pv 0) ak)))))))),?_⟩
 have l3:(bs.map V.ref).length=3:=by rw[List.length_map,<-hT.2.length,bP.1]
 refine⟨_,rfl,_,_,_,_,rfl,.lst hT.1,qH K "list",_,rfl,pK ⟨_,rfl,t,_,rfl,.inl (aS.of hT.1),rfl,_,rfl,NS (by rw[l3];rfl) ?_⟩⟩
 refine⟨_,rfl,t,rfl,⟨_,aS.of hT.1⟩,yF (c8 (aS.of hT.1)) hP (λ_=>true) (λj y ey H1 Q1 s1 k1=> ?_) (λc H1 s1 hc=> ?_)⟩
 ·have hj:j<3:=by
   have:=(List.getElem?_eq_some_iff.mp ey).1
   rw[l3]at this
   exact this
  obtain⟨b,e1,e2,_⟩:=bf (hT.same s1) bP hj
  have ex':y= .ref b:=by
   have q1:=fz ey
   rw[e1]at q1
   exact(Option.some.inj q1).symm
  subst ex'
  exact⟨_,rfl,b,λc=>ent m j c,rfl,e2,s1 _ _ hR,k1⟩
 ·have e:c=true:=hc.mpr λ_ _=>rfl
  subst e
  exact q H1 s1
def AN(T1 T2 T0:Addr):Sp:=λvs H Q _=> ∃(t:Addr) (bs:List Addr) (m:List (List Int)),vs=[.ref t]/\Tab H t bs m/\bI m/\cj m/\H T1=some (bN T1)/\H T2=some (bN T2)/\H T0=some (bN T0)/\ ∀H',az H H'->Q (.bl true) H'
theorem sf{aU aO aD:Addr}(F:nO K mg "is_even_table" jx fP aD)(bm:BM mg base)(iN:mg "all"=none)(aJ:mg "range"=none)(iW:cQ P w K mg base cC 6 "is_table" iS (r9 aU aO))(lF:cQ P w K mg base cC 6 "turned_over" gG Kf):cQ P w K mg base cC 7 "is_even_table" fP (AN aU aO aD):=by
 refine F.ok rR (λvs H Q E h=> ?_) (λf cdv A outer s H vs Q E cd hr h=> ?_)
 ·obtain⟨t,bs,m,rfl,hT,bP,ev,hR,hU,hP,q⟩:=h
  rfl
 obtain⟨t,bs,m,rfl,hT,bP,ev,hR,hU,hP,q⟩:=h
 have hu:=hr.units
 refine⟨_,(lV (@ay _ _ _ _ _ (cI (jV (jk (aN iW hr rfl aM (af (pv 0) ak)))) (@aK _ _ _ (aT nX)) dJ)
  (@aK _ _ _ (aT (mG (d9 (BU hu) (pv 0) (aN lF hr rfl aM (af (pv 0) ak)) (aZ _)) (pV (um (N2:=["thing"]) (te:=(dH DA (dH (rI (λ_ j=>0<j) λi j=> .int (i%j)) (dH (gc K) (dH (gc K) (aH 1) (aH 0)) (aH 0)) (tC (.int 2))) (tC (.int 0)))) rfl (gC.depth hr) cd bm rfl iN (bg rfl aJ (af ah ak)) (by kernel_rfl) (λ_ _ _ _=>by exact dU (d9 f6 (av cH (aF aq (aF aq (pv 1) (pv 0) (λ_ _=>rfl)) (pv 0) (λ_ _=>rfl)) ah) ah (aZ _)))))))))),?_⟩
 refine⟨_,rfl,t,bs,m,rfl,hT,bP,hR,hU,λH1 s1=>⟨_,rfl,pK ?_⟩⟩
 refine⟨_,rfl,_,rfl,t,bs,m,rfl,hT.same s1,bP,λr rs H2 s2 fr frs nr Tr=> ?_⟩
 rw[lX ev bP]at Tr
 refine DQ (uN m) (DO ((hT.same s1).same s2)) (DO Tr) (BV m) ⟨_,rfl,uF ?_⟩
 have s12:=s1.trans s2
 refine⟨3,rfl,by decide,by decide,yF (dI (n:=3)) (s12 _ _ hP) (λ_=>true) (λj y ey H3 Q3 s3 k3=> ?_) (λc H3 s3 hc=> ?_)⟩
 ·obtain⟨hj,rfl⟩:=cz ey
  obtain⟨b,row,e1,e2,e3⟩:=qF (hT.same (s12.trans s3)) bP hj hj
  refine⟨_,rfl,_,rfl,t,_,_,_,rfl,rfl,aS.of (hT.same (s12.trans s3)).1,e1,_,rfl,b,_,_,_,rfl,rfl,aS.of e2,e3,_,_,rfl,rfl,(by show(0:Int)<2;decide),rfl,?_⟩
  have e:ent m j j%2=0:=by
   obtain⟨_,a,b,c,p1,p2,p3⟩:=ev
   rcases aB hj with rfl|rfl|rfl<;>omega
  rw[decide_eq_true (congrArg V.int e)]
  exact k3 H3 (az.refl _)
 ·have e:c=true:=hc.mpr λ_ _=>rfl
  subst e
  exact q H3 (s12.trans s3)
def AO(T1 T2 T3:Addr):Sp:=λvs H Q _=> ∃(t:Addr) (bs:List Addr) (m:List (List Int)),vs=[.ref t]/\Tab H t bs m/\bI m/\Bd 440 m/\cj m/\dj m=true/\H T1=some (bN T1)/\H T2=some (bN T2)/\H T3=some (bN T3)/\True/\ ∀H',az H H'->Q (.bl true) H'
theorem CB{aU aO aD:Addr}(F:eT K mg "is_form" rS mh)(jB:cQ P w K mg base cC 7 "is_even_table" fP (AN aU aO aD))(sj:cQ P w K mg base cC 7 "low_row" mj Og):cQ P w K mg base cC 8 "is_form" mh (AO aU aO aD):=by
 refine F.ok Cu (λvs H Q E h=> ?_) (λf cdv A outer s H vs Q E hr h=> ?_)
 ·obtain⟨t,bs,m,rfl,hT,bP,hB,ev,ab,h1,h2,h3,h4,q⟩:=h
  rfl
 obtain⟨t,bs,m,rfl,hT,bP,hB,ev,ab,h1,h2,h3,h4,q⟩:=h
 have hu:=hr.units
 refine⟨_,(dz (aT (mG (aN jB hr rfl aM (af (pv 0) ak)) (pV (d9 OL (aN sj hr rfl aM (af (pv 0) ak)) yq (aZ _)))))),?_⟩
 refine⟨_,rfl,t,bs,m,rfl,hT,bP,ev,h1,h2,h3,λH1 s1=>⟨_,rfl,uF ?_⟩⟩
 exact⟨_,rfl,t,bs,m,rfl,hT.same s1,bP,hB,lX ev bP,trivial,λ_ H2 s2=>⟨rfl,q H2 (s1.trans s2)⟩,λYr=>absurd Yr (by rw[ab];decide)⟩
def Kl(T1 T2 T3:Addr):Sp:=λvs H Q _=> ∃(t:Addr) (bs:List Addr) (m:List (List Int)),vs=[.ref t]/\Tab H t bs m/\bI m/\Bd 440 m/\cj m/\dj m=true/\aX m/2<=200/\H T1=some (bN T1)/\H T2=some (bN T2)/\H T3=some (bN T3)/\True/\ ∀H',az H H'->Q (.int (aX m/2)) H'
theorem Nc{aU aO aD:Addr}(F:eT K mg "half" Cv vf){jC:_}(jD:mg "GREATEST_HALF"=some (Value.int 200 jC))(sq:cQ P w K mg base cC 8 "is_form" mh (AO aU aO aD))(dD:cQ P w K mg base cC 8 "determinant" eV Ei):cQ P w K mg base cC 9 "half" vf (Kl aU aO aD):=by
 refine F.ok Ef (λvs H Q E h=> ?_) (λf cdv A outer s H vs Q E hr h=> ?_)
 ·obtain⟨t,bs,m,rfl,hT,bP,hB,ev,ab,le,h1,h2,h3,h4,q⟩:=h
  rfl
 obtain⟨t,bs,m,rfl,hT,bP,hB,ev,ab,le,h1,h2,h3,h4,q⟩:=h
 have hu:=hr.units
 refine⟨_,(lV (@ay _ _ _ _ _ (cI (jV (jk (aN sq hr rfl aM (af (pv 0) ak)))) (@aK _ _ _ qz) dJ)
  (@ay _ _ _ _ _ (aW (i:=1) Ef.nd rfl (Or.inl rfl) (av fE (aN dD hr rfl aM (af (pv 0) ak)) ah))
  (@ay _ _ _ _ _ (cI (bz xJ (pv 1) (Dw (v:= .int 200) rfl jD ⟨_,rfl⟩) (aZ _)) (@aK _ _ _ qz) dJ)
  (@aK _ _ _ (aT (pv 1))))))),?_⟩
 refine⟨_,rfl,t,bs,m,rfl,hT,bP,hB,ev,ab,h1,h2,h3,h4,λH1 s1=>⟨_,rfl,pK ?_⟩⟩
 refine⟨_,rfl,t,bs,m,rfl,hT.same s1,bP,hB.mono (by decide),trivial,λH2 s2=>⟨_,_,rfl,rfl,⟨by decide,by decide⟩,?_⟩⟩
 refine⟨_,rfl,_,_,rfl,rfl,_,rfl,jo (λc=> ?_) (λ_=>⟨_,rfl,q H2 (s1.trans s2)⟩)⟩
 have c:(200:Int)<aX m/2:=of_decide_eq_true c
 omega
theorem Gh{H:Hp}{t:Addr}{bs:List Addr}{m:List (List Int)}(hT:Tab H t bs m)(bP:bI m):∃c0 c1 c2,bs=[c0,c1,c2]/\cM H c0 (λc=>ent m 0 c)/\cM H c1 (λc=>ent m 1 c)/\cM H c2 (λc=>ent m 2 c):=by
 have l3:bs.length=3:=by rw[<-hT.2.length,bP.1]
 match bs,l3,hT with
 | [c0,c1,c2],_,hT=>
  obtain⟨b0,x1,x2,_⟩:=bf hT bP (i:=0) (by decide)
  obtain⟨b1,y1,y2,_⟩:=bf hT bP (i:=1) (by decide)
  obtain⟨b2,w1,w2,_⟩:=bf hT bP (i:=2) (by decide)
  cases x1;cases y1;cases w1
  exact⟨c0,c1,c2,rfl,x2,y2,w2⟩
def CC(T0:Addr):Sp:=λvs H Q _=> ∃(t:Addr) (bs:List Addr) (m:List (List Int)) (a b:Addr) (x y:Nat->Int),vs=[.ref t,.ref a,.ref b]/\Tab H t bs m/\bI m/\Bd 1000 m/\cM H a x/\cM H b y/\(∀i,i<3->(x i).natAbs<2^1000)/\(∀i,i<3->(y i).natAbs<2^1000)/\H T0=some (bN T0)/\ ∀H',az H H'->Q (.int (bH m x y)) H'
theorem CD{aP:Addr}(F:nO K mg "pairing" rT jS aP)(bm:BM mg base)(qY:mg "sum"=none)(nU:mg "zip"=none):cQ P w K mg base cC 1 "pairing" jS (CC aP):=by
 refine F.ok mT (λvs H Q E h=> ?_) (λf cdv A outer s H vs Q E cd hr h=> ?_)
 ·obtain⟨t,bs,m,a,b,x,y,rfl,hT,bP,hB,hx,hy,bx,bY,hP,q⟩:=h
  rfl
 obtain⟨t,bs,m,a,b,x,y,rfl,hT,bP,hB,hx,hy,bx,bY,hP,q⟩:=h
 have hu:=hr.units
 refine⟨_,(lV (@ay _ _ _ _ _ (kY (pv 2) (qJ rfl (cK (bL (i:=3) mT.nd rfl (Or.inr rfl)) (cK (bL (i:=4) mT.nd rfl (Or.inr rfl)) (cK (bL (i:=5) mT.nd rfl (Or.inr rfl)) kP)))))
  (@aK _ _ _ (aT (Mh (N2:=["table","one","other","x","y","z"]) (te:=(dH (rI iu λi j=> .int (i*j)) (aH 0) (dH (z9 λi j=> .int (i+j)) (dH (z9 λi j=> .int (i+j)) (dH (rI iu λi j=> .int (i*j)) (dH (gc K) (aH 1) (tC (.int 0))) (aH 5)) (dH (rI iu λi j=> .int (i*j)) (dH (gc K) (aH 1) (tC (.int 1))) (aH 6))) (dH (rI iu λi j=> .int (i*j)) (dH (gc K) (aH 1) (tC (.int 2))) (aH 7))))) rfl (gC.depth hr) cd bm rfl qY (yL rfl nU (af (pv 1) (af (pv 0) ak))) (by kernel_rfl) (λ_ _ _ _=>by exact dU (av bA (pv 0) (av cV (av cV (av bA (aF aq (pv 1) ah (λ_ _=>rfl)) (pv 5)) (av bA (aF aq (pv 1) ah (λ_ _=>rfl)) (pv 6))) (av bA (aF aq (pv 1) ah (λ_ _=>rfl)) (pv 7)))))))))),?_⟩
 obtain⟨c0,c1,c2,rfl,x2,y2,w2⟩:=Gh hT bP
 refine⟨_,rfl,b,_,rfl,aS.of hy,rfl,_,_,rfl,_,_,rfl,_,_,rfl,rfl,?_⟩
 refine⟨_,rfl,_,rfl,a,t,_,_,rfl,aS.of hx,aS.of hT.1,Mj (aS.of hx) (aS.of hT.1) rfl hP (λi=>x i*(ent m i 0*y 0+ent m i 1*y 1+ent m i 2*y 2)) (λi u v eu ev H' Q' sm k=> ?_) (λH' sm=> ?_)⟩
 ·have hi:i<3:=(List.getElem?_eq_some_iff.mp eu).1
  obtain⟨c,e1,e2,_⟩:=bf (hT.same sm) bP hi
  have RQ:u= .int (x i):=by
   rcases aB hi with rfl|rfl|rfl<;>exact(Option.some.inj eu).symm
  have ev':v= .ref c:=by
   have q1:=fz ev
   rw[e1]at q1
   exact(Option.some.inj q1).symm
  subst RQ ev'
  have b0:=di (hB i 0 hi (by decide)) (bY 0 (by decide))
  have b1:=di (hB i 1 hi (by decide)) (bY 1 (by decide))
  have b2:=di (hB i 2 hi (by decide)) (bY 2 (by decide))
  have bs:=oq (oq b0 b1) (aG b2 (by decide))
  exact⟨_,rfl,_,rfl,c,_,_,_,rfl,rfl,aS.of e2,rfl,_,rfl,_,_,rfl,rfl,⟨aG (hB i 0 hi (by decide)) (by decide),aG (bY 0 (by decide)) (by decide)⟩,_,rfl,c,_,_,_,rfl,rfl,aS.of e2,rfl,_,rfl,_,_,rfl,rfl,⟨aG (hB i 1 hi (by decide)) (by decide),aG (bY 1 (by decide)) (by decide)⟩,_,_,rfl,rfl,_,rfl,c,_,_,_,rfl,rfl,aS.of e2,rfl,_,rfl,_,_,rfl,rfl,⟨aG (hB i 2 hi (by decide)) (by decide),aG (bY 2 (by decide)) (by decide)⟩,_,_,rfl,rfl,_,_,rfl,rfl,⟨aG (bx i hi) (by decide),aG bs (by decide)⟩,k H' (az.refl _)⟩
 ·have e:PySem.preSum (λi=>x i*(ent m i 0*y 0+ent m i 1*y 1+ent m i 2*y 2)) 3=bH m x y:=by
   rw[cN]
   show 0+x 0*(ent m 0 0*y 0+ent m 0 1*y 1+ent m 0 2*y 2)+x 1*(ent m 1 0*y 0+ent m 1 1*y 1+ent m 1 2*y 2)+x 2*(ent m 2 0*y 0+ent m 2 1*y 1+ent m 2 2*y 2)=_
   grind
  have q:=q H' sm
  rw[<-e]at q
  exact q
def zf(T0:Addr):Sp:=λvs H Q _=> ∃(t:Addr) (bs:List Addr) (m:List (List Int)) (a:Addr) (x:Nat->Int),vs=[.ref t,.ref a]/\Tab H t bs m/\bI m/\Bd 1000 m/\cM H a x/\(∀i,i<3->(x i).natAbs<2^1000)/\H T0=some (bN T0)/\ ∀H',az H H'->Q (.int (aL m x)) H'
theorem Km{aP:Addr}(F:eT K mg "worth" yU pD)(jT:cQ P w K mg base cC 1 "pairing" jS (CC aP)):cQ P w K mg base cC 2 "worth" pD (zf aP):=by
 refine F.ok JZ (λvs H Q E h=> ?_) (λf cdv A outer s H vs Q E hr h=> ?_)
 ·obtain⟨t,bs,m,a,x,rfl,hT,bP,hB,hx,bx,hP,q⟩:=h
  rfl
 obtain⟨t,bs,m,a,x,rfl,hT,bP,hB,hx,bx,hP,q⟩:=h
 have hu:=hr.units
 refine⟨_,(dz (aT (av fE (aN jT hr rfl aM (af (pv 0) (af (pv 1) (af (pv 1) ak)))) ah))),?_⟩
 exact⟨_,rfl,_,rfl,_,rfl,t,bs,m,a,a,x,x,rfl,hT,bP,hB,hx,hx,bx,bx,hP,λH' sm=>⟨_,_,rfl,rfl,⟨by decide,by decide⟩,q H' sm⟩⟩
end
end CM
set_option maxHeartbeats 1000000
namespace CM
open PySem L2
section
variable{P:Program}{w:World}{K:PySem.W.Frag}{mg:Str->Option Value}{base:Heap}
def xZ:Sp:=λvs H Q _=> ∃h p:Int,vs=[.int h,.int p]/\p∈([3,5,7,11,13]:List Int)/\h%p≠0/\Q (.bl true) H
theorem vA(F:eT K mg "is_prime_by" ly gH){jj:Addr}(vB:mg "PRIMES"=some (Value.ref jj))(vC:∀H:Hp,pN K H jj [.int 3,.int 5,.int 7,.int 11,.int 13])(iV:cQ P w K mg base cC 1 "is_whole" iR pF):cQ P w K mg base cC 2 "is_prime_by" gH xZ:=by
 refine F.ok vg (λvs H Q E h=> ?_) (λf cdv A outer s H vs Q E hr h=> ?_)
 ·obtain⟨h,p,rfl,hp,hd,q⟩:=h
  rfl
 obtain⟨h,p,rfl,hp,hd,q⟩:=h
 have hu:=hr.units
 refine⟨_,(dz (aT (mG (aN iV hr rfl aM (af (pv 1) ak)) (mG (d9 EN (pv 1) (Dw (v:= .ref jj) rfl vB rfl) (by rfl)) (pV (d9 kQ (av cH (pv 0) (pv 1)) ah (aZ _))))))),?_⟩
 have p0:0<p:=by
  simp only[List.mem_cons,List.not_mem_nil,or_false]at hp
  omega
 have e:Uw (.int p) [.int 3,.int 5,.int 7,.int 11,.int 13]=true:=by
  simp only[List.mem_cons,List.not_mem_nil,or_false]at hp
  rcases hp with rfl|rfl|rfl|rfl|rfl<;>rfl
 refine⟨_,rfl,p,rfl,_,rfl,uF ⟨_,rfl,jj,_,rfl,.inr (vC H),rfl,rfl,_,rfl,Rz e ⟨_,rfl,_,rfl,_,_,rfl,rfl,p0,rfl,?_⟩⟩⟩
 rw[decide_eq_false (p:=V.int (h%p)=V.int 0) (λz=>hd (V.int.inj z))]
 exact q
def Kn(T1 T2 T3:Addr):Sp:=λvs H Q _=> ∃(t:Addr) (bs:List Addr) (m:List (List Int)) (p:Int),vs=[.ref t,.int p]/\Tab H t bs m/\bI m/\Bd 440 m/\cj m/\dj m=true/\aX m/2<=200/\H T1=some (bN T1)/\H T2=some (bN T2)/\H T3=some (bN T3)/\p∈([3,5,7,11,13]:List Int)/\aX m/2%p≠0/\ ∀H',az H H'->Q .gP H'
theorem qf{aU aO aD:Addr}(F:eT K mg "refuse_no_prime" iy eN)(lG:cQ P w K mg base cC 9 "is_prime_by" gH xZ)(CF:cQ P w K mg base cC 9 "half" vf (Kl aU aO aD)):cQ P w K mg base cC 10 "refuse_no_prime" eN (Kn aU aO aD):=by
 refine F.ok qb (λvs H Q E h=> ?_) (λf cdv A outer s H vs Q E hr h=> ?_)
 ·obtain⟨t,bs,m,p,rfl,hT,bP,hB,ev,ab,le,h1,h2,h3,hp,hd,q⟩:=h
  rfl
 obtain⟨t,bs,m,p,rfl,hT,bP,hB,ev,ab,le,h1,h2,h3,hp,hd,q⟩:=h
 have hu:=hr.units
 refine⟨_,(dz (cI (jV (jk (aN lG hr rfl aM (af (aN CF hr rfl aM (af (pv 0) ak)) (af (pv 1) ak))))) (@aK _ _ _ qz) dJ)),?_⟩
 exact⟨_,rfl,t,bs,m,rfl,hT,bP,hB,ev,ab,le,h1,h2,h3,trivial,λH1 s1=>⟨_,rfl,_,p,rfl,hp,hd,⟨_,rfl,pK (q H1 s1)⟩⟩⟩
def PN:Sp:=λvs H Q _=> ∃n p:Int,vs=[.int n,.int p]/\p∈([3,5,7,11,13]:List Int)/\n%p≠0/\ ∀(u:Int) H',0<u->u<p->u*n%p=1->az H H'->Q (.int u) H'
theorem AQ(F:eT K mg "upturned" qc iT)(aJ:mg "range"=none):cQ P w K mg base cC 1 "upturned" iT PN:=by
 refine F.ok AF (λvs H Q E h=> ?_) (λf cdv A outer s H vs Q E hr h=> ?_)
 ·obtain⟨n,p,rfl,hp,hn,q⟩:=h
  rfl
 obtain⟨n,p,rfl,hp,hn,q⟩:=h
 have hu:=hr.units
 refine⟨_,(dz (aT (aF aq (pB (N2:=["number","p"]) (tt:=(lT (dH DA (dH (rI (λ_ j=>0<j) λi j=> .int (i%j)) (dH (rI rC λi j=> .int (i*j)) (aH 0) (aH 1)) (aH 2)) (tC (.int 1))))) (te:=(aH 0)) rfl (xH rfl aJ (af ah (af (pv 1) ak))) (by kernel_rfl) rfl (λ_ _ _=>by exact tP (bz f6 (av cH (av bQ (pv 0) (pv 1)) (pv 2)) ah (aZ _))) (λ_ _ _=>by exact dU (pv 0))) ah (λ_ _=>rfl)))),?_⟩
 have p0:2<p/\p<14:=by
  simp only[List.mem_cons,List.not_mem_nil,or_false]at hp
  omega
 refine⟨_,rfl,1,p,rfl,⟨by decide,by decide,by omega,by omega⟩,λD hD=>dM Fy (by rw[mQ];exact Nat.le_of_lt (iP (by omega))) hD (λv=>match v with| .int t=>decide (V.int (t*n%p)=V.int 1)|_=>false) id (λx hx H2 R s2 kk=> ?_) (λx hx px H2 Q' s2 kk=>⟨_,rfl,kk H2 (az.refl _)⟩) (λH2 s2 e2=> ?_)⟩
 ·obtain⟨i,hi⟩:=List.mem_iff_getElem?.mp hx
  obtain⟨hj,rfl⟩:=uW hi
  exact⟨_,rfl,_,rfl,_,_,rfl,rfl,.inl ⟨by omega,by omega⟩,_,rfl,_,_,rfl,rfl,(by show(0:Int)<p;omega),rfl,_,rfl,kk H2 (az.refl _)⟩
 ·obtain⟨t,ht,et⟩:=ow hp hn
  generalize Qv:((p5 1 (p-1).toNat).filter (λv=>match v with| .int t=>decide (V.int (t*n%p)=V.int 1)|_=>false)).map id=Ls at e2
  have mem:∀v∈Ls,∃u:Int,v= .int u/\0<u/\u<p/\u*n%p=1:=λv hv=>by
   rw[<-Qv,List.map_id,List.mem_filter]at hv
   obtain⟨i,hi⟩:=List.mem_iff_getElem?.mp hv.1
   obtain⟨hj,rfl⟩:=uW hi
   exact⟨_,rfl,by omega,by omega,V.int.inj (of_decide_eq_true hv.2)⟩
  have ne:Ls≠ []:=λz=>by
   have:V.int (1+(t:Int))∈Ls:=by
    rw[<-Qv,List.map_id,List.mem_filter]
    refine⟨List.mem_map.mpr ⟨t,List.mem_range.mpr ht,rfl⟩,decide_eq_true (congrArg V.int et)⟩
   rw[z]at this
   cases this
  match Ls,ne,mem,e2 with
  |v::r,_,mem,e2=>
   obtain⟨u,rfl,u0,u1,eu⟩:=mem v List.mem_cons_self
   exact⟨D,_,_,_,rfl,rfl,aS.of e2,l6,q u H2 u0 u1 eu s2⟩
def Ek(T0:Addr):Sp:=λvs H Q _=> ∃(t:Addr) (bs:List Addr) (m:List (List Int)) (p:Int) (b:Addr) (x:Nat->Int),vs=[.ref t,.int p,.ref b]/\Tab H t bs m/\bI m/\Bd 440 m/\p∈([3,5,7,11,13]:List Int)/\cM H b x/\H T0=some (bN T0)/\(¬Ck m p x-> ∀H',az H H'->Q .gP H')/\(Ck m p x-> ∀(u:Int) (a:Addr) H',0<u->u<p->u*ou p x%p=1->az H H'->H a=none->cM H' a (λi=>u*(x i%p)%p) ->Q (.ref a) H')
theorem wY{aP:Addr}(F:eT K mg "line_under" mU iz)(pG:cQ P w K mg base cC 3 "worth" pD (zf aP))(iX:cQ P w K mg base cC 3 "upturned" iT PN):cQ P w K mg base cC 4 "line_under" iz (Ek aP):=by
 refine F.ok ja (λvs H Q E h=> ?_) (λf cdv A outer s H vs Q E hr h=> ?_)
 ·obtain⟨t,bs,m,p,b,x,rfl,hT,bP,hB,hp,hx,hP,q1,q2⟩:=h
  rfl
 obtain⟨t,bs,m,p,b,x,rfl,hT,bP,hB,hp,hx,hP,q1,q2⟩:=h
 have hu:=hr.units
 refine⟨_,(lV (@ay _ _ _ _ _ (rH (i:=3) ja.nd rfl rfl (N2:=["form","p","row","rests","leading","times"]) (te:=(dH (rI (λ_ j=>0<j) λi j=> .int (i%j)) (aH 0) (aH 2))) rfl (cJ (pv 2)) (by kernel_rfl) rfl (λ_ _ _=>by exact dU (av cH (pv 0) (pv 2))))
  (@ay _ _ _ _ _ (qM (i:=4) ja.nd rfl rfl (N2:=["form","p","row","rests","leading","times"]) (tt:=(lT (dH NN (aH 0) (tC (.int 0))))) (te:=(aH 0)) rfl (cJ (pv 3)) (by kernel_rfl) rfl (λ_ _ _=>by exact tP (bz kQ (pv 0) ah (aZ _))) (λ_ _ _=>by exact dU (pv 0)))
  (@ay _ _ _ _ _ (cI (PW.pt (zY (jV (HP (pv 4) (λ_=>rfl))) (uB (bz kQ (av cH (aN pG hr rfl aM (af (pv 0) (af (pv 3) ak))) (pv 1)) ah (aZ _))))) (@aK _ _ _ (aT yq)) dJ)
  (@ay _ _ _ _ _ (aW (i:=5) ja.nd rfl (Or.inr rfl) (aN iX hr rfl aM (af (aF aq (pv 4) ah (λ_ _=>rfl)) (af (pv 1) ak))))
  (@aK _ _ _ (aT (dZ (N2:=["form","p","row","rests","leading","times"]) (te:=(dH (rI (λ_ j=>0<j) λi j=> .int (i%j)) (dH (rI rC λi j=> .int (i*j)) (aH 6) (aH 0)) (aH 2))) rfl (cJ (pv 3)) (by kernel_rfl) rfl (λ_ _ _=>by exact dU (av cH (av bQ (pv 6) (pv 0)) (pv 2))))))))))),?_⟩
 have p0:2<p/\p<14:=by
  simp only[List.mem_cons,List.not_mem_nil,or_false]at hp
  omega
 have r0:∀i,0<=x i%p:=λi=>Int.emod_nonneg _ (by omega)
 have r1:∀i,x i%p<p:=λi=>Int.emod_lt_of_pos _ (by omega)
 refine⟨_,rfl,b,rfl,⟨_,aS.of hx⟩,λR hR=>eZ (c8 (aS.of hx)) rfl hR (λi=>x i%p) (λj y hj ey H1 Q1 s1 k1=> ?_) (λH1 s1 e1=> ?_)⟩
 ·have PO:y= .int (x j):=by
   rcases aB hj with rfl|rfl|rfl<;>exact(Option.some.inj ey).symm
  subst PO
  exact⟨_,rfl,_,rfl,_,_,rfl,rfl,(by show(0:Int)<p;omega),k1 H1 (az.refl _)⟩
 refine⟨_,rfl,R,rfl,⟨_,aS.of e1⟩,λD hD=>dM (c8 (aS.of e1)) (by show 3<=sizeLine;decide) hD (λv=>match v with| .int z=> !decide (V.int z=V.int 0)|_=>false) id (λy hy H2 R2 s2 kk=> ?_) (λy hy px H2 Q' s2 kk=>⟨_,rfl,kk H2 (az.refl _)⟩) (λH2 s2 e2=> ?_)⟩
 ·simp only[List.mem_cons,List.not_mem_nil,or_false]at hy
  rcases hy with rfl|rfl|rfl<;>exact⟨_,rfl,rfl,_,rfl,kk H2 (az.refl _)⟩
 have s12:=s1.trans s2
 obtain⟨Ls,Qv,Ys,SV⟩:∃Ls:List V,([V.int (x 0%p),.int (x 1%p),.int (x 2%p)].filter (λv=>match v with| .int z=> !decide (V.int z=V.int 0)|_=>false)).map id=Ls/\(qN p x->Ls=[])/\(¬qN p x-> ∃r,Ls= .int (ou p x)::r):=by
  refine⟨_,rfl,λz=> ?_,λz=> ?_⟩
  ·obtain⟨z0,z1,z2⟩:=z
   simp[z0,z1,z2]
  ·unfold ou
   unfold qN at z
   by_cases z0:x 0%p=0
   ·by_cases z1:x 1%p=0
    ·have z2:¬x 2%p=0:=by omega
     simp[z0,z1,z2]
    ·simp[z0,z1,List.filter_cons]
   ·simp[z0,List.filter_cons]
 rw[Qv]at e2
 refine⟨_,rfl,!Ls.isEmpty,.inl ⟨Ls,aS.of e2,rfl⟩,?_⟩
 by_cases z:qN p x
 ·rw[Ys z]
  exact uF (uF (q1 (λc=>c.1 z) H2 s12))
 obtain⟨r,er⟩:=SV z
 subst er
 refine pK ⟨_,rfl,_,rfl,t,bs,m,R,(λi=>x i%p),rfl,hT.same s12,bP,hB.mono (by decide),s2 _ _ e1,(λi _=>aG (a:=4) (by have:=r0 i;have:=r1 i;show(x i%p).natAbs<2^4;omega) (by decide)),s12 _ _ hP,λH3 s3=>⟨_,rfl,_,_,rfl,rfl,(by show(0:Int)<p;omega),rfl,_,rfl,?_⟩⟩
 have iM:=s12.trans s3
 by_cases w:aL m (λi=>x i%p)%p=0
 ·refine UQ (by simp[w]) ?_
  have lt:=IQ (x:=x) (show 0<p by omega)
  refine⟨_,rfl,D,_,_,_,rfl,rfl,aS.of (s3 _ _ e2),l6,_,rfl,_,p,rfl,hp,(by rw[bD lt.1 lt.2];exact IP z),λu H4 u0 u1 eu s4=> ?_⟩
  have tF:=iM.trans s4
  have e4:=s4 _ _ (s3 _ _ (s2 _ _ e1))
  refine⟨_,rfl,R,rfl,⟨_,aS.of e4⟩,λD2 qX=>eZ (c8 (aS.of e4)) rfl qX (λi=>u*(x i%p)%p) (λj y hj ey H5 Q5 s5 k5=> ?_) (λH5 s5 e5=>q2 ⟨z,w⟩ u D2 H5 u0 u1 eu (tF.trans s5) (tF.none qX) e5)⟩
  have PO:y= .int (x j%p):=by
   rcases aB hj with rfl|rfl|rfl<;>exact(Option.some.inj ey).symm
  subst PO
  exact⟨_,rfl,_,rfl,_,_,rfl,rfl,.inl ⟨by omega,by omega⟩,_,rfl,_,_,rfl,rfl,(by show(0:Int)<p;omega),k5 H5 (az.refl _)⟩
 ·exact Rz (by simp[w]) (q1 (λc=>w c.2) H3 iM)
def AR(T0:Addr):Sp:=λvs H Q _=> ∃(t:Addr) (bs:List Addr) (m:List (List Int)) (p:Int) (b:Addr) (x:Nat->Int),vs=[.ref t,.int p,.ref b]/\Tab H t bs m/\bI m/\Bd 440 m/\0<p/\cM H b x/\(∀i,i<3->(x i).natAbs<2^400)/\H T0=some (bN T0)/\ ∀r H',az H H'->H r=none->cM H' r (λj=>aC m x j%p) ->Q (.ref r) H'
theorem Gi{cg:Addr}(F:nO K mg "slopes" vh oE cg)(bm:BM mg base)(qY:mg "sum"=none)(aJ:mg "range"=none):cQ P w K mg base cC 1 "slopes" oE (AR cg):=by
 refine F.ok Gf (λvs H Q E h=> ?_) (λf cdv A outer s H vs Q E cd hr h=> ?_)
 ·obtain⟨t,bs,m,p,b,x,rfl,hT,bP,hB,hp0,hx,bx,hP,q⟩:=h
  rfl
 obtain⟨t,bs,m,p,b,x,rfl,hT,bP,hB,hp0,hx,bx,hP,q⟩:=h
 have hu:=hr.units
 refine⟨_,(dz (aT (dZ (N2:=["form","p","line"]) (te:=(dH (rI (λ_ j=>0<j) λi j=> .int (i%j)) (DK 1 cg (sY (bE (tC (.int 3)) gF)) (bV 0) (dH (rI iu λi j=> .int (i*j)) (dH (gc K) (aH 4) (aH 0)) (dH (gc K) (dH (gc K) (aH 2) (aH 0)) (aH 1)))) (aH 2))) rfl (bg rfl aJ (af ah ak)) (by kernel_rfl) rfl (λ_ _ _=>by exact dU (av cH (Ma (N2:=["j","form","p","line"]) (te:=(dH (rI iu λi j=> .int (i*j)) (dH (gc K) (aH 4) (aH 0)) (dH (gc K) (dH (gc K) (aH 2) (aH 0)) (aH 1)))) rfl (gC.depth hr) cd bm rfl qY (bg rfl aJ (af ah ak)) (by kernel_rfl) (λ_ _ _ _=>by exact dU (av bA (aF aq (pv 4) (pv 0) (λ_ _=>rfl)) (aF aq (aF aq (pv 2) (pv 0) (λ_ _=>rfl)) (pv 1) (λ_ _=>rfl))))) (pv 2)))))),?_⟩
 refine⟨3,rfl,by decide,by decide,λD hD=>eZ (dI (n:=3)) rfl hD (λj=>aC m x j%p) (λj y hj ey H1 Q1 s1 k1=> ?_) (λH1 s1 e1=>q D H1 s1 hD e1)⟩
 obtain⟨_,rfl⟩:=cz ey
 refine⟨3,rfl,by decide,by decide,Pp (dI (n:=3)) (s1 _ _ hP) (λi=>x i*ent m i j) (λi z ez H2 Q2 s2 k2=> ?_) (λH2 s2=> ?_)⟩
 ·obtain⟨hi,rfl⟩:=cz ez
  have sm:=s1.trans s2
  obtain⟨c,row,f1,f2,f3⟩:=qF (hT.same sm) bP hi hj
  exact⟨_,rfl,_,rfl,b,_,_,_,rfl,rfl,aS.of (sm _ _ hx),ju x hi,_,rfl,_,rfl,t,_,_,_,rfl,rfl,aS.of (hT.same sm).1,f1,_,rfl,c,_,_,_,rfl,rfl,aS.of f2,f3,_,_,rfl,rfl,⟨aG (bx i hi) (by decide),aG (hB i j hi hj) (by decide)⟩,k2 H2 (az.refl _)⟩
 ·have k:=k1 H2 s2
  have e:preSum (λi=>x i*ent m i j) (iQ 3).length=aC m x j:=UN _
  rw[e]
  exact⟨_,rfl,_,_,rfl,rfl,hp0,k⟩
def Ko(T0:Addr):Sp:=λvs H Q _=> ∃(b:Addr) (s:Nat->Int),vs=[.ref b]/\cM H b s/\H T0=some (bN T0)/\ ¬(s 0=0/\s 1=0/\s 2=0)/\ ∀(i:Nat) H',az H H'->i<3->s i≠0->(∀j,i<j->j<3->s j=0) ->Q (.int (i:Int)) H'
theorem wZ{aY:Addr}(F:nO K mg "last_slope" mV iA aY)(bm:BM mg base)(Kp:mg "max"=none)(aJ:mg "range"=none):cQ P w K mg base cC 1 "last_slope" iA (Ko aY):=by
 refine F.ok wQ (λvs H Q E h=> ?_) (λf cdv A outer s H vs Q E cd hr h=> ?_)
 ·obtain⟨b,s,rfl,hx,hP,ex,q⟩:=h
  rfl
 obtain⟨b,s,rfl,hx,hP,ex,q⟩:=h
 have hu:=hr.units
 refine⟨_,(dz (aT (JT (N2:=["told"]) (tt:=(lT (dH NN (dH (gc K) (aH 1) (aH 0)) (tC (.int 0))))) (te:=(aH 0)) rfl (gC.depth hr) cd bm rfl Kp (bg rfl aJ (af ah ak)) (by kernel_rfl) (λ_ _ _ _=>by exact tP (bz kQ (aF aq (pv 1) (pv 0) (λ_ _=>rfl)) ah (aZ _))) (λ_ _ _ _=>by exact dU (pv 0))))),?_⟩
 refine⟨3,rfl,by decide,by decide,MZ hP (λj=> !decide (V.int (s j)=V.int 0)) ?_ (λj hj H1 R s1 k1=> ?_) (λj hj H1 Q1 s1 k1=>⟨_,rfl,k1⟩) (λi H1 s1 hi h1 h2=>q i H1 s1 hi (λz=>by simp[z]at h1) (λj a b=>by have:=h2 j a b;simpa using this))⟩
 ·rcases Classical.em (s 0=0)with z0|z0
  ·rcases Classical.em (s 1=0)with z1|z1
   ·exact .inr (.inr (by simpa using λz2=>ex ⟨z0,z1,z2⟩))
   ·exact .inr (.inl (by simpa using z1))
  ·exact .inl (by simpa using z0)
 ·exact⟨_,rfl,_,rfl,b,_,_,_,rfl,rfl,aS.of (s1 _ _ hx),(by rw[Int.zero_add];exact ju s hj),rfl,_,rfl,k1 H1 (az.refl _)⟩
def El(T1 T2 T3:Addr):Sp:=λvs H Q _=> ∃(t:Addr) (bs:List Addr) (m:List (List Int)) (p:Int) (b:Addr) (x:Nat->Int),vs=[.ref t,.int p,.ref b]/\Tab H t bs m/\bI m/\Bd 440 m/\cj m/\p∈([3,5,7,11,13]:List Int)/\aX m/2%p≠0/\cM H b x/\jf p x/\aL m x%p=0/\H T1=some (bN T1)/\H T2=some (bN T2)/\H T3=some (bN T3)/\ ∀(i:Nat) (tm:Int) r H',p6 m p x i tm->az H H'->H r=none->cM H' r (cu p x i tm) ->Q (.ref r) H'
theorem w5{cg aY aP:Addr}(F:eT K mg "first_lift" mW iB)(eX:mg "list"=none)(vD:cQ P w K mg base cC 5 "slopes" oE (AR cg))(ng:cQ P w K mg base cC 5 "last_slope" iA (Ko aY))(pG:cQ P w K mg base cC 5 "worth" pD (zf aP))(iX:cQ P w K mg base cC 5 "upturned" iT PN):cQ P w K mg base cC 6 "first_lift" iB (El cg aY aP):=by
 refine F.ok gJ (λvs H Q E h=> ?_) (λf cdv A outer s H vs Q E hr h=> ?_)
 ·obtain⟨t,bs,m,p,b,x,rfl,hT,bP,hB,ev,hp,hd,hx,L,hc,h1,h2,h3,q⟩:=h
  rfl
 obtain⟨t,bs,m,p,b,x,rfl,hT,bP,hB,ev,hp,hd,hx,L,hc,h1,h2,h3,q⟩:=h
 have hu:=hr.units
 refine⟨_,(lV (@ay _ _ _ _ _ (aW (i:=3) gJ.nd rfl (Or.inl rfl) (aN vD hr rfl aM (af (pv 0) (af (pv 1) (af (pv 2) ak)))))
  (@ay _ _ _ _ _ (aW (i:=4) gJ.nd rfl (Or.inl rfl) (aN ng hr rfl aM (af (pv 3) ak)))
  (@ay _ _ _ _ _ (aW (i:=5) gJ.nd rfl (Or.inl rfl) (av cH (av bQ (NL HM (av fE (aN pG hr rfl aM (af (pv 0) (af (pv 2) ak))) (pv 1))) (aN iX hr rfl aM (af (aF aq (pv 3) (pv 4) (λ_ _=>rfl)) (af (pv 1) ak)))) (pv 1)))
  (@ay _ _ _ _ _ (aW (i:=6) gJ.nd rfl (Or.inl rfl) (gv ir rfl eX PyProof.Rows.boot_list (af (pv 2) ak)))
  (@ay _ _ _ _ _ (Dy (pv 6) (pv 4) Av (av bQ (pv 5) (pv 1)) HB set_list)
  (@aK _ _ _ (aT (pv 6))))))))),?_⟩
 have p0:2<p/\p<14:=by
  simp only[List.mem_cons,List.not_mem_nil,or_false]at hp
  omega
 have bx:∀i,i<3->(x i).natAbs<2^400:=λi hi=>aG (a:=4) (by have:=L.lo i hi;have:=L.hi i hi;omega) (by decide)
 refine⟨_,rfl,_,rfl,_,rfl,t,bs,m,p,b,x,rfl,hT,bP,hB,by omega,hx,bx,h1,λr H1 s1 fr er=> ?_⟩
 refine⟨_,rfl,r,_,rfl,er,s1 _ _ h2,uY ev hp hd L,λi H2 s2 hi si fl=> ?_⟩
 have s12:=s1.trans s2
 refine⟨_,rfl,_,rfl,t,bs,m,b,x,rfl,hT.same s12,bP,hB.mono (by decide),s12 _ _ hx,λi hi=>aG (bx i hi) (by decide),s12 _ _ h3,λH3 s3=> ?_⟩
 have iM:=s12.trans s3
 have Yt:=s3 _ _ (s2 _ _ er)
 refine⟨_,rfl,_,_,rfl,rfl,⟨by omega,by omega⟩,_,rfl,_,rfl,_,rfl,r,_,_,.int (aC m x i%p),rfl,rfl,aS.of Yt,ju (λj=>aC m x j%p) hi,_,rfl,_,p,rfl,hp,(by rw[Int.emod_emod_of_dvd _ (Int.dvd_refl p)];exact si),λu H4 u0 u1 eu s4=> ?_⟩
 refine⟨_,_,rfl,rfl,.inr ⟨by omega,by omega⟩,_,rfl,_,_,rfl,rfl,(by show(0:Int)<p;omega),?_⟩
 have tF:=iM.trans s4
 have t0:=Int.emod_nonneg (-(aL m x/p)*u) (show p≠0 by omega)
 have t1:=Int.emod_lt_of_pos (-(aL m x/p)*u) (show 0<p by omega)
 have te:(aL m x/p+ -(aL m x/p)*u%p*aC m x i)%p=0:=by
  rw[mR]at eu
  obtain⟨k,hk⟩:=f9 (show u*aC m x i%p=1%p by rw[eu];exact(bD (by decide) (by omega)).symm)
  have e2:=Int.emod_add_mul_ediv (-(aL m x/p)*u) p
  generalize aL m x/p=w at e2 ⊢
  generalize-w*u%p=y at e2 ⊢
  refine Int.emod_eq_zero_of_dvd ⟨-(w*k) - (-w*u/p)*aC m x i,?_⟩
  generalize-w*u/p=v at e2 ⊢
  have e3:y= -w*u-p*v:=by omega
  have e4:w+y*aC m x i=w-w*(u*aC m x i) -p*(v*aC m x i):=by rw[e3];grind
  rw[e4,hk]
  grind
 have Yu:=tF _ _ hx
 refine⟨_,rfl,b,_,rfl,.inl (aS.of Yu),λD hD=> ?_⟩
 have uD:=az.up (o:= .lst [.int (x 0),.int (x 1),.int (x 2)]) hD
 have xi: [V.int (x 0),.int (x 1),.int (x 2)][i]?=some (.int (x i)):=by rcases aB hi with rfl|rfl|rfl<;>rfl
 refine⟨_,rfl,_,rfl,D,_,i,_,rfl,rfl,aS.of au,xi,_,rfl,_,rfl,_,_,rfl,rfl,.inl ⟨Int.lt_of_lt_of_le (by decide) t0,Int.lt_trans t1 (by omega)⟩,_,_,rfl,rfl,D,_,_,i,rfl,rfl,au,(by rcases aB hi with rfl|rfl|rfl<;>rfl),?_⟩
 refine⟨_,rfl,q i (-(aL m x/p)*u%p) D _ ⟨hi,si,fl,t0,t1,te⟩ ((tF.trans uD).upd (tF.none hD)) (tF.none hD) ?_⟩
 show upd _ D _ D=_
 rw[au]
 unfold cu
 rcases aB hi with rfl|rfl|rfl<;>rfl
def AS(T1 T2:Addr):Sp:=λvs H Q _=> ∃(t:Addr) (bs:List Addr) (m:List (List Int)) (p:Int) (b:Addr) (x:Nat->Int),vs=[.ref t,.int p,.ref b]/\Tab H t bs m/\bI m/\Bd 440 m/\cj m/\p∈([3,5,7,11,13]:List Int)/\aX m/2%p≠0/\cM H b x/\jf p x/\aL m x%p=0/\H T1=some (bN T1)/\H T2=some (bN T2)/\ ∀H',az H H'->Q (.bl true) H'
theorem CG{aU aP:Addr}(F:eT K mg "is_line" rW mq)(mD:cQ P w K mg base cC 4 "is_row" l9 (uq aU))(nh:cQ P w K mg base cC 4 "line_under" iz (Ek aP)):cQ P w K mg base cC 5 "is_line" mq (AS aU aP):=by
 refine F.ok Cw (λvs H Q E h=> ?_) (λf cdv A outer s H vs Q E hr h=> ?_)
 ·obtain⟨t,bs,m,p,b,x,rfl,hT,bP,hB,ev,hp,hd,hx,L,hc,h1,h2,q⟩:=h
  rfl
 obtain⟨t,bs,m,p,b,x,rfl,hT,bP,hB,ev,hp,hd,hx,L,hc,h1,h2,q⟩:=h
 have hu:=hr.units
 refine⟨_,(dz (aT (mG (aN mD hr rfl aM (af (pv 2) ak)) (pV (d9 (BU hu) (aN nh hr rfl aM (af (pv 0) (af (pv 1) (af (pv 2) ak)))) (pv 2) (aZ _)))))),?_⟩
 have p0:2<p/\p<14:=by
  simp only[List.mem_cons,List.not_mem_nil,or_false]at hp
  omega
 have e1:∀i,i<3->1*x i%p=x i%p:=λi _=>by rw[Int.one_mul]
 have lo:=Ea (show 1<p by omega) L (by decide) (by omega) e1
 have oc:Ck m p x:=⟨lo.2,Mn ev hc e1⟩
 refine⟨_,rfl,b,x,rfl,hx,h1,λH1 s1=>⟨_,rfl,uF ?_⟩⟩
 refine⟨_,rfl,_,rfl,_,rfl,t,bs,m,p,b,x,rfl,hT.same s1,bP,hB,hp,s1 _ _ hx,s1 _ _ h2,λz=>absurd oc z,λ_ u a H2 u0 u1 eu s2 fa ea=> ?_⟩
 have Vg:∀i,i<3->u*(x i%p)%p=x i:=λi hi=>FD (show 1<p by omega) L (by decide) (by omega) e1 eu i hi
 have ea:H2 a=some (.lst [.int (x 0),.int (x 1),.int (x 2)]):=by
  rw[<-Vg 0 (by decide),<-Vg 1 (by decide),<-Vg 2 (by decide)]
  exact ea
 refine⟨_,rfl,PB (xs:=[x 0,x 1,x 2]) (ys:=[x 0,x 1,x 2]) (aS.of ea) (aS.of (s2 _ _ (s1 _ _ hx))) ?_⟩
 rw[decide_eq_true rfl]
 exact q H2 (s1.trans s2)
def Kq(T1 T2 T3 T4:Addr):Sp:=λvs H Q _=> ∃(t:Addr) (bs:List Addr) (m:List (List Int)) (p:Int) (b:Addr) (x:Nat->Int),vs=[.ref t,.int p,.ref b]/\Tab H t bs m/\bI m/\Bd 440 m/\cj m/\dj m=true/\aX m/2<=200/\H T1=some (bN T1)/\H T2=some (bN T2)/\H T3=some (bN T3)/\p∈([3,5,7,11,13]:List Int)/\aX m/2%p≠0/\cM H b x/\jf p x/\aL m x%p=0/\H T4=some (bN T4)/\ ∀H',az H H'->Q .gP H'
theorem qZ{aU aO aD aP:Addr}(F:eT K mg "refuse_no_line" iU fC)(iI:cQ P w K mg base cC 10 "refuse_no_prime" eN (Kn aU aO aD))(sr:cQ P w K mg base cC 10 "is_line" mq (AS aU aP)):cQ P w K mg base cC 11 "refuse_no_line" fC (Kq aU aO aD aP):=by
 refine F.ok qS (λvs H Q E h=> ?_) (λf cdv A outer s H vs Q E hr h=> ?_)
 ·obtain⟨t,bs,m,p,b,x,rfl,hT,bP,hB,ev,ab,le,h1,h2,h3,hp,hd,hx,L,hc,h4,q⟩:=h
  rfl
 obtain⟨t,bs,m,p,b,x,rfl,hT,bP,hB,ev,ab,le,h1,h2,h3,hp,hd,hx,L,hc,h4,q⟩:=h
 have hu:=hr.units
 refine⟨_,(lV (@ay _ _ _ _ _ (mH (aN iI hr rfl aM (af (pv 0) (af (pv 1) ak))))
  (@aK _ _ _ (cI (jV (jk (aN sr hr rfl aM (af (pv 0) (af (pv 1) (af (pv 2) ak)))))) (@aK _ _ _ qz) dJ)))),?_⟩
 refine⟨_,rfl,_,rfl,t,bs,m,p,rfl,hT,bP,hB,ev,ab,le,h1,h2,h3,hp,hd,λH1 s1=> ?_⟩
 exact⟨_,rfl,_,rfl,_,rfl,t,bs,m,p,b,x,rfl,hT.same s1,bP,hB,ev,hp,hd,s1 _ _ hx,L,hc,s1 _ _ h1,s1 _ _ h4,λH2 s2=>⟨_,rfl,pK (q H2 (s1.trans s2))⟩⟩
end
end CM
namespace L2
open PySem PySem.Spec PyProof.Rows
structure Cl(M:(Nat->Int) ->Prop):Prop where
 zero:M λ_=>0
 add:∀x y c,M x->M y->M λj=>x j+c*y j
 ext:∀x y,M x->(∀j,j<3->x j=y j) ->M y
theorem Cl.mul{M:(Nat->Int) ->Prop}(h:Cl M){x:Nat->Int}(c:Int)(hx:M x):M λj=>c*x j:=h.ext _ _ (h.add _ _ c h.zero hx) λj _=>by simp
def In(M:(Nat->Int) ->Prop)(L:List (List Int)):Prop:=∀r∈L,M (ao r)
def zg(A B:List (List Int)):Prop:=∀M,Cl M->(In M A↔In M B)
theorem zg.refl(A:List (List Int)):zg A A:=λ_ _=>Iff.rfl
theorem zg.trans{A B C:List (List Int)}(h:zg A B)(k:zg B C):zg A C:=λM c=>(h M c).trans (k M c)
theorem dw{M:(Nat->Int) ->Prop}{A B:List (List Int)}:In M (A++B)↔In M A/\In M B:=by
 unfold In
 constructor
 ·exact λh=>⟨λr hr=>h r (List.mem_append_left _ hr),λr hr=>h r (List.mem_append_right _ hr)⟩
 ·rintro⟨h1,h2⟩ r hr
  rcases List.mem_append.mp hr with z|z
  ·exact h1 r z
  ·exact h2 r z
theorem Nd{M:(Nat->Int) ->Prop}{A B:List (List Int)}(p:A.Perm B):In M A↔In M B:=⟨λh r hr=>h r (p.mem_iff.mpr hr),λh r hr=>h r (p.mem_iff.mp hr)⟩
def CH(q:Int)(r y:List Int):List Int:=[ao r 0-q*ao y 0,ao r 1-q*ao y 1,ao r 2-q*ao y 2]
theorem gA(q:Int)(r y:List Int){j:Nat}(h:j<3):ao (CH q r y) j=ao r j-q*ao y j:=by
 rcases aB h with rfl|rfl|rfl<;>rfl
def dQ(k:Nat)(y:List Int)(L:List (List Int)):List (List Int):=L.map λr=>CH ((ao r k).fdiv (ao y k)) r y
theorem Kr{M:(Nat->Int) ->Prop}(c:Cl M){k:Nat}{y:List Int}{L:List (List Int)}(hy:M (ao y)):In M (dQ k y L)↔In M L:=by
 unfold In dQ
 constructor
 ·intro h r hr
  have:=h _ (List.mem_map.mpr ⟨r,hr,rfl⟩)
  exact c.ext _ _ (c.add _ _ ((ao r k).fdiv (ao y k)) this hy) λj hj=>by rw[gA _ _ _ hj];omega
 ·intro h r hr
  obtain⟨r',hr',rfl⟩:=List.mem_map.mp hr
  exact c.ext _ _ (c.add _ _ (-((ao r' k).fdiv (ao y k))) (h r' hr') hy) λj hj=>by rw[gA _ _ _ hj,Int.neg_mul];omega
def qg(k:Nat)(L:List (List Int)):List (List Int):=L.filter λr=> !decide (ao r k=0)
def tX(k:Nat)(L:List (List Int)):List (List Int):=L.filter λr=>decide (ao r k=0)
theorem AU{M:(Nat->Int) ->Prop}(k:Nat)(L:List (List Int)):In M L↔In M (tX k L)/\In M (qg k L):=by
 unfold In tX qg
 constructor
 ·exact λh=>⟨λr hr=>h r (List.mem_filter.mp hr).1,λr hr=>h r (List.mem_filter.mp hr).1⟩
 ·rintro⟨h1,h2⟩ r hr
  by_cases e:ao r k=0
  ·exact h1 r (List.mem_filter.mpr ⟨hr,by simp[e]⟩)
  ·exact h2 r (List.mem_filter.mpr ⟨hr,by simp[e]⟩)
theorem Ks{x y:Int}(h:0<y):x-x.fdiv y*y=x%y/\x.fdiv y=x/y:=by
 have e:x.fdiv y=x/y:=Int.fdiv_eq_ediv_of_nonneg x (by omega)
 have:=Int.emod_add_mul_ediv x y
 rw[Int.mul_comm]at this
 exact⟨by rw[e];omega,e⟩
theorem g7{x y:Int}(hy:y≠0):(x-x.fdiv y*y).natAbs<y.natAbs/\(0<y->0<=x-x.fdiv y*y)/\(y<0->x-x.fdiv y*y<=0)/\(x.fdiv y).natAbs*y.natAbs<=x.natAbs+y.natAbs/\
  (((0<x/\0<y)∨(x<0/\y<0)) ->(x.fdiv y).natAbs*y.natAbs<=x.natAbs/\(y.natAbs<=x.natAbs->2*(x-x.fdiv y*y).natAbs<=x.natAbs)):=by
 have core:∀x y:Int,0<y->(x-x.fdiv y*y).natAbs<y.natAbs/\0<=x-x.fdiv y*y/\(x.fdiv y).natAbs*y.natAbs<=x.natAbs+y.natAbs/\(0<x->(x.fdiv y).natAbs*y.natAbs<=x.natAbs/\(y.natAbs<=x.natAbs->2*(x-x.fdiv y*y).natAbs<=x.natAbs)):=by
  intro x y h
  obtain⟨e1,e2⟩:=Ks (x:=x) h
  have m0:=Int.emod_nonneg x (show y≠0 by omega)
  have m1:=Int.emod_lt_of_pos x h
  have e3:(x.fdiv y).natAbs*y.natAbs=(x.fdiv y*y).natAbs:=(Int.natAbs_mul _ _).symm
  rw[e3]
  generalize hq:x.fdiv y*y=q at e1 ⊢
  refine⟨by omega,by omega,by omega,λhx=>⟨?_,λhyx=> ?_⟩⟩
  ·have d0:0<=x/y:=Int.ediv_nonneg (by omega) (by omega)
   have:0<=q:=by rw[<-hq,e2];exact Int.mul_nonneg d0 (by omega)
   omega
  ·have d1:1<=x/y:=by
    rw[Int.le_ediv_iff_mul_le h]
    omega
   have:y<=q:=by
    rw[<-hq,e2]
    have:=Int.mul_le_mul_of_nonneg_right d1 (show 0<=y by omega)
    omega
   omega
 rcases Int.lt_or_gt_of_ne hy with h|h
 ·have e:x.fdiv y=(-x).fdiv (-y):=(Int.neg_fdiv_neg x y).symm
  obtain⟨a1,a2,a3,a4⟩:=core (-x) (-y) (by omega)
  rw[e]
  have e5: -x- (-x).fdiv (-y)* -y= -(x- (-x).fdiv (-y)*y):=by grind
  rw[e5]at a1 a2 a4
  rw[Int.natAbs_neg,Int.natAbs_neg]at a1 a4
  rw[Int.natAbs_neg,Int.natAbs_neg]at a3
  refine⟨a1,λz=>by omega,λ_=>by omega,a3,λz=> ?_⟩
  have hx:x<0:=by omega
  obtain⟨b1,b2⟩:=a4 (by omega)
  rw[Int.natAbs_neg]at b2
  exact⟨b1,b2⟩
 ·obtain⟨a1,a2,a3,a4⟩:=core x y h
  exact⟨a1,λ_=>a2,λz=>by omega,a3,λz=>a4 (by omega)⟩
structure Wk(k:Nat)(S:List (List Int))(E M m:Nat)(same:Bool)(Z:Nat):Prop where
 nz:∀r∈S,ao r k≠0
 off:∀r∈S,∀j,j<3->j≠k->(ao r j).natAbs<=E
 hi:∀r∈S,(ao r k).natAbs<=M
 lo:∀r∈S,m<=(ao r k).natAbs
 ex:∃r∈S,(ao r k).natAbs=m
 sg:same=true->(∀r∈S,0<ao r k)∨(∀r∈S,ao r k<0)
 SW:E*2^S.length*(M*M)*m*(if same then 1 else 3)<=Z
theorem CI(k:Nat):∀{S:List (List Int)},S≠ [] -> ∃r∈S,∀x∈S,(ao r k).natAbs<=(ao x k).natAbs
 | [],h=>absurd rfl h
 | [r],_=>⟨r,List.mem_cons_self,λx hx=>by rw[List.mem_singleton.mp hx];exact Nat.le_refl _⟩
 |r::s::S,_=>by
  obtain⟨z,hz,h⟩:=CI k (S:=s::S) (by simp)
  by_cases c:(ao r k).natAbs<=(ao z k).natAbs
  ·refine⟨r,List.mem_cons_self,λx hx=> ?_⟩
   rcases List.mem_cons.mp hx with rfl|hx
   ·exact Nat.le_refl _
   ·exact Nat.le_trans c (h x hx)
  ·refine⟨z,List.mem_cons_of_mem _ hz,λx hx=> ?_⟩
   rcases List.mem_cons.mp hx with rfl|hx
   ·omega
   ·exact h x hx
theorem Wk.start{k:Nat}{S:List (List Int)}{B E:Nat}(h0:S≠ [])(hl:S.length<=4)(nz:∀r∈S,ao r k≠0)(off:∀r∈S,∀j,j<3->j≠k->(ao r j).natAbs<=E)(hi:∀r∈S,(ao r k).natAbs<=B):
  ∃m,Wk k S E B m false (48*(E*(B*B)*B)):=by
 obtain⟨r,hr,h⟩:=CI k h0
 refine⟨(ao r k).natAbs,nz,off,hi,h,⟨r,hr,rfl⟩,λz=>by simp at z,?_⟩
 have p:2^S.length<=2^4:=Nat.pow_le_pow_right (by decide) hl
 have mb:=hi r hr
 simp only[Bool.false_eq_true,if_false]
 generalize(ao r k).natAbs=m at mb ⊢
 generalize 2^S.length=t at p ⊢
 have e1:E*t*(B*B)*m*3=t*(E*(B*B)*m)*3:=by grind
 have e2:E*(B*B)*m<=E*(B*B)*B:=Nat.mul_le_mul_left _ mb
 have e3:t*(E*(B*B)*m)<=16*(E*(B*B)*B):=Nat.mul_le_mul p e2
 rw[e1]
 omega
theorem Nf{k:Nat}{y r:List Int}{E M m Q:Nat}(hy:ao y k≠0)(my:(ao y k).natAbs=m)(oy:∀j,j<3->j≠k->(ao y j).natAbs<=E)(orr:∀j,j<3->j≠k->(ao r j).natAbs<=E)
  (hQ:((ao r k).fdiv (ao y k)).natAbs<=Q){j:Nat}(hj:j<3)(hk:j≠k):(ao (CH ((ao r k).fdiv (ao y k)) r y) j).natAbs<=E*(1+Q):=by
 rw[gA _ _ _ hj]
 have h1:=orr j hj hk
 have h2:((ao r k).fdiv (ao y k)*ao y j).natAbs<=Q*E:=by
  rw[Int.natAbs_mul]
  exact Nat.mul_le_mul hQ (oy j hj hk)
 have h3:E*(1+Q)=E+Q*E:=by grind
 omega
theorem Wk.step{k:Nat}{y:List Int}{rest:List (List Int)}{E M m Z:Nat}{same:Bool}(hk:k<3)(W:Wk k (y::rest) E M m same Z)(hr:rest≠ [])(PR:∀r∈rest,(ao y k).natAbs<=(ao r k).natAbs):
  ∃E' m',Wk k (y::qg k (dQ k y rest)) E' m m' true Z/\m<=M/\(∀r∈dQ k y rest,∀j,j<3->j≠k->(ao r j).natAbs<=E')/\(∀r∈dQ k y rest,(ao r k).natAbs<m):=by
 have ny:=W.nz y List.mem_cons_self
 have my:(ao y k).natAbs=m:=by
  obtain⟨z,hz,e⟩:=W.ex
  have h1:=W.lo y List.mem_cons_self
  rcases List.mem_cons.mp hz with rfl|hz
  ·exact e
  ·have:=PR z hz
   omega
 have m0:0<m:=by omega
 have mM:m<=M:=by have:=W.hi y List.mem_cons_self;omega
 obtain⟨Q,hQ,Oa⟩:∃Q:Nat,(∀r∈rest,((ao r k).fdiv (ao y k)).natAbs<=Q)/\(1+Q)*m<=(if same then 2 else 3)*M:=by
  cases same with
  |true=>
   refine⟨M/m,λr hr=> ?_,?_⟩
   ·obtain⟨_,_,_,_,a5⟩:=g7 (x:=ao r k) ny
    have sg:(0<ao r k/\0<ao y k)∨(ao r k<0/\ao y k<0):=by
     rcases W.sg rfl with z|z
     ·exact .inl ⟨z r (List.mem_cons_of_mem _ hr),z y List.mem_cons_self⟩
     ·exact .inr ⟨z r (List.mem_cons_of_mem _ hr),z y List.mem_cons_self⟩
    have b1:=(a5 sg).1
    rw[my]at b1
    rw[Nat.le_div_iff_mul_le m0]
    exact Nat.le_trans b1 (W.hi r (List.mem_cons_of_mem _ hr))
   ·have:=Nat.div_mul_le_self M m
    rw[Nat.add_mul]
    simp only[if_true]
    omega
  |false=>
   refine⟨M/m+1,λr hr=> ?_,?_⟩
   ·obtain⟨_,_,_,a4,_⟩:=g7 (x:=ao r k) ny
    rw[my]at a4
    have hM:=W.hi r (List.mem_cons_of_mem _ hr)
    have:((ao r k).fdiv (ao y k)).natAbs*m<=M+m:=by omega
    have e:(M+m)/m=M/m+1:=Nat.add_div_right M m0
    rw[<-e,Nat.le_div_iff_mul_le m0]
    exact this
   ·have:=Nat.div_mul_le_self M m
    have e:(1+(M/m+1))*m=2*m+M/m*m:=by grind
    rw[e]
    simp only[Bool.false_eq_true,if_false]
    omega
 have off':∀r∈dQ k y rest,∀j,j<3->j≠k->(ao r j).natAbs<=E*(1+Q):=λr hr j hj hjk=>by
  obtain⟨r0,hr0,rfl⟩:=List.mem_map.mp hr
  exact Nf (m:=m) (M:=M) ny my (W.off y List.mem_cons_self) (W.off r0 (List.mem_cons_of_mem _ hr0)) (hQ r0 hr0) hj hjk
 have lt':∀r∈dQ k y rest,(ao r k).natAbs<m:=λr hr=>by
  obtain⟨r0,hr0,rfl⟩:=List.mem_map.mp hr
  rw[gA _ _ _ hk,<-my]
  exact(g7 ny).1
 have E0:E<=E*(1+Q):=by
  have:E*1<=E*(1+Q):=Nat.mul_le_mul_left _ (by omega)
  omega
 obtain⟨z,hz,hmin⟩:=CI k (S:=y::qg k (dQ k y rest)) (by simp)
 have inr:∀{r},r∈qg k (dQ k y rest) ->r∈dQ k y rest/\ao r k≠0:=λ {r} h=>by
  obtain⟨a,b⟩:=List.mem_filter.mp h
  exact⟨a,by simpa using b⟩
 have zm:(ao z k).natAbs<=m:=by rw[<-my];exact hmin y List.mem_cons_self
 refine⟨E*(1+Q),(ao z k).natAbs,⟨λr hr=> ?_,λr hr j hj hjk=> ?_,λr hr=> ?_,hmin,⟨z,hz,rfl⟩,λ_=> ?_,?_⟩,mM,off',lt'⟩
 ·rcases List.mem_cons.mp hr with rfl|hr
  ·exact ny
  ·exact(inr hr).2
 ·rcases List.mem_cons.mp hr with rfl|hr
  ·exact Nat.le_trans (W.off r List.mem_cons_self j hj hjk) E0
  ·exact off' r (inr hr).1 j hj hjk
 ·rcases List.mem_cons.mp hr with rfl|hr
  ·omega
  ·exact Nat.le_of_lt (lt' r (inr hr).1)
 ·rcases Int.lt_or_gt_of_ne ny with c|c
  ·refine .inr λr hr=> ?_
   rcases List.mem_cons.mp hr with rfl|hr
   ·exact c
   ·obtain⟨a,b⟩:=inr hr
    obtain⟨r0,hr0,rfl⟩:=List.mem_map.mp a
    rw[gA _ _ _ hk]at b ⊢
    have:=(g7 (x:=ao r0 k) ny).2.2.1 c
    omega
  ·refine .inl λr hr=> ?_
   rcases List.mem_cons.mp hr with rfl|hr
   ·exact c
   ·obtain⟨a,b⟩:=inr hr
    obtain⟨r0,hr0,rfl⟩:=List.mem_map.mp a
    rw[gA _ _ _ hk]at b ⊢
    have:=(g7 (x:=ao r0 k) ny).2.1 c
    omega
 ·--ZR Qw
  have len:(qg k (dQ k y rest)).length<=rest.length:=by
   have:=List.length_filter_le (λr=> !decide (ao r k=0)) (dQ k y rest)
   have e:(dQ k y rest).length=rest.length:=List.length_map _
   show(List.filter _ _).length<=_
   omega
  have key:(if same then 2 else 3)*2^(qg k (dQ k y rest)).length*(ao z k).natAbs<=2^rest.length*M*(if same then 1 else 3):=by
   have p1:2^(qg k (dQ k y rest)).length<=2^rest.length:=Nat.pow_le_pow_right (by decide) len
   cases same with
   |false=>
    simp only[Bool.false_eq_true,if_false]
    have:=Nat.mul_le_mul p1 (Nat.le_trans zm mM)
    generalize 2^(qg k (dQ k y rest)).length=u at this ⊢
    generalize 2^rest.length=v at this ⊢
    have e1:3*u*(ao z k).natAbs=3*(u*(ao z k).natAbs):=Nat.mul_assoc _ _ _
    omega
   |true=>
    simp only[if_true]
    rw[Nat.mul_one]
    rcases Nat.lt_or_ge (qg k (dQ k y rest)).length rest.length with c|c
    ·have p2:2*2^(qg k (dQ k y rest)).length<=2^rest.length:=by
      rw[Nat.mul_comm,<-Nat.pow_succ]
      exact Nat.pow_le_pow_right (by decide) c
     exact Nat.mul_le_mul p2 (Nat.le_trans zm mM)
    ·cases rest with
     |nil=>exact absurd rfl hr
     |cons r1 rest=>
      have full:(dQ k y (r1::rest)).length<=(qg k (dQ k y (r1::rest))).length:=by
       have e:(dQ k y (r1::rest)).length=(r1::rest).length:=List.length_map _
       omega
      have hm:CH ((ao r1 k).fdiv (ao y k)) r1 y∈dQ k y (r1::rest):=List.mem_map.mpr ⟨r1,List.mem_cons_self,rfl⟩
      have keep:CH ((ao r1 k).fdiv (ao y k)) r1 y∈qg k (dQ k y (r1::rest)):=by
       have e:List.filter (λr=> !decide (ao r k=0)) (dQ k y (r1::rest))=dQ k y (r1::rest):=List.filter_sublist.eq_of_length_le full
       show _∈List.filter _ _
       rw[e]
       exact hm
      have h1:=hmin _ (List.mem_cons_of_mem _ keep)
      rw[gA _ _ _ hk]at h1
      have sg:(0<ao r1 k/\0<ao y k)∨(ao r1 k<0/\ao y k<0):=by
       rcases W.sg rfl with z|z
       ·exact .inl ⟨z r1 (by simp),z y (by simp)⟩
       ·exact .inr ⟨z r1 (by simp),z y (by simp)⟩
      have h2:=((g7 (x:=ao r1 k) ny).2.2.2.2 sg).2 (PR r1 List.mem_cons_self)
      have h3:=W.hi r1 (by simp)
      have:2*(ao z k).natAbs<=M:=by omega
      have e3:=Nat.mul_le_mul p1 this
      have e4:2*2^(qg k (dQ k y (r1::rest))).length*(ao z k).natAbs=2^(qg k (dQ k y (r1::rest))).length*(2*(ao z k).natAbs):=by rw[Nat.mul_comm 2,Nat.mul_assoc]
      omega
  have P:=W.SW
  rw[List.length_cons,Nat.pow_succ]at P ⊢
  simp only[if_true,Nat.mul_one]
  generalize 2^(qg k (dQ k y rest)).length=u at key ⊢
  generalize 2^rest.length=v at key P ⊢
  generalize(ao z k).natAbs=m' at key ⊢
  generalize(if same then 2 else 3)=c2 at key Oa
  generalize(if same then 1 else 3)=c1 at key P
  have s1:E*(1+Q)*(u*2)*(m*m)*m'=(E*2*m)*(((1+Q)*m)*(u*m')):=by grind
  have s2:((1+Q)*m)*(u*m')<=(c2*M)*(u*m'):=Nat.mul_le_mul_right _ Oa
  have s3:(c2*M)*(u*m')=M*(c2*u*m'):=by grind
  have s4:M*(c2*u*m')<=M*(v*M*c1):=Nat.mul_le_mul_left _ key
  have s5:(E*2*m)*(M*(v*M*c1))=E*(v*2)*(M*M)*m*c1:=by grind
  rw[s1]
  refine Nat.le_trans (Nat.mul_le_mul_left _ (Nat.le_trans s2 (by rw[s3];exact s4))) ?_
  rw[s5]
  exact P
theorem Wk.bound{k:Nat}{S:List (List Int)}{E M m Z:Nat}{same:Bool}(W:Wk k S E M m same Z):E<=Z:=by
 obtain⟨r,hr,e⟩:=W.ex
 have m0:0<m:=by have:=W.nz r hr;omega
 have M0:0<M:=by have:=W.hi r hr;omega
 have c0:0<(if same then 1 else 3):=by cases same<;>decide
 have p:0<2^S.length*(M*M)*m*(if same then 1 else 3):=Nat.mul_pos (Nat.mul_pos (Nat.mul_pos (Nat.pow_pos (by decide)) (Nat.mul_pos M0 M0)) m0) c0
 have h:=W.SW
 have e2:E*2^S.length*(M*M)*m*(if same then 1 else 3)=E*(2^S.length*(M*M)*m*(if same then 1 else 3)):=by
  simp only[Nat.mul_assoc]
 rw[e2]at h
 exact Nat.le_trans (Nat.le_mul_of_pos_right E p) h
end L2
namespace zh
open PySem PyProof.Rows
section
variable{M:Model}{A:Around}{E:Value->Shared->Prop}{s:Shared}{st:SortSt}{b:Nat->Bool}{n:Nat}{bd:Nat->StateT SortSt Sem (Option Bool)}
end
def CJ(prog:Program)(w:World)(A:Around)(E:Value->Shared->Prop)(s:Shared)(κ:SortKind)(K:Keyed->Int)(D:Keyed->Prop):Prop:=
 ∀(st:SortSt) (x y:Keyed) (Q:Option Bool->SortSt->Prop),kindOf st=κ->D x->D y->Q (some (decide (K x<K y))) st->wpS (model prog w) A E s (lt' x y) Q st
section
variable{prog:Program}{w:World}{A:Around}{E:Value->Shared->Prop}{s:Shared}{κ:SortKind}{K:Keyed->Int}{D:Keyed->Prop}{st:SortSt}
theorem Ku{ar:Array Keyed}{i:Nat}{x:Keyed}{Q:Keyed->SortSt->Prop}{M:Model}(h:ar[i]?=some x)(hq:Q x st):wpS M A E s (elem' ar i) Q st:=by
 rw[elem'_eq,h]
 exact wpS_pure hq
end
structure MG(K:Keyed->Int)(tot out ra rb:List Keyed):Prop where
 perm:(out++(ra++rb)).Perm tot
 so:out.Pairwise λx y=>K x<=K y
 sa:ra.Pairwise λx y=>K x<=K y
 sb:rb.Pairwise λx y=>K x<=K y
 oa:∀x∈out,∀y∈ra,K x<=K y
 ob:∀x∈out,∀y∈rb,K x<=K y
section
variable{prog:Program}{w:World}{A:Around}{E:Value->Shared->Prop}{s:Shared}{κ:SortKind}{K:Keyed->Int}{D:Keyed->Prop}{st:SortSt}
end
section
variable{prog:Program}{w:World}{A:Around}{E:Value->Shared->Prop}{s:Shared}{κ:SortKind}{K:Keyed->Int}{D:Keyed->Prop}{st:SortSt}
abbrev rv (a:Array Keyed) (i:Nat):List Keyed:=(a.toList.take i).reverse
end
def kA(K:Keyed->Int)(xs:Array Keyed)(i:Nat):Int:=match xs[i]? with
 |some p=>K p
 |none=>0
theorem oR{K:Keyed->Int}{xs ys:Array Keyed}{i j:Nat}(h:xs[i]?=ys[j]?):kA K xs i=kA K ys j:=by unfold kA;rw[h]
def So(K:Keyed->Int)(xs:Array Keyed)(lo n:Nat):Prop:=∀i j,i<=j->j<n->kA K xs (lo+i)<=kA K xs (lo+j)
def Si(K:Keyed->Int)(xs:Array Keyed)(lo n:Nat):Prop:=∀i j,i<=j->j<n->kA K xs (lo+j)<=kA K xs (lo+i)
theorem su{K:Keyed->Int}{xs:Array Keyed}{i j:Nat}(hj:j<=xs.size)(k:Nat):
  kA K (mirror xs i j ((j-i)/2)) k=if i<=k/\k<j then kA K xs (i+j-1-k)else kA K xs k:=by
 have e:=getElem?_mirror_all (i:=i) hj k
 by_cases h1:i<=k/\k<j
 ·rw[if_pos h1]at e ⊢;exact oR e
 ·rw[if_neg h1]at e ⊢;exact oR e
theorem zj{K:Keyed->Int}{xs:Array Keyed}{i j:Nat}(hj:j<=xs.size)(heq:∀k,i<=k->k<j->kA K xs k=kA K xs (j-1))(k:Nat):kA K (mirror xs i j ((j-i)/2)) k=kA K xs k:=by
 rw[su hj]
 split
 ·rw[heq _ (by omega) (by omega),heq k (by omega) (by omega)]
 ·rfl
theorem Gj{K:Keyed->Int}{xs:Array Keyed}{src d:Nat}(hs:src<xs.size)(hd:d<=src)(k:Nat):
  kA K (bubble xs src d) k=if k=src-d then kA K xs src else if src-d<k/\k<=src then kA K xs (k-1)else kA K xs k:=by
 have e:=getElem?_bubble hs d hd k
 by_cases h1:k=src-d
 ·rw[if_pos h1]at e ⊢;exact oR e
 ·rw[if_neg h1]at e ⊢
  by_cases h2:src-d<k/\k<=src
  ·rw[if_pos h2]at e ⊢;exact oR e
  ·rw[if_neg h2]at e ⊢;exact oR e
structure SC(lo:Nat)(s0 st:SortSt):Prop where
 perm:(arrOf st).Perm (arrOf s0)
 kind:kindOf st=kindOf s0
 failed:failedOf st=failedOf s0
 pend:pendingOf st=pendingOf s0
 low:∀i,i<lo->(arrOf st)[i]?=(arrOf s0)[i]?
theorem SC.refl(lo:Nat)(st:SortSt):SC lo st st:=⟨Array.Perm.refl _,rfl,rfl,rfl,λ_ _=>rfl⟩
theorem SC.trans{lo:Nat}{a b c:SortSt}(x:SC lo a b)(y:SC lo b c):SC lo a c:=⟨y.perm.trans x.perm,y.kind.trans x.kind,y.failed.trans x.failed,y.pend.trans x.pend,λi h=>(y.low i h).trans (x.low i h)⟩
theorem SC.size{lo:Nat}{a b:SortSt}(x:SC lo a b):(arrOf b).size=(arrOf a).size:=x.perm.size_eq
theorem SC.mirror{lo:Nat}{s0 st:SortSt}(x:SC lo s0 st){i j:Nat}(hi:lo<=i)(hj:j<=(arrOf st).size):SC lo s0 (setArr st (mirror (arrOf st) i j ((j-i)/2))):=
 x.trans ⟨mirror_perm _ _ _ _,rfl,rfl,rfl,λk hk=>by
  show(PyProof.Rows.mirror (arrOf st) i j ((j-i)/2))[k]?=_
  rw[getElem?_mirror_all hj,if_neg (by omega)]⟩
theorem SC.bubble{lo:Nat}{s0 st:SortSt}(x:SC lo s0 st){src d:Nat}(hs:src<(arrOf st).size)(hd:lo+d<=src):SC lo s0 (setArr st (bubble (arrOf st) src d)):=
 x.trans ⟨bubble_perm _ _ _,rfl,rfl,rfl,λk hk=>by
  show(PyProof.Rows.bubble (arrOf st) src d)[k]?=_
  rw[getElem?_bubble hs d (by omega),if_neg (by omega),if_neg (by omega)]⟩
structure SB(κ:SortKind)(D:Keyed->Prop)(st:SortSt):Prop where
 kind:kindOf st=κ
 failed:failedOf st=none
 all:∀x∈(arrOf st).toList,D x
theorem SB.sc{κ:SortKind}{D:Keyed->Prop}{lo:Nat}{s0 st:SortSt}(b:SB κ D s0)(x:SC lo s0 st):SB κ D st:=
 ⟨x.kind.trans b.kind,x.failed.trans b.failed,λy hy=>b.all y ((Array.perm_iff_toList_perm.mp x.perm).mem_iff.mp hy)⟩
section
variable{prog:Program}{w:World}{A:Around}{E:Value->Shared->Prop}{s:Shared}{κ:SortKind}{K:Keyed->Int}{D:Keyed->Prop}{st:SortSt}
theorem sy(hL:CJ prog w A E s κ K D){i j:Nat}{Q:Option Bool->SortSt->Prop}(hB:SB κ D st)(hi:i<(arrOf st).size)(hj:j<(arrOf st).size)
  (h:Q (some (decide (kA K (arrOf st) i<kA K (arrOf st) j))) st):wpS (model prog w) A E s (ltAt' i j) Q st:=by
 rw[ltAt'_eq]
 refine wpS_bind (wpS_get ?_)
 show wpS _ _ _ _ (do let x<-elem' (arrOf st) i;let y<-elem' (arrOf st) j;lt' x y) Q st
 have e1:(arrOf st)[i]?=some (arrOf st)[i]:=getElem?_pos _ i hi
 have e2:(arrOf st)[j]?=some (arrOf st)[j]:=getElem?_pos _ j hj
 refine wpS_bind (Ku e1 (wpS_bind (Ku e2 ?_)))
 refine hL st _ _ _ hB.kind (hB.all _ (by simp)) (hB.all _ (by simp)) ?_
 unfold kA at h
 rw[e1,e2]at h
 exact h
theorem w_rev{M:Model}{i j:Nat}{Q:Unit->SortSt->Prop}(h:Q ⟨⟩ (setArr st (mirror (arrOf st) i j ((j-i)/2)))):wpS M A E s (reverseSlice' i j) Q st:=by
 rw[reverseSlice'_eq]
 exact wpS_modify h
theorem w_count(hL:CJ prog w A E s κ K D){lo nrem:Nat}{Q:Option Nat->SortSt->Prop}(hB:SB κ D st)(h1:1<=nrem)(hz:lo+nrem<=(arrOf st).size)
  (hq:∀n st',SC lo st st'->1<=n->n<=nrem->So K (arrOf st') lo n->Q (some n) st'):wpS (model prog w) A E s (countRun' lo nrem) Q st:=by
 rw[countRun'_eq]
 refine wpS_bind (wpS_mono (wpS_forRange (I:=λx c st'=>st'=st/\c=(none,x)/\So K (arrOf st) lo x)
  (Q:=λc st'=>st'=st/\ ∃n,c=(none,n)/\1<=n/\n<=nrem/\So K (arrOf st) lo n/\(n=nrem∨kA K (arrOf st) (lo+n)<kA K (arrOf st) (lo+n-1))) ?_ ?_ ⟨rfl,rfl,λi j hij hj=> ?_⟩) ?_)
 ·rintro x c st' ha hx ⟨rfl,rfl,hs⟩
  dsimp only
  refine wpS_bind (sy hL hB (by omega) (by omega) ?_)
  dsimp only
  by_cases lt:kA K (arrOf st') (lo+x)<kA K (arrOf st') (lo+x-1)
  ·rw[decide_eq_true lt,if_pos rfl]
   exact wpS_pure ⟨rfl,x,rfl,ha,by omega,hs,.inr lt⟩
  ·rw[decide_eq_false lt,if_neg (by simp)]
   refine wpS_pure ⟨rfl,rfl,λi j hij hj=> ?_⟩
   by_cases c:j=x
   ·subst c
    by_cases c2:i=j
    ·subst c2;exact Int.le_refl _
    ·have:=hs i (j-1) (by omega) (by omega)
     rw[show lo+(j-1)=lo+j-1 by omega]at this
     omega
   ·exact hs i j hij (by omega)
 ·rintro c st' ⟨rfl,rfl,hs⟩
  rw[Nat.max_eq_right h1]at hs ⊢
  exact⟨rfl,nrem,rfl,h1,Nat.le_refl _,hs,.inl rfl⟩
 ·have:i=j:=by omega
  subst this
  exact Int.le_refl _
 rintro c st' ⟨rfl,n,rfl,n1,n2,hs,hend⟩
 dsimp only
 by_cases c1:(n==nrem)=true
 ·rw[if_pos c1]
  exact wpS_pure (hq n st' (.refl _ _) n1 n2 hs)
 rw[if_neg c1]
 have nn:n<nrem:=by
  have:n≠nrem:=λe=>c1 (by rw[e];simp)
  omega
 have hlt:kA K (arrOf st') (lo+n)<kA K (arrOf st') (lo+n-1):=hend.resolve_left (by omega)
 have part:∀s1:SortSt,SC lo st' s1->(∀k,kA K (arrOf s1) k=kA K (arrOf st') k) ->Si K (arrOf st') lo (n+1) -> ∀F:StateT SortSt Sem (Option Nat),F=(do
   rule "list.sort.descending-run"
   let mut n:=n
   n:=n+1
   let mut q:=0
   for _ in [n:nrem] do
    let some m<-ltAt' (lo+n) (lo+n-1)|return none
    if m then
     if q>0 then reverseSlice' (lo+n- (q+1)) (lo+n)
     q:=0
    else
     let some g<-ltAt' (lo+n-1) (lo+n)|return none
     if g then break
     q:=q+1
    n:=n+1
   if q>0 then reverseSlice' (lo+n- (q+1)) (lo+n)
   reverseSlice' lo (lo+n)
   for _ in [n:nrem] do
    let some m<-ltAt' (lo+n) (lo+n-1)|return none
    if m then break
    n:=n+1
   return some n) ->wpS (model prog w) A E s F Q s1:=by
  intro s1 S1 hk1 hd F hF
  subst hF
  refine wpS_bind (wpS_lift (wpAny_rule ⟨rfl,?_⟩))
  dsimp only
  have rest:∀(s2:SortSt) (m:Nat),SC lo st' s2->n+1<=m->m<=nrem->Si K (arrOf s2) lo m-> ∀F:StateT SortSt Sem (Option Nat),F=(do
    reverseSlice' lo (lo+m)
    let mut n:=m
    for _ in [n:nrem] do
     let some m<-ltAt' (lo+n) (lo+n-1)|return none
     if m then break
     n:=n+1
    return some n) ->wpS (model prog w) A E s F Q s2:=by
   intro s2 m S2 m1 m2 hd2 F hF
   subst hF
   have z2:=S2.size
   refine wpS_bind (w_rev ?_)
   have S3:=S2.mirror (i:=lo) (j:=lo+m) (Nat.le_refl _) (by omega)
   have WA:So K (arrOf (setArr s2 (mirror (arrOf s2) lo (lo+m) ((lo+m-lo)/2)))) lo m:=by
    intro i j hij hj
    show kA K (mirror (arrOf s2) lo (lo+m) ((lo+m-lo)/2)) (lo+i)<=kA K (mirror (arrOf s2) lo (lo+m) ((lo+m-lo)/2)) (lo+j)
    rw[su (by omega),su (by omega),if_pos (by omega),if_pos (by omega)]
    have:=hd2 (m-1-j) (m-1-i) (by omega) (by omega)
    rw[show lo+(m-1-i)=lo+(lo+m) -1- (lo+i)by omega,show lo+(m-1-j)=lo+(lo+m) -1- (lo+j)by omega]at this
    exact this
   generalize setArr s2 (mirror (arrOf s2) lo (lo+m) ((lo+m-lo)/2))=s3 at S3 WA ⊢
   have z3:=S3.size
   have Yv:=hB.sc S3
   refine wpS_bind (wpS_mono (wpS_forRange (I:=λx c st''=>st''=s3/\c=(none,x)/\So K (arrOf s3) lo x)
    (Q:=λc st''=>st''=s3/\ ∃n,c=(none,n)/\1<=n/\n<=nrem/\So K (arrOf s3) lo n) ?_ ?_ ⟨rfl,rfl,WA⟩) ?_)
   ·rintro x c st'' ha hx ⟨rfl,rfl,hs⟩
    dsimp only
    refine wpS_bind (sy hL Yv (by omega) (by omega) ?_)
    dsimp only
    by_cases lt:kA K (arrOf st'') (lo+x)<kA K (arrOf st'') (lo+x-1)
    ·rw[decide_eq_true lt,if_pos rfl]
     exact wpS_pure ⟨rfl,x,rfl,by omega,by omega,hs⟩
    ·rw[decide_eq_false lt,if_neg (by simp)]
     refine wpS_pure ⟨rfl,rfl,λi j hij hj=> ?_⟩
     by_cases c:j=x
     ·subst c
      by_cases c2:i=j
      ·subst c2;exact Int.le_refl _
      ·have:=hs i (j-1) (by omega) (by omega)
       rw[show lo+(j-1)=lo+j-1 by omega]at this
       omega
     ·exact hs i j hij (by omega)
   ·rintro c st'' ⟨rfl,rfl,hs⟩
    rw[Nat.max_eq_right m2]at hs ⊢
    exact⟨rfl,nrem,rfl,by omega,Nat.le_refl _,hs⟩
   ·rintro c st'' ⟨rfl,n',rfl,a1,a2,a3⟩
    exact wpS_pure (hq n' st'' S3 a1 a2 a3)
  refine wpS_bind (wpS_mono (wpS_forRange (I:=λx c s2=> ∃q,c=(none,x,q)/\SC lo st' s2/\Si K (arrOf s2) lo x/\q+1<=x/\ ∀i,x- (q+1)<=i->i<x->kA K (arrOf s2) (lo+i)=kA K (arrOf s2) (lo+x-1))
   (Q:=λc s2=> ∃x q,c=(none,x,q)/\n+1<=x/\x<=nrem/\SC lo st' s2/\Si K (arrOf s2) lo x/\q+1<=x/\ ∀i,x- (q+1)<=i->i<x->kA K (arrOf s2) (lo+i)=kA K (arrOf s2) (lo+x-1)) ?_ ?_ ⟨0,rfl,S1,λi j hij hj=> ?_,by omega,λi h1 h2=> ?_⟩) ?_)
  ·rintro x c s2 ha hx ⟨q,rfl,S2,hd2,hq1,heq⟩
   dsimp only
   have z2:=S2.size
   have hB2:=hB.sc S2
   refine wpS_bind (sy hL hB2 (by omega) (by omega) ?_)
   dsimp only
   by_cases lt:kA K (arrOf s2) (lo+x)<kA K (arrOf s2) (lo+x-1)
   ·rw[decide_eq_true lt,if_pos rfl]
    have WB:∀s3:SortSt,SC lo st' s3->(∀k,kA K (arrOf s3) k=kA K (arrOf s2) k) -> ∃q,((none,x+1,0):Option (Option Nat)×Nat×Nat)=(none,x+1,q)/\SC lo st' s3/\Si K (arrOf s3) lo (x+1)/\q+1<=x+1/\ ∀i,x+1- (q+1)<=i->i<x+1->kA K (arrOf s3) (lo+i)=kA K (arrOf s3) (lo+(x+1) -1):=by
     intro s3 S3 NT
     refine⟨0,rfl,S3,λi j hij hj=> ?_,by omega,λi h1 h2=> ?_⟩
     ·rw[NT,NT]
      by_cases c:j=x
      ·subst c
       by_cases c2:i=j
       ·subst c2;exact Int.le_refl _
       ·have:=hd2 i (j-1) (by omega) (by omega)
        rw[show lo+(j-1)=lo+j-1 by omega]at this
        omega
      ·exact hd2 i j hij (by omega)
     ·have:i=x:=by omega
      subst this
      rfl
    by_cases Gk:q>0
    ·rw[if_pos Gk]
     refine wpS_bind (w_rev (wpS_pure (WB _ (S2.mirror (by omega) (by omega)) λk=> ?_)))
     refine zj (by omega) (λk k1 k2=> ?_) k
     have:=heq (k-lo) (by omega) (by omega)
     rw[show lo+(k-lo)=k by omega]at this
     exact this
    ·rw[if_neg Gk]
     exact wpS_pure (WB s2 S2 λ_=>rfl)
   ·rw[decide_eq_false lt,if_neg (by simp)]
    refine wpS_bind (sy hL hB2 (by omega) (by omega) ?_)
    dsimp only
    by_cases SH:kA K (arrOf s2) (lo+x-1)<kA K (arrOf s2) (lo+x)
    ·rw[decide_eq_true SH,if_pos rfl]
     exact wpS_pure ⟨x,q,rfl,ha,by omega,S2,hd2,hq1,heq⟩
    ·rw[decide_eq_false SH,if_neg (by simp)]
     have e:kA K (arrOf s2) (lo+x)=kA K (arrOf s2) (lo+x-1):=by omega
     refine wpS_pure ⟨q+1,rfl,S2,λi j hij hj=> ?_,by omega,λi h1 h2=> ?_⟩
     ·by_cases c:j=x
      ·subst c
       by_cases c2:i=j
       ·subst c2;exact Int.le_refl _
       ·have:=hd2 i (j-1) (by omega) (by omega)
        rw[show lo+(j-1)=lo+j-1 by omega]at this
        omega
      ·exact hd2 i j hij (by omega)
     ·rw[show lo+(x+1) -1=lo+x by omega,e]
      by_cases c:i=x
      ·subst c;exact e
      ·exact heq i (by omega) (by omega)
  ·rintro c s2 ⟨q,rfl,S2,hd2,hq1,heq⟩
   rw[Nat.max_eq_right (show n+1<=nrem by omega)]at hd2 hq1 heq ⊢
   exact⟨nrem,q,rfl,by omega,Nat.le_refl _,S2,hd2,hq1,heq⟩
  ·rw[hk1,hk1]
   exact hd i j hij hj
  ·have:i=n:=by omega
   subst this
   rfl
  ·rintro c s2 ⟨x,q,rfl,x1,x2,S2,hd2,hq1,heq⟩
   dsimp only
   have z2:=S2.size
   by_cases Gk:q>0
   ·rw[if_pos Gk]
    refine wpS_bind (w_rev ?_)
    have hk:∀k,kA K (arrOf (setArr s2 (mirror (arrOf s2) (lo+x- (q+1)) (lo+x) ((lo+x- (lo+x- (q+1)))/2)))) k=kA K (arrOf s2) k:=λk=>by
     refine zj (by omega) (λk k1 k2=> ?_) k
     have:=heq (k-lo) (by omega) (by omega)
     rw[show lo+(k-lo)=k by omega]at this
     exact this
    exact rest _ x (S2.mirror (by omega) (by omega)) x1 x2 (λi j hij hj=>by rw[hk,hk];exact hd2 i j hij hj) _ rfl
   ·rw[if_neg Gk]
    exact rest s2 x S2 x1 x2 hd2 _ rfl
 by_cases gt:n>1
 ·rw[if_pos gt]
  refine wpS_bind (sy hL hB (by omega) (by omega) ?_)
  dsimp only
  by_cases RS:kA K (arrOf st') lo<kA K (arrOf st') (lo+n-1)
  ·rw[decide_eq_true RS,if_pos rfl]
   exact wpS_pure (hq n st' (.refl _ _) n1 n2 hs)
  ·rw[decide_eq_false RS,if_neg (by simp)]
   have hall:∀k,lo<=k->k<lo+n->kA K (arrOf st') k=kA K (arrOf st') (lo+n-1):=λk k1 k2=>by
    have a1:=hs 0 (k-lo) (by omega) (by omega)
    have a2:=hs (k-lo) (n-1) (by omega) (by omega)
    rw[show lo+(k-lo)=k by omega]at a1 a2
    rw[show lo+(n-1)=lo+n-1 by omega]at a2
    rw[Nat.add_zero]at a1
    omega
   refine wpS_bind (w_rev (part _ ((SC.refl lo st').mirror (Nat.le_refl _) (by omega)) (λk=>zj (by omega) hall k) (λi j hij hj=> ?_) _ rfl))
   by_cases c:j=n
   ·subst c
    by_cases c2:i=j
    ·subst c2;exact Int.le_refl _
    ·rw[hall (lo+i) (by omega) (by omega)]
     omega
   ·rw[hall (lo+i) (by omega) (by omega),hall (lo+j) (by omega) (by omega)]
    exact Int.le_refl _
 ·rw[if_neg gt]
  have e1:n=1:=by omega
  subst e1
  refine part st' (.refl _ _) (λ_=>rfl) (λi j hij hj=> ?_) _ rfl
  by_cases c2:i=j
  ·subst c2;exact Int.le_refl _
  ·have:i=0:=by omega
   have:j=1:=by omega
   subst_vars
   rw[show lo+1-1=lo+0 by omega]at hlt
   omega
end
section
variable{prog:Program}{w:World}{A:Around}{E:Value->Shared->Prop}{s:Shared}{κ:SortKind}{K:Keyed->Int}{D:Keyed->Prop}{st:SortSt}
theorem RT(hL:CJ prog w A E s κ K D){lo n ok:Nat}{Q:Bool->SortSt->Prop}(hB:SB κ D st)(hok:ok<=n)(hz:lo+n<=(arrOf st).size)(hs:So K (arrOf st) lo ok)
  (h:∀st',SC lo st st'->So K (arrOf st') lo n->Q true st'):wpS (model prog w) A E s (binarySort' lo n ok) Q st:=by
 rw[binarySort'_eq]
 refine wpS_bind (wpS_mono (wpS_forRange (I:=λk c st'=>c=(none,())/\SC lo st st'/\So K (arrOf st') lo (min k n))
  (Q:=λc st'=>c=(none,())/\SC lo st st'/\So K (arrOf st') lo n) ?_ ?_ ⟨rfl,.refl _ _,λi j hij hj=> ?_⟩) ?_)
 ·rintro k c st' ZS hkn ⟨rfl,S,hs'⟩
  rw[show min k n=k by omega]at hs'
  have z:=S.size
  have hk:lo+k<(arrOf st').size:=by omega
  have Yw:=hB.sc S
  refine wpS_bind (wpS_mono (wpS_forRange (I:=λx c s2=>s2=st'/\ ∃l r,c=(none,l,r)/\l<=r/\r<=k/\r-l<=k-x/\
    (∀i,i<l->kA K (arrOf st') (lo+i)<=kA K (arrOf st') (lo+k))/\(∀i,r<=i->i<k->kA K (arrOf st') (lo+k)<kA K (arrOf st') (lo+i)))
   (Q:=λc s2=>s2=st'/\ ∃l r,c=(none,l,r)/\l<=k/\
    (∀i,i<l->kA K (arrOf st') (lo+i)<=kA K (arrOf st') (lo+k))/\(∀i,l<=i->i<k->kA K (arrOf st') (lo+k)<kA K (arrOf st') (lo+i))) ?_ ?_ ⟨rfl,0,k,rfl,by omega,by omega,by omega,λi hi=>by omega,λi h1 h2=>by omega⟩) ?_)
  ·rintro x c s2 _ hxk ⟨rfl,l,r,rfl,hlr,hrk,hm,hlo,hhi⟩
   dsimp only
   by_cases hge:l≥r
   ·rw[if_pos hge]
    have:l=r:=by omega
    subst this
    exact wpS_pure ⟨rfl,l,l,rfl,hrk,hlo,hhi⟩
   ·rw[if_neg hge]
    refine wpS_bind (sy hL Yw hk (by omega) ?_)
    by_cases less:kA K (arrOf s2) (lo+k)<kA K (arrOf s2) (lo+(l+r)/2)
    ·simp only[less,decide_true,if_true]
     refine wpS_pure ⟨rfl,l,(l+r)/2,rfl,by omega,by omega,by omega,hlo,λi h1 h2=> ?_⟩
     exact Int.lt_of_lt_of_le less (hs' _ _ h1 h2)
    ·simp only[less,decide_false,Bool.false_eq_true,if_false]
     refine wpS_pure ⟨rfl,(l+r)/2+1,r,rfl,by omega,by omega,by omega,λi h1=> ?_,hhi⟩
     exact Int.le_trans (hs' i ((l+r)/2) (by omega) (by omega)) (Int.not_lt.mp less)
  ·rintro c s2 ⟨rfl,l,r,rfl,hlr,hrk,hm,hlo,hhi⟩
   have:l=r:=by omega
   subst this
   exact⟨rfl,l,l,rfl,hrk,hlo,hhi⟩
  ·rintro c s2 ⟨rfl,l,r,rfl,hlk,hlo,hhi⟩
   dsimp only
   rw[moveDown'_eq,show lo+k- (lo+l)=k-l by omega]
   refine wpS_bind (wpS_modify (wpS_pure ⟨rfl,S.bubble hk (by omega),?_⟩))
   rw[show min (k+1) n=k+1 by omega]
   intro i j hij hj
   show kA K (bubble (arrOf s2) (lo+k) (k-l)) (lo+i)<=kA K (bubble (arrOf s2) (lo+k) (k-l)) (lo+j)
   have e:∀t,t<k+1->kA K (bubble (arrOf s2) (lo+k) (k-l)) (lo+t)=if t=l then kA K (arrOf s2) (lo+k)else if l<t then kA K (arrOf s2) (lo+(t-1))else kA K (arrOf s2) (lo+t):=by
    intro t ht
    rw[Gj hk (by omega)]
    by_cases c1:t=l
    ·rw[if_pos (by omega),if_pos c1]
    ·rw[if_neg (by omega),if_neg c1]
     by_cases c2:l<t
     ·rw[if_pos (by omega),if_pos c2,show lo+t-1=lo+(t-1)by omega]
     ·rw[if_neg (by omega),if_neg c2]
   rw[e i (by omega),e j hj]
   repeat' split
   all_goals first
    |(exfalso;omega)
    |exact Int.le_refl _
    |exact hlo _ (by omega)
    |exact Int.le_of_lt (hhi _ (by omega) (by omega))
    |exact hs' _ _ (by omega) (by omega)
 ·rintro c st' ⟨hc,S,hs'⟩
  refine⟨hc,S,?_⟩
  rwa [show min (max (max ok 1) n) n=n by omega]at hs'
 ·by_cases h1:ok=0
  ·have:i=j:=by omega
   subst this;exact Int.le_refl _
  ·exact hs i j hij (by omega)
 ·rintro c st' ⟨rfl,S,hs'⟩
  exact wpS_pure (h st' S hs')
abbrev sl (a:Array Keyed) (lo n:Nat):List Keyed:=(a.toList.drop lo).take n
theorem PU{a:Array Keyed}{lo n:Nat}(h:lo+n<=a.size):So K a lo n↔(sl a lo n).Pairwise λx y=>K x<=K y:=by
 have len:(sl a lo n).length=n:=by simp[sl];omega
 have at':∀i (hi:i<n),∃x,(sl a lo n)[i]'(by omega)=x/\kA K a (lo+i)=K x:=λi hi=>by
  refine⟨_,rfl,?_⟩
  have e:a[lo+i]?=some ((sl a lo n)[i]'(by omega)):=by
   rw[<-List.getElem?_eq_getElem]
   simp[sl,List.getElem?_take_of_lt hi]
  unfold kA
  rw[e]
 constructor
 ·intro hs
  rw[List.pairwise_iff_getElem]
  intro i j hi hj hij
  obtain⟨x,ex,kx⟩:=at' i (by omega)
  obtain⟨y,ey,ky⟩:=at' j (by omega)
  have:=hs i j (by omega) (by omega)
  rw[ex,ey,<-kx,<-ky]
  exact this
 ·intro hs i j hij hj
  by_cases c:i=j
  ·subst c;exact Int.le_refl _
  obtain⟨x,ex,kx⟩:=at' i (by omega)
  obtain⟨y,ey,ky⟩:=at' j hj
  have:=List.pairwise_iff_getElem.mp hs i j (by omega) (by omega) (by omega)
  rw[ex,ey,<-kx,<-ky]at this
  exact this
theorem zk{M:Model}{α:Type}{c:Prop} [Decidable c]{x y:StateT SortSt Sem α}{Q:α->SortSt->Prop}(h1:c->wpS M A E s x Q st)(h2:¬c->wpS M A E s y Q st):wpS M A E s (if c then x else y) Q st:=by
 split
 ·exact h1 ‹_›
 ·exact h2 ‹_›
structure Mg(K:Keyed->Int)(sa n:Nat)(p:Array (Nat×Nat×Nat))(s0 st:SortSt):Prop where
 perm:(arrOf st).Perm (arrOf s0)
 kind:kindOf st=kindOf s0
 failed:failedOf st=failedOf s0
 pend:pendingOf st=p
 out:∀t,t<sa∨sa+n<=t->(arrOf st)[t]?=(arrOf s0)[t]?
 so:So K (arrOf st) sa n
end
def Hl(K:Keyed->Int)(ar:Array Keyed):Nat->List (Nat×Nat×Nat) ->Nat->Prop
 |a,[],e=>a=e
 |a,(u,n,_)::r,e=>u=a/\0<n/\So K ar a n/\Hl K ar (a+n) r e
theorem Hl.append{K:Keyed->Int}{ar:Array Keyed}{r:List (Nat×Nat×Nat)}{e:Nat}:∀{l:List (Nat×Nat×Nat)} {a:Nat},Hl K ar a (l++r) e↔ ∃m,Hl K ar a l m/\Hl K ar m r e
 | [],a=>⟨λh=>⟨a,rfl,h⟩,λ ⟨m,h,q⟩=>by cases h;exact q⟩
 |(u,n,z)::l,a=>by
  constructor
  ·rintro⟨h1,h2,h3,h4⟩
   obtain⟨m,p,q⟩:=Hl.append.mp h4
   exact⟨m,⟨h1,h2,h3,p⟩,q⟩
  ·rintro⟨m,⟨h1,h2,h3,p⟩,q⟩
   exact⟨h1,h2,h3,Hl.append.mpr ⟨m,p,q⟩⟩
theorem Hl.push{K:Keyed->Int}{ar:Array Keyed}{l:List (Nat×Nat×Nat)}{a e n z:Nat}(h:Hl K ar a l e)(hn:0<n)(hs:So K ar e n):Hl K ar a (l++ [(e,n,z)]) (e+n):=Hl.append.mpr ⟨e,h,rfl,hn,hs,rfl⟩
theorem PV:sortRuns'=(do
 let zz:=(arrOf (<-get)).size
 let mr:=minRun' zz zz 0
 let mut lo:=0
 for _ in [0:zz] do
  if lo≥zz then break
  let some f<-countRun' lo (zz-lo)|return
  let mut n:=f
  if n<mr then
   rule "list.sort.binary-insertion"
   let fo:=min (zz-lo) mr
   if !(<-binarySort' lo fo n)then return
   n:=fo
  if let some (a1,b1,_):=(pendingOf (<-get)).back? then
   let pw:=power' zz (2*a1+b1) (2*a1+b1+b1+n) zz
   for _ in [0:zz] do
    let p:=pendingOf (<-get)
    let some (_,_,od):=(if p.size>1 then p[p.size-2]? else none)|break
    if od<=pw then break
    if !(<-mergeAt' (p.size-2))then return
   modify λy=>setPending y ((pendingOf y).modify ((pendingOf y).size-1) λ (c,d,_)=>(c,d,pw))
  modify λy=>setPending y ((pendingOf y).push (lo,n,0))
  lo:=lo+n
 for _ in [0:zz] do
  let p:=pendingOf (<-get)
  if p.size<=1 then break
  let i:=p.size-2
  let be:=if i>0 then p[i-1]?.map (·.2.1)else none
  let i:=if be.any (· <(p[i+1]?.elim 0 (·.2.1)))then i-1 else i
  if !(<-mergeAt' i)then return):=rfl
section
variable{prog:Program}{w:World}{A:Around}{E:Value->Shared->Prop}{s:Shared}{κ:SortKind}{K:Keyed->Int}{D:Keyed->Prop}{st:SortSt}{a₀:Array Keyed}
structure RI(κ:SortKind)(K:Keyed->Int)(D:Keyed->Prop)(a₀:Array Keyed)(lo:Nat)(st:SortSt):Prop where
 sb:SB κ D st
 perm:(arrOf st).Perm a₀
 ZT:Hl K (arrOf st) 0 (pendingOf st).toList lo
 le:lo<=a₀.size
theorem RI.size{lo:Nat}(R:RI κ K D a₀ lo st):(arrOf st).size=a₀.size:=R.perm.size_eq
end
end zh
namespace L2
open PySem PySem.Spec PyProof.Rows PySem.SeqAt
open AutoSeq1 (wpAny_loadPart')
open MeetsSeq MeetsSeq2 MeetsSeq3 SeqRoads2
mutual
inductive PX:PyData->PyData->Prop
 |int (a b:Int):PX (.int a) (.int b)
 |lst {xs ys:List PyData}:x6 xs ys->PX (.list xs) (.list ys)
inductive x6:List PyData->List PyData->Prop
 |nil:x6 [] []
 |cons {x y:PyData} {xs ys:List PyData}:PX x y->x6 xs ys->x6 (x::xs) (y::ys)
end
section
variable{A:Around}{s:Shared}
end
theorem x6.length:∀{xs ys:List PyData},x6 xs ys->xs.length=ys.length
 |_,_,.nil=>rfl
 |_,_,.cons _ cs=>congrArg (· +1) cs.length
section
variable{prog:Program}{w:World}{A:Around}{E:Value->Shared->Prop}{s:Shared}
end
end L2
namespace L2
open PySem PySem.Spec PyProof.Rows PySem.SeqAt zh
section
variable{prog:Program}{w:World}{A:Around}{E:Value->Shared->Prop}{s:Shared}
structure SX(prog:Program)(w:World)(A:Around)(E:Value->Shared->Prop)(a:Addr)(vs:List Value)(κ:SortKind)(K:Keyed->Int)(s:Shared):Prop where
 kind:2<=vs.length-> ∀s':Shared,(∀b o,b≠a->s.heap.get? b=some o->s'.heap.get? b=some o) -> ∀Q:SortKind->Shared->Prop,Q κ s'->wpAny (model prog w) A (keyKind' vs.toArray) Q E s'
 lt:∀s':Shared,(∀b o,b≠a->s.heap.get? b=some o->s'.heap.get? b=some o) ->CJ prog w A E s' κ K (λp=>p.1=p.2/\p.1∈vs)
end
section
variable{prog:Program}{w:World}{A:Around}{E:Value->Shared->Prop}{s:Shared}
theorem Ng{κ:SortKind}{K:Keyed->Int}{D:Keyed->Prop}(h:∀x y:Keyed,D x->D y-> ∀(E:Value->Shared->Prop) (Q:Bool->Shared->Prop),Q (decide (K x<K y)) s->wpAny (model prog w) A (keyLt' κ x.1 y.1) Q E s):CJ prog w A E s κ K D:=by
 intro st x y Q hk hx hy hq
 rw[lt'_eq]
 refine wpS_bind (wpS_get ?_)
 rw[hk]
 refine wpS_bind (wpS_lift (wpAny_attempt (h x y hx hy _ _ ⟨rfl,?_⟩)))
 exact wpS_pure hq
end
section
variable{X:Cx}
end
end L2
namespace L2
open PySem PySem.Spec PyProof.Rows PySem.W PySem.Calls
abbrev kn (o:Obj):HO:= .yk o (.ext λ_=>True)
theorem Kv{P:Program}{w:World}{H:Hp}{h:Heap}{a:Addr}{o:Obj}(e:h.get? a=some o):fO P w H h a (kn o):=⟨e,trivial,⟨o,e⟩,λ_ _ _ _=>trivial⟩
theorem vE{pos pos2:Pos}{c:Value}:∀{l:List Value},TriplesOk l-> ∀{cv:Value},codeAmong pos (l++ [rawInt pos2.line,rawInt pos2.col,c])=some cv->codeAmong pos l=some cv∨cv=c
 | [],_,cv,h=>by
  simp only[List.nil_append,rawInt,codeAmong]at h
  split at h
  ·exact .inr (Option.some.inj h).symm
  ·cases h
 | .int x t:: .int y u::d::r,ht,cv,h=>by
  simp only[List.cons_append,codeAmong]at h ⊢
  split at h
  ·rename_i q
   rw[if_pos q]
   exact .inl h
  ·rename_i q
   rw[if_neg q]
   exact vE (l:=r) ht h
theorem q8{pos:Pos}{c:Value}:∀{l:List Value},TriplesOk l->TriplesOk (l++ [rawInt pos.line,rawInt pos.col,c])
 | [],_=>trivial
 | .int _ _:: .int _ _::_::r,h=>q8 (l:=r) h
structure AV(X:Cx)(args:Arguments)(body:Expr)(sc:Scope)(H:Hp)(f:Addr):Prop where
 ex:∃(qual:Str) (pm ctv:Value) (c:Addr) (oc:Obj) (vs:Array Value) (q:Str) (t:Tok),
  H f=some (kn {cls:= .type "function",data:= .func (kla_fn "<lambda>" qual args body sc (bR X.env sc.names []) pm (.ref c) ctv)})/\H c=some (kn oc)/\oc.data= .fields vs/\vs[1]?=some (.str q t)
theorem AV.same{X:Cx}{args:Arguments}{body:Expr}{sc:Scope}{H H':Hp}{f:Addr}(L:AV X args body sc H f)(s:az H H'):AV X args body sc H' f:=by
 obtain⟨qual,pm,ctv,c,oc,vs,q,t,e1,e2,e3,e4⟩:=L.ex
 exact⟨qual,pm,ctv,c,oc,vs,q,t,s _ _ e1,s _ _ e2,e3,e4⟩
section
variable{X:Cx}{pins:List (Addr×Obj)}{σ:St}{H:Hp}{s:Shared}{P:Addr}{args:Arguments}{body:Expr}{sc:Scope}{pos:Pos}{own N2:List Str}
theorem Gm(I:Inv X pins σ H s)(hcd:fY X.K X.env.code P)(hP:(H P).isSome=true):∃c,X.env.code= .ref c/\CodeHd s.heap c P:=by
 obtain⟨c,o,vs,file,tf,flags,tg,HX,text,tt,ec,hc,hcl,hd,h11,Rh,h7,h9,Ri⟩:=hcd.ex
 have hcs:s.heap.get? c=some o:=I.yo c o hc
 have hcn:H c=none:=(I.bs c o (I.ok.mod.Ql c o hc)).2
 have ne:c≠P:=λe=>by rw[<-e,hcn]at hP;cases hP
 have OX:vs.getD 11 .none= .ref P:=by
  have:vs.getD 11 .none=(vs[11]?).getD .none:=by simp
  rw[this,h11];rfl
 exact⟨c,ec,o,vs,file,tf,flags,tg,HX,text,tt,hcs,hcl,hd,h11,OX,Rh,h7,h9,Ri,ne⟩
theorem Gn{Q:Value->Shared->Prop}{E:Value->Shared->Prop}{M:Model}{A:Around}(I:Inv X pins σ H s)(hcd:fY X.K X.env.code P)(hP:H P=some .BE)(bm:BM X.mg X.base)
  (Bk:qu sc.names X.env.scope.names own N2 X.N)(hdef:defaultsOf args X.env=([],[]))
  (h:∀f H' s',Inv X pins σ H' s'->az H H'->H f=none->AV X args body sc H' f->Q (.ref f) s'):wpAny M A (eval (.Lambda args body sc pos) X.env) Q E s:=by
 obtain⟨c,ec,C⟩:=Gm I hcd (by rw[hP];rfl)
 obtain⟨ps,eP,tr,cs⟩:=I.hok P _ hP
 obtain⟨Sy,ob,b1,b2,b3,b4,b5,b6⟩:=bm
 have hg:s.heap.Ns mainGlobals X.mg:=by have:=I.mod.glob.keeps I.bk;exact this
 have hgP:mainGlobals≠P:=λq=>by
  obtain⟨o,es,ep,e,hd,_⟩:=hg
  rw[q,eP]at e;cases e;cases hd
 have Yx:Sy≠mainGlobals:=λq=>by
  obtain⟨o,es,ep,e,hd,_⟩:=I.mod.glob
  rw[q,e]at b3;cases b3;rw[hd]at b6;cases b6
 have Yy:Sy≠P:=λq=>by
  have:=(I.bs _ _ b3).2
  rw[q,hP]at this;cases this
 have ba:s.heap.BuiltinsAt X.mg P:=⟨Sy,ob,b1,b2,Yx,Yy,I.bk _ _ b3,b4,b5,b6⟩
 refine kla_eval hdef ?_
 cases q:codeAmong pos ps.toList with
 |some cv=>
  obtain⟨c',oc,vs,q',t',rfl,e2,e3,e4⟩:=cs pos cv q
  refine kla_makeFunctionHit (mg:=X.mg) (qC I Bk) I.ok.glob hg ec C eP tr q ba λctv h' tk hk hsz=> ?_
  have I1:Inv X pins σ H {s with heap:=h',toks:=tk}:=I.kept hk
  have I2:=I1.laid (a:=h'.objs.size) (o:=kn {cls:= .type "function",data:= .func (kla_fn "<lambda>" (X.env.qual++ "<lambda>") args body sc (bR X.env sc.names []) ((X.mg "__name__").getD .none) (.ref c') ctv)}) (h':=h'.push _) (t':=tk) (λb o e=>Heap.get?_push_of_some _ e) (Nat.le_refl _) (Kv (Heap.get?_push_size _ rfl))
  have fr:H h'.objs.size=none:=I1.hok.fresh (Nat.le_refl _)
  exact h _ _ _ I2 (az.up fr) fr ⟨_,_,_,c',oc,vs,q',t',au,(az.up fr) _ _ e2,e3,e4⟩
 |none=>
  refine kla_makeFunction (mg:=X.mg) (qC I Bk) I.ok.glob hg ec C eP tr q hgP ba λc' ctv h' tk hx hge hlt hrec htb=> ?_
  obtain⟨c2,oc,vs,t,e2,hoc,hd,hv⟩:=hrec
  cases e2
  have Pf:H c'=none:=I.hok.fresh hge
  have nP:P≠c':=λz=>by rw[z,Pf]at hP;cases hP
  have I1:Inv X pins σ (upd H c' (kn oc)) {s with heap:=h',toks:=tk}:=by
   have ne:∀{b u},H b=some u->b≠c':=λ {b u} e z=>by rw[z,Pf]at e;cases e
   have WC:∀{b},H b=none->b≠P:=λ {b} e z=>by rw[z,hP]at e;cases e
   refine I.un (t':=tk) ⟨λb o e n _ _=>hx b o (WC n) e,λb o e n _ _=>⟨o.slots,hx b o (WC n) e⟩,λb o e n _=>by rw[aE (Nat.ne_of_lt (Nat.lt_of_lt_of_le (Heap.lt_size e) hge))];exact n,λb o e _=> ?_,
    λb xs e=>by rw[aE (ne e)];exact e,λb o u e=>by rw[aE (ne e)];exact e,λb ps e=>⟨#[],by rw[aE (ne e),e];simp⟩⟩ (λb u e=> ?_)
   ·by_cases hb:b=P
    ·subst hb;exact⟨_,htb⟩
    ·exact⟨o,hx b o hb e⟩
   ·by_cases hb:b=c'
    ·subst hb
     rw[au]at e
     cases e
     exact Kv hoc
    ·rw[aE hb]at e
     by_cases hb2:b=P
     ·subst hb2
      rw[hP]at e
      cases e
      refine⟨_,htb,by simpa using q8 tr,λpos2 cv e2=> ?_⟩
      have e3:codeAmong pos2 (ps.toList++ [rawInt pos.line,rawInt pos.col,.ref c'])=some cv:=by simpa using e2
      rcases vE tr e3 with z|z
      ·obtain⟨c3,Yz,YA,q3,t3,f1,f2,f3,f4⟩:=cs pos2 cv z
       exact⟨c3,Yz,YA,q3,t3,f1,by rw[aE (ne f2)];exact f2,f3,f4⟩
      ·exact⟨c',oc,vs,_,t,z,au,hd,hv⟩
     ·refine(I.hok b u e).stay (λd v hc2 q2=>hx d v (λz=> ?_) q2) (λd q2=>by rw[aE (ne q2)];exact q2) (λd xs q2=>by rw[aE (ne q2)];exact q2) (λd ob xs q2=>by rw[aE (ne q2)];exact q2)
      subst z
      rcases hc2 with z|z
      ·exact hb2 z.symm
      ·rw[hP]at z;cases z
  have I2:=I1.laid (a:=h'.objs.size) (o:=kn (kla_obj "<lambda>" (X.env.qual++ "<lambda>") args body sc (bR X.env sc.names []) ((X.mg "__name__").getD .none) c' ctv)) (h':=h'.push _) (t':=tk) (λb o e=>Heap.get?_push_of_some _ e) (Nat.le_refl _) (Kv (Heap.get?_push_size _ rfl))
  have Pc:upd H c' (kn oc) h'.objs.size=none:=I1.hok.fresh (Nat.le_refl _)
  have Lq:H h'.objs.size=none:=by
   have:=Pc
   rwa [aE (Nat.ne_of_gt hlt)]at this
  exact h _ _ _ I2 ((az.up Pf).trans (az.up Pc)) Lq ⟨_,_,_,c',oc,vs,_,t,au,(az.up Pc) _ _ au,hd,hv⟩
end
section
variable{prog:Program}{w:World}{A:Around}{R:Result->Shared->Prop}{s:Shared}
theorem CL{a:Addr}{ar:Args}{o:Obj}{fd:FuncData}{bd:Expr}{q:Str}(room:A.depth<recursionLimit)(ho:s.heap.get? a=some o)(hfd:o.data= .func fd)
  (co:fd.scope.isCoroutine=false)(gen:fd.scope.isGenerator=false)(hbd:fd.body= .expr bd)(cd:s.heap.CodeRec fd.code q)
  (h:wpAny (model prog w) A.in1 (bindArgs fd ar) (λbs s1=>
   wpAny (model prog w) A.in1 (newFunctionEnv fd.scope fd.globals fd.closure bs (q++ ".<locals>.") (some a) fd.code none fd.builtins)
    (λev s2=>s2.heap.NoLimit/\codeAny (model prog w) A (.expr bd ev) R s2) (λe s'=>R (.error e) s') s1) (λe s'=>R (.error e) s') s):
  codeAny (model prog w) A (.call (.ref a) ar) R s:=by
 refine codeAny_of_tree ?_
 show wpAny _ A.in1 (callAny (.ref a) ar) _ _ s
 simp only[callAny]
 refine wpAny_bind (wpAny_load ho ?_)
 obtain⟨c,oc,vs,tq,hc,hoc,hdc,hq⟩:=cd
 simp only[hfd,callFunction,co,gen,hbd,hc]
 rw[hc]at h
 refine wpAny_bind (m:=field (.ref c) 1) (wpAny_field hoc hdc hq (wpAny_bind (wpAny_pure ?_)))
 refine wpAny_bind (wpAny_mono h (λbs s1 h1=>wpAny_bind (wpAny_mono h1 (λev s2 h2=> ?_) λ_ _ e=>e)) λ_ _ e=>e)
 exact wpAny_bind (wpAny_enterFrame h2.1 room (wpAny_pure (And.intro rfl h2.2)))
end
def Cx.lam(X:Cx)(B:Around)(sc:Scope)(N':List Str)(q:Str)(f:Addr)(cd:Value)(s:Shared)(H:Hp):Cx:=
 {X with
  N:=N'
  s₀:=s
  H₀:=H
  A:=B.deeper (envX q sc s.heap.objs.size f cd (bR X.env sc.names []))
  env:=envX q sc s.heap.objs.size f cd (bR X.env sc.names [])
  outer:=X.stack
  stack:=envX q sc s.heap.objs.size f cd (bR X.env sc.names [])::X.stack
  ex:=[]
  fn:=λ_=>false
  calm:=true
  pn:=[]
  xe:=λ_ _=>False}
section
variable{X:Cx}{pins:List (Addr×Obj)}{σ:St}{H:Hp}{s:Shared}{sc:Scope}{x:Str}{N2:List Str}{B:Around}{q:Str}{f:Addr}{cd:Value}
theorem Nh{h':Heap}{tk:Nat}{v:V}{u:Value}(I:Inv X pins σ H s)(Bk:qu sc.names X.env.scope.names [x] N2 X.N)(hk:sc.kind= .function)(hnc:∀y∈sc.names,y.2≠ .cell)(hx:sc.names.lookup x=some .local)
  (hB:B.frames=some X.stack)(hh:B.handled=none)(hn:h'.Ns s.heap.objs.size (λy=>([(x,u)]:List (Str×Value)).reverse.lookup y))(keep:∀b o,s.heap.get? b=some o->h'.get? b=some o)(rv:RelV v u):
  Inv (X.lam B sc ([x]++N2) q f cd s H) [] (some v::σ) H {s with heap:=h',toks:=tk}:=by
 have jI:∀y c,(bR X.env sc.names []).lookup y=some c->(y,NameKind.free)∈sc.names/\X.env.cells.lookup y=some c:=λy c h=>by
  have h2:(cellsFrom 0 sc.names (bR X.env sc.names [])).lookup y=some c:=by rw[eH hnc];exact h
  rcases jb I Bk (mem_of_lookup h2)with⟨_,z⟩|z
  ·exact absurd rfl (hnc _ z)
  ·exact z
 have GZ:∀b:Addr,b∉(X.lam B sc ([x]++N2) q f cd s H).ex:=λb z=>absurd (show b∈([]:List Addr)from z) (by simp)
 have ok:(X.lam B sc ([x]++N2) q f cd s H).Ok:=by
  refine⟨I.ok.mod,hk,rfl,rfl,Nat.le_refl _,λy z c h1 h2=>I.ok.inj y z c (jI y c h1).2 (jI z c h2).2,λy hy=> ?_,λy c hy _=>absurd hy (by show ¬(false=true);decide),λ_=>hh,Around.frames_deeper hB,.inr ⟨rfl,rfl⟩,λb hb=>absurd hb (GZ b),I.bs,Nat.le_trans I.ok.LD I.sz,λb _ _=>GZ b,λb hb=>absurd hb (GZ b),I.stack,I.uf⟩
  have hy':sc.names.lookup y=some .cell∨sc.names.lookup y=some .free:=hy
  rcases hy' with e|e
  ·exact absurd rfl (hnc _ (mem_of_lookup e))
  ·obtain⟨c,hc⟩:=jY I Bk y (mem_of_lookup e)
   have:=mK (n:=0) I Bk (mem_of_lookup e) hc
   rw[eH hnc]at this
   exact⟨c,this⟩
 refine⟨ok,rfl,.refl I.bare.bare,Un.kept keep,⟨_,hn,λi y w e1 e2 e3=> ?_⟩,λy c hc=> ?_,I.fresh,λy c hc=>I.nN y c (jI y c hc).2,λp hp=>absurd (show p∈([]:List (Addr×Obj))from hp) (by simp),I.hok.kept keep,?_⟩
 ·cases i with
  |zero=>
   have ey:x=y:=Option.some.inj e1
   have ew:v=w:=by
    have:some (some v)=some (some w):=e2
    cases this;rfl
   subst ey ew
   refine⟨u,rv,.inl ⟨hx,?_⟩⟩
   simp[List.lookup]
  |succ i=>
   have ET:N2[i]?=some y:=e1
   have Pa:σ[i]?=some (some w):=e2
   have hown:y∉([x]:List Str):=λhm=>by
    have nd:=Bk.LP
    rw[List.nodup_append]at nd
    exact nd.2.2 y hm y (List.mem_of_getElem? ET) rfl
   refine yx I Bk (n:=0) ET Pa (eH hnc).symm (λz hz=> .inr (cy Bk.nd hz)) (λhv=>let⟨k,e,_⟩:=pA hv;⟨k,e⟩) hown keep e3 (λk e=> ?_)
   obtain⟨k',e',hk'⟩:=pA e3
   have e4:sc.names.lookup y=some k':=e'
   rw[e]at e4;cases e4
   exact hk'
 ·obtain⟨w,z⟩:=I.cell y c (jI y c hc).2
  exact⟨w,z.keeps keep⟩
 ·show(some v::σ).length=([x]++N2).length
  rw[List.length_cons,I.len,<-Bk.len]
  rfl
theorem Ni{args:Arguments}{body:Expr}{tb:TE}{v:V}{u:Value}{Q:VK}{E:Value->Shared->Prop}(I:Inv X pins σ H s)(L:AV X args body sc H f)(Bk:qu sc.names X.env.scope.names [x] N2 X.N)
  (hk:sc.kind= .function)(hco:sc.isCoroutine=false)(hgen:sc.isGenerator=false)(hnc:∀y∈sc.names,y.2≠ .cell)(hx:sc.names.lookup x=some .local)
  (hbind:∀qual cl pm c ctv u,bindArgs (kla_fn "<lambda>" qual args body sc cl pm c ctv) ⟨[u],[]⟩=pure [(x,u)])(hB:B.frames=some X.stack)(hh:B.handled=none)(hroom:B.depth<recursionLimit)
  (hbody:∀q cd,PE (X.lam B sc ([x]++N2) q f cd s H) body tb)(rv:RelV v u)(h:tb (some v::σ) H Q):wpAny (model X.prog X.w) B (call (.ref f) [u]) (EP X pins σ Q) E s:=by
 obtain⟨qual,pm,ctv,c,oc,vs,q,t,e1,e2,e3,e4⟩:=L.ex
 obtain⟨g1,_⟩:s.heap.get? f=some _/\_:=I.hok f _ e1
 obtain⟨g2,_⟩:s.heap.get? c=some oc/\_:=I.hok c _ e2
 refine wpAny_call (CL (q:=q) hroom g1 rfl hco hgen rfl ⟨c,oc,vs,t,rfl,g2,e3,e4⟩ ?_)
 rw[hbind]
 refine wpAny_pure (wpAny_newFunctionEnv hnc (λy hy=> ?_) (λh1 hns WD=>⟨(I.Ag).fresh _ WD,?_⟩) hk)
 ·rw[List.mem_singleton.mp hy]
  exact hx
 have keep:∀b o,s.heap.get? b=some o->h1.get? b=some o:=λb o e=>WD.extBut b o (Nat.ne_of_lt (Heap.lt_size e)) (Heap.get?_push_of_some _ e)
 have J:=Nh (q:=q) (f:=f) (cd:= .ref c) (tk:=s.toks+1) I Bk hk hnc hx hB hh hns keep rv
 refine kla_codeExpr (wpAny_mono (hbody q (.ref c) [] _ _ H Q J h) (λu' s' hs=> ?_) λ_ _ z=>False.elim z)
 obtain⟨v',H',J',r',q'⟩:=hs
 have I':Inv X pins σ H' s':=I.Ht (ch:=[]) J'.os J'.base J'.hok J'.bare λb z=>nomatch z
 exact⟨v',H',I',r',q'⟩
end
end L2
namespace L2
open PySem PySem.Spec PyProof.Rows PySem.Calls zh
theorem x8{α β:Type}{f:α->β}:∀{m n:List β},m.Perm n-> ∀l:List α,n=l.map f-> ∃l':List α,l'.Perm l/\m=l'.map f:=by
 intro m n p
 induction p with
 |nil=>
  intro l e
  exact⟨l,.refl _,e⟩
 |cons x _ ih=>
  intro l e
  cases l with
  |nil=>cases e
  |cons a l=>
   injection e with e1 e2
   obtain⟨l',p',e'⟩:=ih l e2
   exact⟨a::l',p'.cons a,by rw[List.map_cons,e1,e']⟩
 |swap x y r=>
  intro l e
  match l,e with
  |a::b::l,e=>
   injection e with e1 e2
   injection e2 with e2 e3
   exact⟨b::a::l,List.Perm.swap _ _ _,by simp[e1,e2,e3]⟩
 |trans _ _ ih1 ih2=>
  intro l e
  obtain⟨l2,p2,e2⟩:=ih2 l e
  obtain⟨l1,p1,e1⟩:=ih1 l2 e2
  exact⟨l1,p1.trans p2,e1⟩
inductive q9 (kf:V->Int):List V->List Value->List Value->Prop
 |nil:q9 kf [] [] []
 |cons {y:V} {u:Value} {ys:List V} {us ks:List Value} (t:Tok) (r:RelV y u):q9 kf ys us ks->q9 kf (y::ys) (u::us) (.int (kf y) t::ks)
theorem q9.out{kf:V->Int}{ys:List V}{us ks:List Value}(h:q9 kf ys us ks):∃tr:List (Keyed×V),ks.zip us=tr.map Prod.fst/\ys=tr.map Prod.snd/\ ∀t∈tr,RelV t.2 t.1.2/\ ∃k,t.1.1= .int (kf t.2) k:=by
 induction h with
 |nil=>exact⟨[],rfl,rfl,λt h=>nomatch h⟩
 | @cons y u ys us ks t r _ ih=>
  obtain⟨tr,e1,e2,h⟩:=ih
  refine⟨((.int (kf y) t,u),y)::tr,by rw[List.zip_cons_cons,e1];rfl,by rw[e2];rfl,λz hz=> ?_⟩
  rcases List.mem_cons.mp hz with rfl|hz
  ·exact⟨r,t,rfl⟩
  ·exact h z hz
theorem q9.ints{kf:V->Int}{ys:List V}{us ks:List Value}(h:q9 kf ys us ks):IntsAre ks (ys.map kf):=by
 induction h with
 |nil=>exact .nil
 |cons t r _ ih=>exact .cons _ t ih
theorem q9.snoc{kf:V->Int}{ys:List V}{us ks:List Value}{y:V}{u:Value}(h:q9 kf ys us ks)(t:Tok)(r:RelV y u):q9 kf (ys++ [y]) (us++ [u]) (ks++ [.int (kf y) t]):=by
 induction h with
 |nil=>exact .cons t r .nil
 |cons t' r' _ ih=>exact .cons t' r' ih
section
variable{prog:Program}{w:World}{A:Around}{E:Value->Shared->Prop}{s:Shared}
theorem Gp:CJ prog w A E s oneType' (λp=>numOf p.1) (λp=> ∃n t,p.1= .int n t):=
 Ng λx y hx hy E' Q hq=>by
  obtain⟨n,t,e1⟩:=hx
  obtain⟨m,u,e2⟩:=hy
  rw[keyLt'_oneType,e1,e2]
  rw[e1,e2]at hq
  exact oneLt_int hq
end
section
variable{X:Cx}{pins:List (Addr×Obj)}{σ:St}{H:Hp}{s:Shared}{B:Around}{a:Addr}{f:Value}{kf:V->Int}{ys:List V}{us:List Value}
theorem Vals.at{ys:List V}{us:List Value}(r:Vals ys us){j:Nat}{x:Value}(h:us[j]?=some x):∃v,ys[j]?=some v/\RelV v x:=by
 induction r generalizing j with
 |nil=>cases h
 |cons a _ ih=>
  cases j with
  |zero=>cases h;exact⟨_,rfl,a⟩
  |succ j=>exact ih h
abbrev Em (pins:List (Addr×Obj)) (a:Addr) (e1:Nat) (kS:Addr) (ks:Array Value) (e:Nat):List (Addr×Obj):=pins++ [(a,seqObj "list" #[] e1),(kS,seqObj "list" ks e)]
theorem zp{a:Addr}{o:Obj}(fa:ff X pins H a)(h:s.heap.get? a=some o)(hd:∀v,o.data≠ .cell v):s.heap.get? a=some o/\H a=none/\a≠X.env.locals/\a∉X.fs/\ ∀v,o.data≠ .cell v:=⟨h,fa.1,fa.2.1,fa.2.2.1,hd⟩
theorem x9{H':Hp}(fa:ff X pins H a)(h:H' a=none):ff X pins H' a:=⟨h,fa.2⟩
end
theorem Kw{K:PySem.W.Frag}{H H':Hp}{a:Addr}{xs:List V}(h:aS K H a xs)(s:az H H'):aS K H' a xs:=by
 rcases h with h|h
 ·rcases h with h|⟨o,h⟩
  ·exact .inl (.inl (s _ _ h))
  ·exact .inl (.inr ⟨o,s _ _ h⟩)
 ·exact .inr h
def RU(sc:Scope)(ks:List (Str×NameKind))(own N2 N:List Str):Bool:=
 yw sc.names ks own N2 N && (sc.kind== .function) && !sc.isCoroutine && !sc.isGenerator && sc.names.all (λy=>y.2 != .cell) && own.all (λx=>sc.names.lookup x==some NameKind.local)
section
variable{X:Cx}{P:Addr}{te tb:TE}{e body:Expr}{args:Arguments}{sc:Scope}{x:Str}{N2:List Str}{p pos Kx kpos:Pos}
end
end L2
namespace L2
open PySem PySem.Spec PyProof.Rows
def SY(k:Nat)(F:List (List Int)):Prop:=F.length=k/\ ∀i,i<k-> ∃f,F[i]?=some f/\ao f i≠0/\ ∀j,j<i->ao f j=0
def Qx(k:Nat)(L:List (List Int)):Prop:=∀r∈L,∀j,j<k->ao r j=0
theorem Ky(w0 w1 w2:Int):Cl λv=>w0*v 0+w1*v 1+w2*v 2=0 where
 zero:=by simp
 add x y c hx hy:=by
  have e:w0*(x 0+c*y 0)+w1*(x 1+c*y 1)+w2*(x 2+c*y 2)=(w0*x 0+w1*x 1+w2*x 2)+c*(w0*y 0+w1*y 1+w2*y 2):=by grind
  show w0*(x 0+c*y 0)+w1*(x 1+c*y 1)+w2*(x 2+c*y 2)=0
  rw[e,hx,hy]
  simp
 ext x y h e:=by rw[<-e 0 (by decide),<-e 1 (by decide),<-e 2 (by decide)];exact h
theorem En(a b c:Nat->Int):Cl λv=> ∃x y z:Int,∀j,j<3->v j=x*a j+y*b j+z*c j where
 zero:=⟨0,0,0,λj _=>by simp⟩
 add u v k:=by
  rintro⟨x,y,z,h⟩ ⟨x',y',z',h'⟩
  exact⟨x+k*x',y+k*y',z+k*z',λj hj=>by show u j+k*v j=_;rw[h j hj,h' j hj];grind⟩
 ext u v:=by
  rintro⟨x,y,z,h⟩ e
  exact⟨x,y,z,λj hj=>by rw[<-e j hj];exact h j hj⟩
theorem Kz{T:List (List Int)}{w0 w1 w2:Int}(h:∀a,a<3->w0*ent T a 0+w1*ent T a 1+w2*ent T a 2=0)(n:w0≠0∨w1≠0∨w2≠0):aX T=0:=by
 have h0:=h 0 (by decide)
 have h1:=h 1 (by decide)
 have h2:=h 2 (by decide)
 have e0:aX T*w0=0:=by
  rw[cZ]
  have:(ent T 0 0*(ent T 1 1*ent T 2 2-ent T 1 2*ent T 2 1)+ent T 0 1*(ent T 1 2*ent T 2 0-ent T 1 0*ent T 2 2)+ent T 0 2*(ent T 1 0*ent T 2 1-ent T 1 1*ent T 2 0))*w0=
   (ent T 1 1*ent T 2 2-ent T 1 2*ent T 2 1)*(w0*ent T 0 0+w1*ent T 0 1+w2*ent T 0 2) - (ent T 0 1*ent T 2 2-ent T 0 2*ent T 2 1)*(w0*ent T 1 0+w1*ent T 1 1+w2*ent T 1 2)+(ent T 0 1*ent T 1 2-ent T 0 2*ent T 1 1)*(w0*ent T 2 0+w1*ent T 2 1+w2*ent T 2 2):=by grind
  rw[this,h0,h1,h2]
  simp
 have e1:aX T*w1=0:=by
  rw[cZ]
  have:(ent T 0 0*(ent T 1 1*ent T 2 2-ent T 1 2*ent T 2 1)+ent T 0 1*(ent T 1 2*ent T 2 0-ent T 1 0*ent T 2 2)+ent T 0 2*(ent T 1 0*ent T 2 1-ent T 1 1*ent T 2 0))*w1=
   -(ent T 1 0*ent T 2 2-ent T 1 2*ent T 2 0)*(w0*ent T 0 0+w1*ent T 0 1+w2*ent T 0 2)+(ent T 0 0*ent T 2 2-ent T 0 2*ent T 2 0)*(w0*ent T 1 0+w1*ent T 1 1+w2*ent T 1 2) - (ent T 0 0*ent T 1 2-ent T 0 2*ent T 1 0)*(w0*ent T 2 0+w1*ent T 2 1+w2*ent T 2 2):=by grind
  rw[this,h0,h1,h2]
  simp
 have e2:aX T*w2=0:=by
  rw[cZ]
  have:(ent T 0 0*(ent T 1 1*ent T 2 2-ent T 1 2*ent T 2 1)+ent T 0 1*(ent T 1 2*ent T 2 0-ent T 1 0*ent T 2 2)+ent T 0 2*(ent T 1 0*ent T 2 1-ent T 1 1*ent T 2 0))*w2=
   (ent T 1 0*ent T 2 1-ent T 1 1*ent T 2 0)*(w0*ent T 0 0+w1*ent T 0 1+w2*ent T 0 2) - (ent T 0 0*ent T 2 1-ent T 0 1*ent T 2 0)*(w0*ent T 1 0+w1*ent T 1 1+w2*ent T 1 2)+(ent T 0 0*ent T 1 1-ent T 0 1*ent T 1 0)*(w0*ent T 2 0+w1*ent T 2 1+w2*ent T 2 2):=by grind
  rw[this,h0,h1,h2]
  simp
 rcases n with n|n|n
 ·exact(Int.mul_eq_zero.mp e0).resolve_right n
 ·exact(Int.mul_eq_zero.mp e1).resolve_right n
 ·exact(Int.mul_eq_zero.mp e2).resolve_right n
def pH(T:List (List Int))(R:List (List Int)):Prop:=∀M,Cl M->(In M R↔ ∀a,a<3->M λj=>ent T a j)
theorem Nj{k:Nat}(hk:k<3){F L R T:List (List Int)}(tr:SY k F)(ze:Qx k L)(sp:zg (F++L) R)(bs:pH T R)(nd:aX T≠0):∃r∈L,ao r k≠0:=by
 refine Classical.byContradiction λno=>nd ?_
 have z:∀r∈L,∀j,j<k+1->ao r j=0:=λr hr j hj=>by
  by_cases c:j=k
  ·subst c
   exact Classical.byContradiction λn=>no ⟨r,hr,n⟩
  ·exact ze r hr j (by omega)
 have go:∀w0 w1 w2:Int,(∀f∈F,w0*ao f 0+w1*ao f 1+w2*ao f 2=0) ->(∀r∈L,w0*ao r 0+w1*ao r 1+w2*ao r 2=0) ->(w0≠0∨w1≠0∨w2≠0) ->aX T=0:=λw0 w1 w2 h1 h2 n=>
  Kz (λa ha=>((bs _ (Ky w0 w1 w2)).mp ((sp _ (Ky w0 w1 w2)).mp (dw.mpr ⟨h1,h2⟩))) a ha) n
 obtain⟨len,tr⟩:=tr
 rcases aB hk with rfl|rfl|rfl
 ·have:F=[]:=List.length_eq_zero_iff.mp len
  subst this
  exact go 1 0 0 (λf hf=>nomatch hf) (λr hr=>by rw[z r hr 0 (by decide)];simp) (.inl (by decide))
 ·obtain⟨f0,e0,n0,_⟩:=tr 0 (by decide)
  have:F=[f0]:=by
   match F,len,e0 with
   | [a],_,e0=>rw[Option.some.inj e0]
  subst this
  refine go (-(ao f0 1)) (ao f0 0) 0 (λf hf=> ?_) (λr hr=>by rw[z r hr 0 (by decide),z r hr 1 (by decide)];simp) (.inr (.inl n0))
  rw[List.mem_singleton.mp hf]
  grind
 ·obtain⟨f0,e0,n0,_⟩:=tr 0 (by decide)
  obtain⟨f1,e1,n1,z1⟩:=tr 1 (by decide)
  have:F=[f0,f1]:=by
   match F,len,e0,e1 with
   | [a,b],_,e0,e1=>rw[Option.some.inj e0,Option.some.inj e1]
  subst this
  have YB:=z1 0 (by decide)
  refine go (ao f0 1*ao f1 2-ao f0 2*ao f1 1) (ao f0 2*ao f1 0-ao f0 0*ao f1 2) (ao f0 0*ao f1 1-ao f0 1*ao f1 0) (λf hf=> ?_) (λr hr=>by rw[z r hr 0 (by decide),z r hr 1 (by decide),z r hr 2 (by decide)];simp) (.inr (.inr ?_))
  ·simp only[List.mem_cons,List.not_mem_nil,or_false]at hf
   rcases hf with rfl|rfl<;>grind
  ·rw[YB,Int.mul_zero,Int.sub_zero]
   intro c
   rcases Int.mul_eq_zero.mp c with c|c
   ·exact n0 c
   ·exact n1 c
theorem CN{a b:Int}(h:a*b=1):a=1∨a= -1:=by
 have h1:a.natAbs*b.natAbs=1:=by rw[<-Int.natAbs_mul,h];rfl
 have:=Nat.eq_one_of_mul_eq_one_right h1
 omega
theorem AW{F T:List (List Int)}(h:∀a,a<3-> ∃x y z:Int,∀j,j<3->ent F a j=x*ent T 0 j+y*ent T 1 j+z*ent T 2 j):∃k,aX F=k*aX T:=by
 obtain⟨x0,y0,z0,h0⟩:=h 0 (by decide)
 obtain⟨x1,y1,z1,h1⟩:=h 1 (by decide)
 obtain⟨x2,y2,z2,h2⟩:=h 2 (by decide)
 refine⟨x0*(y1*z2-z1*y2) -y0*(x1*z2-z1*x2)+z0*(x1*y2-y1*x2),?_⟩
 rw[cZ,cZ,h0 0 (by decide),h0 1 (by decide),h0 2 (by decide),h1 0 (by decide),h1 1 (by decide),h1 2 (by decide),h2 0 (by decide),h2 1 (by decide),h2 2 (by decide)]
 grind
theorem KA{F R T:List (List Int)}(hF:bI F)(sp:zg F R)(bs:pH T R)(nd:aX T≠0):aX F=aX T∨aX F= -(aX T):=by
 have row:∀a,a<3-> ∃r∈F,∀j,j<3->ao r j=ent F a j:=λa ha=>by
  have l:a<F.length:=by rw[hF.1];exact ha
  refine⟨F[a],List.getElem_mem l,λj hj=> ?_⟩
  unfold ao ent
  simp[l]
 have HX:∀M,Cl M->(∀a,a<3->M λj=>ent F a j) ->In M F:=λM c h r hr=>by
  obtain⟨a,ha,rfl⟩:=List.mem_iff_getElem.mp hr
  refine c.ext _ _ (h a (by rw[hF.1]at ha;exact ha)) λj hj=> ?_
  unfold ao ent
  simp[ha]
 obtain⟨k1,e1⟩:∃k,aX T=k*aX F:=by
  refine AW λa ha=> ?_
  have c:=En (λj=>ent F 0 j) (λj=>ent F 1 j) (λj=>ent F 2 j)
  refine(bs _ c).mp ((sp _ c).mp (HX _ c λb hb=> ?_)) a ha
  rcases aB hb with rfl|rfl|rfl
  ·exact⟨1,0,0,λj _=>by simp⟩
  ·exact⟨0,1,0,λj _=>by simp⟩
  ·exact⟨0,0,1,λj _=>by simp⟩
 obtain⟨k2,e2⟩:∃k,aX F=k*aX T:=by
  refine AW λa ha=> ?_
  have c:=En (λj=>ent T 0 j) (λj=>ent T 1 j) (λj=>ent T 2 j)
  obtain⟨r,hr,er⟩:=row a ha
  have:=(sp _ c).mpr ((bs _ c).mpr λb hb=>by
   rcases aB hb with rfl|rfl|rfl
   ·exact⟨1,0,0,λj _=>by simp⟩
   ·exact⟨0,1,0,λj _=>by simp⟩
   ·exact⟨0,0,1,λj _=>by simp⟩) r hr
  obtain⟨x,y,z,h⟩:=this
  exact⟨x,y,z,λj hj=>by rw[<-er j hj];exact h j hj⟩
 have e3:k1*k2=1:=by
  have:(k1*k2)*aX T=1*aX T:=by rw[Int.one_mul,Int.mul_assoc,<-e2,<-e1]
  exact Int.eq_of_mul_eq_mul_right nd this
 rw[Int.mul_comm]at e3
 rcases CN e3 with z|z<;>rw[e2,z]
 ·exact .inl (by simp)
 ·exact .inr (by simp)
def PY(i j:Int):Prop:=j≠0/\j.natAbs<2^4096
section
variable{X:Cx}
theorem Gq:tN X (binaryOp .FloorDiv) (rI PY λi j=> .int (i.fdiv j)):=OJ λi j _ _ _ _ _ hc q=>by
 refine floordiv_int hc.1 q (.inl (PyProof.noPylong_of_log2 ?_))
 have:=(Nat.log2_lt (by have:=hc.1;omega)).mpr hc.2
 omega
end
def gr(H:Hp)(b:Addr):List Int:=match H b with
 |some (.lst xs)=>xs.map λv=>match v with| .int i=>i|_=>0
 |_=>[]
def CO(H:Hp)(b:Addr):Prop:=H b=some (.lst [.int (ao (gr H b) 0),.int (ao (gr H b) 1),.int (ao (gr H b) 2)])/\(gr H b).length=3
theorem AX{H:Hp}{b:Addr}{x y z:Int}(e:H b=some (.lst [.int x,.int y,.int z])):CO H b/\gr H b=[x,y,z]:=by
 have h:gr H b=[x,y,z]:=by
  unfold gr
  rw[e]
  rfl
 refine⟨⟨?_,by rw[h];rfl⟩,h⟩
 rw[h,e]
 rfl
theorem CO.keep{H H':Hp}{b:Addr}(h:CO H b)(s:∀o,H b=some o->H' b=some o):CO H' b/\gr H' b=gr H b:=by
 have e:gr H' b=gr H b:=by
  have e1:=s _ h.1
  have e2:=h.1
  unfold gr at *
  rw[e1]
  conv=>rhs;rw[e2]
 exact⟨⟨by rw[e];exact s _ h.1,by rw[e];exact h.2⟩,e⟩
theorem yb{r:List Int}(h:r.length=3):r=[ao r 0,ao r 1,ao r 2]:=by
 match r,h with
 | [a,b,c],_=>rfl
def fW(H:Hp)(as:List Addr):Prop:=∀b∈as,CO H b
def rws(H:Hp)(as:List Addr):List (List Int):=as.map (gr H)
theorem fW.keep{H H':Hp}{as:List Addr}(h:fW H as)(s:∀b∈as,∀o,H b=some o->H' b=some o):fW H' as/\rws H' as=rws H as:=
 ⟨λb hb=>((h b hb).keep (s b hb)).1,List.map_congr_left λb hb=>((h b hb).keep (s b hb)).2⟩
theorem fW.same{H H':Hp}{as:List Addr}(h:fW H as)(s:az H H'):fW H' as/\rws H' as=rws H as:=h.keep λb _ o e=>s b o e
theorem rf{H:Hp}{t:Addr}{as:List Addr}{m:List (List Int)}(T:Tab H t as m)(h3:∀r∈m,r.length=3):fW H as/\rws H as=m:=by
 obtain⟨ht,pr⟩:=T
 clear ht
 induction pr with
 |nil=>exact⟨λb hb=>(nomatch hb),rfl⟩
 | @cons r b m as e _ ih=>
  have l:=h3 r List.mem_cons_self
  have e':H b=some (.lst [.int (ao r 0),.int (ao r 1),.int (ao r 2)]):=by
   rw[e]
   conv=>lhs;rw[yb l]
   rfl
  obtain⟨o1,o2⟩:=AX e'
  obtain⟨i1,i2⟩:=ih λr hr=>h3 r (List.mem_cons_of_mem _ hr)
  refine⟨λc hc=> ?_,?_⟩
  ·rcases List.mem_cons.mp hc with rfl|hc
   ·exact o1
   ·exact i1 c hc
  ·show gr H b::rws H as=_
   rw[o2,i2,<-yb l]
theorem ur{H:Hp}{t:Addr}{as:List Addr}(ht:H t=some (.lst (as.map V.ref)))(h:fW H as):Tab H t as (rws H as):=by
 refine⟨ht,?_⟩
 clear ht
 induction as with
 |nil=>exact .nil
 |cons b as ih=>
  refine .cons ?_ (ih λc hc=>h c (List.mem_cons_of_mem _ hc))
  have:=h b List.mem_cons_self
  rw[this.1]
  conv=>rhs;rw[yb this.2]
  rfl
def BD(H:Hp)(k:Nat)(as:List Addr):List Addr:=as.filter λb=>decide (ao (gr H b) k=0)
def yc(H:Hp)(k:Nat)(as:List Addr):List Addr:=as.filter λb=> !decide (ao (gr H b) k=0)
theorem sD(H:Hp)(k:Nat)(as:List Addr):rws H (BD H k as)=tX k (rws H as):=by
 unfold rws BD tX
 rw[List.filter_map]
 rfl
theorem CP(H:Hp)(k:Nat)(as:List Addr):rws H (yc H k as)=qg k (rws H as):=by
 unfold rws yc qg
 rw[List.filter_map]
 rfl
theorem kC(H:Hp)(as bs:List Addr):rws H (as++bs)=rws H as++rws H bs:=List.map_append
def vz(H:Hp)(k:Nat):V->Bool
 | .ref b=>decide (ao (gr H b) k=0)
 |_=>false
theorem Eo(H:Hp)(k:Nat)(as:List Addr):((as.map V.ref).filter (vz H k)).map id=(BD H k as).map V.ref:=by
 rw[List.map_id,List.filter_map]
 rfl
theorem Ep(H:Hp)(k:Nat)(as:List Addr):((as.map V.ref).filter λv=> !vz H k v).map id=(yc H k as).map V.ref:=by
 rw[List.map_id,List.filter_map]
 rfl
theorem vF{α:Type}(p:α->Bool):∀l:List α,(l.filter p).length+(l.filter λx=> !p x).length=l.length
 | []=>rfl
 |a::l=>by
  have ih:=vF p l
  rw[List.filter_cons,List.filter_cons]
  cases p a<;>simp<;>omega
theorem AY(a:Int):decide (V.int a=V.int 0)=decide (a=0):=by simp
def kW(H:Hp)(k:Nat):V->Nat
 | .ref b=>(ao (gr H b) k).natAbs
 |_=>0
def sumK(k:Nat)(S:List (List Int)):Nat:=(S.map λr=>(ao r k).natAbs).sum
def Vh(k:Nat)(σ:St)(H:Hp):Nat:=match(σ[4]?:Option (Option V))with
 |some (some (V.ref S))=>match H S with
  |some (.lst xs)=>(xs.map (kW H k)).sum
  |_=>0
 |_=>0
theorem KC{k:Nat}{a b c d:Option V}{S:Addr}{r:St}{H:Hp}{as:List Addr}(e:H S=some (.lst (as.map V.ref))):Vh k (a::b::c::d::some (.ref S)::r) H=sumK k (rws H as):=by
 unfold Vh sumK rws
 simp only[List.getElem?_cons_succ,List.getElem?_cons_zero,e,List.map_map]
 rfl
theorem Gr{k:Nat}{A B:List (List Int)}(p:A.Perm B):sumK k A=sumK k B:=(p.map _).sum_nat
theorem tG(k:Nat)(p:List Int->Bool):∀L:List (List Int),sumK k (L.filter p)<=sumK k L
 | []=>Nat.le_refl _
 |r::L=>by
  have ih:=tG k p L
  unfold sumK at *
  rw[List.filter_cons]
  split
  ·simp only[List.map_cons,List.sum_cons]
   omega
  ·simp only[List.map_cons,List.sum_cons]
   omega
theorem AZ{k:Nat}(hk:k<3){y:List Int}(ny:ao y k≠0):∀{rest:List (List Int)},(∀r∈rest,(ao y k).natAbs<=(ao r k).natAbs) ->sumK k (dQ k y rest)+rest.length<=sumK k rest
 | [],_=>Nat.le_refl _
 |r::rest,h=>by
  have ih:=AZ hk ny (rest:=rest) λx hx=>h x (List.mem_cons_of_mem _ hx)
  have h1:=h r List.mem_cons_self
  have h2:(ao (CH ((ao r k).fdiv (ao y k)) r y) k).natAbs<(ao y k).natAbs:=by
   rw[gA _ _ _ hk]
   exact(g7 ny).1
  unfold sumK dQ at *
  simp only[List.map_cons,List.sum_cons,List.length_cons]
  omega
theorem Gs{zs:List V}{as:List Addr}(p:zs.Perm (as.map V.ref)):∃bs:List Addr,zs=bs.map V.ref/\bs.Perm as:=by
 obtain⟨l,p',e⟩:=x8 p as rfl
 exact⟨l,e,p'⟩
theorem g8{H:Hp}{b l:Addr}{as:List Addr}(h:CO H b)(e:H l=some (.lst (as.map V.ref))):b≠l:=by
 rintro rfl
 have e1:=h.1
 rw[e]at e1
 cases as with
 |nil=>cases e1
 |cons a as=>cases e1
def Ent(L:List (List Int))(B:Nat):Prop:=∀x∈L,∀j,j<3->(ao x j).natAbs<=B
theorem Wk.perm{k:Nat}{S S':List (List Int)}{E M m Z:Nat}{same:Bool}(W:Wk k S E M m same Z)(p:S.Perm S'):Wk k S' E M m same Z where
 nz:=λr hr=>W.nz r (p.mem_iff.mpr hr)
 off:=λr hr=>W.off r (p.mem_iff.mpr hr)
 hi:=λr hr=>W.hi r (p.mem_iff.mpr hr)
 lo:=λr hr=>W.lo r (p.mem_iff.mpr hr)
 ex:=by
  obtain⟨r,hr,e⟩:=W.ex
  exact⟨r,p.mem_iff.mp hr,e⟩
 sg:=λh=>(W.sg h).imp (λz r hr=>z r (p.mem_iff.mpr hr)) λz r hr=>z r (p.mem_iff.mpr hr)
 SW:=by rw[<-p.length_eq];exact W.SW
structure Mid(k:Nat)(FA L S R:List (List Int))(Z B B1:Nat):Prop where
 cn:(tX k L).length+S.length<=4
 ll:L.length<=4
 zl:Qx k L
 zs:Qx k S
 sp:zg (FA++(tX k L++S)) R
 en:Ent (tX k L) B1
 wk:∃E M m same,Wk k S E M m same Z/\M<=B
theorem pI(k:Nat)(L:List (List Int)):tX k (tX k L)=tX k L:=by unfold tX;rw[List.filter_filter];simp
theorem zq(k:Nat)(A B:List (List Int)):tX k (A++B)=tX k A++tX k B:=List.filter_append ..
theorem uu{k:Nat}{L:List (List Int)}{x:List Int}:x∈tX k L↔x∈L/\ao x k=0:=by
 unfold tX
 rw[List.mem_filter]
 simp
theorem Nk{k:Nat}{L:List (List Int)}{x:List Int}:x∈qg k L↔x∈L/\ao x k≠0:=by
 unfold qg
 rw[List.mem_filter]
 simp
theorem Mid.step{k:Nat}(hk:k<3){FA L S R:List (List Int)}{Z B B1:Nat}(h:Mid k FA L S R Z B B1)(hz:Z<=B1){y:List Int}{rest:List (List Int)}(p:S.Perm (y::rest))(hr:rest≠ [])(PR:∀r∈rest,(ao y k).natAbs<=(ao r k).natAbs):
  Mid k FA (tX k L++tX k (y::dQ k y rest)) (qg k (y::dQ k y rest)) R Z B B1/\sumK k (qg k (y::dQ k y rest))<sumK k S:=by
 obtain⟨E,M,m,same,W,mB⟩:=h.wk
 have W1:=W.perm p
 have ny:ao y k≠0:=W1.nz y List.mem_cons_self
 obtain⟨E',m',W2,mM,off,lt⟩:=W1.step hk hr PR
 have zy:tX k (y::dQ k y rest)=tX k (dQ k y rest):=by
  unfold tX
  rw[List.filter_cons_of_neg (by simpa using ny)]
 have YC:qg k (y::dQ k y rest)=y::qg k (dQ k y rest):=by
  unfold qg
  rw[List.filter_cons_of_pos (by simpa using ny)]
 have ls:S.length=rest.length+1:=p.length_eq
 have lr:(dQ k y rest).length=rest.length:=List.length_map _
 have lz:(tX k (dQ k y rest)).length+(qg k (dQ k y rest)).length=rest.length:=by
  rw[<-lr]
  exact vF _ _
 have cn:=h.cn
 rw[zy,YC]
 have zS:∀r∈y::rest,∀j,j<k->ao r j=0:=λr hr=>h.zs r (p.mem_iff.mpr hr)
 have zR:∀r∈dQ k y rest,∀j,j<k->ao r j=0:=λr hr j hj=>by
  obtain⟨r0,h0,rfl⟩:=List.mem_map.mp hr
  rw[gA _ _ _ (by omega),zS r0 (List.mem_cons_of_mem _ h0) j hj,zS y List.mem_cons_self j hj]
  simp
 refine⟨⟨?_,?_,?_,?_,?_,?_,⟨E',m,m',true,W2,Nat.le_trans mM mB⟩⟩,?_⟩
 ·rw[zq,pI,pI,List.length_append,List.length_cons]
  omega
 ·rw[List.length_append]
  omega
 ·intro r hr
  rcases List.mem_append.mp hr with hr|hr
  ·exact h.zl r (uu.mp hr).1
  ·exact zR r (uu.mp hr).1
 ·intro r hr
  rcases List.mem_cons.mp hr with rfl|hr
  ·exact zS _ List.mem_cons_self
  ·exact zR r (Nk.mp hr).1
 ·refine zg.trans (λMm c=> ?_) h.sp
  rw[zq,pI,pI,dw,dw,dw,dw,dw,Nd p]
  have e1:In Mm (y::qg k (dQ k y rest))↔Mm (ao y)/\In Mm (qg k (dQ k y rest)):=by
   unfold In
   simp
  have e2:In Mm (y::rest)↔Mm (ao y)/\In Mm rest:=by
   unfold In
   simp
  have e3:=AU (M:=Mm) k (dQ k y rest)
  rw[e1,e2]
  constructor
  ·rintro⟨a,⟨b,d⟩,e,f⟩
   exact⟨a,b,e,(Kr c e).mp (e3.mpr ⟨d,f⟩)⟩
  ·rintro⟨a,b,e,f⟩
   have:=e3.mp ((Kr c e).mpr f)
   exact⟨a,⟨b,this.1⟩,e,this.2⟩
 ·rw[zq,pI,pI]
  intro r hr j hj
  rcases List.mem_append.mp hr with hr|hr
  ·exact h.en r hr j hj
  ·obtain⟨hr,e0⟩:=uu.mp hr
   by_cases c:j=k
   ·rw[c,e0]
    exact Nat.zero_le _
   ·have:=off r hr j hj c
    have:=W2.bound
    omega
 ·have e1:sumK k S=(ao y k).natAbs+sumK k rest:=by
   rw[Gr p]
   rfl
  have e2:sumK k (y::qg k (dQ k y rest))=(ao y k).natAbs+sumK k (qg k (dQ k y rest)):=rfl
  have e3:sumK k (qg k (dQ k y rest))<=sumK k (dQ k y rest):=tG k _ _
  have e4:=AZ hk ny PR
  have:0<rest.length:=List.length_pos_iff.mpr hr
  omega
theorem Mid.done{k:Nat}(hk:k<3){FA L S R:List (List Int)}{Z B B1:Nat}(h:Mid k FA L S R Z B B1)(tr:SY k FA)(l:¬1<S.length):
  ∃x,S=[x]/\SY (k+1) (FA++ [x])/\Qx (k+1) (tX k L)/\zg (FA++ [x]++tX k L) R/\(∀j,j<3->(ao x j).natAbs<=max Z B):=by
 obtain⟨E,M,m,same,W,mB⟩:=h.wk
 obtain⟨x,hx,_⟩:=W.ex
 have eS:S=[x]:=by
  match S,hx,l with
  | [a],hx,_=>rw[List.mem_singleton.mp hx]
  |a::b::S,_,l=>exact absurd (by simp:1<(a::b::S).length) l
 subst eS
 have nx:=W.nz x List.mem_cons_self
 have zx:=h.zs x List.mem_cons_self
 refine⟨x,rfl,⟨by rw[List.length_append,tr.1];rfl,λi hi=> ?_⟩,λr hr j hj=> ?_,zg.trans (λMm c=> ?_) h.sp,λj hj=> ?_⟩
 ·by_cases c:i=k
  ·refine⟨x,?_,by rw[c];exact nx,λj hj=>zx j (by omega)⟩
   rw[List.getElem?_append_right (by rw[tr.1,c];exact Nat.le_refl _),tr.1,c,Nat.sub_self]
   rfl
  ·obtain⟨f,e,n,z⟩:=tr.2 i (by omega)
   refine⟨f,?_,n,z⟩
   rw[List.getElem?_append_left (by rw[tr.1];omega)]
   exact e
 ·obtain⟨h1,h2⟩:=uu.mp hr
  by_cases c:j=k
  ·rw[c]
   exact h2
  ·exact h.zl r h1 j (by omega)
 ·rw[dw,dw,dw,dw]
  constructor
  ·rintro⟨⟨a,b⟩,d⟩
   exact⟨a,d,b⟩
  ·rintro⟨a,d,b⟩
   exact⟨⟨a,b⟩,d⟩
 ·by_cases c:j=k
  ·rw[c]
   have:=W.hi x List.mem_cons_self
   have:=Nat.le_max_right Z B
   omega
  ·have:=W.off x List.mem_cons_self j hj c
   have:=W.bound
   have:=Nat.le_max_left Z B
   omega
theorem Mid.small{k:Nat}{FA L S R:List (List Int)}{Z B B1:Nat}(h:Mid k FA L S R Z B B1):∀x∈S,ao x k≠0/\ ∀j,j<3->(ao x j).natAbs<=max Z B:=by
 obtain⟨E,M,m,same,W,mB⟩:=h.wk
 refine λx hx=>⟨W.nz x hx,λj hj=> ?_⟩
 by_cases c:j=k
 ·rw[c]
  have:=W.hi x hx
  have:=Nat.le_max_right Z B
  omega
 ·have:=W.off x hx j hj c
  have:=W.bound
  have:=Nat.le_max_left Z B
  omega
theorem Gu(k:Nat)(y:List Int)(L:List (List Int))(i:Nat)(hi:i<L.length):dQ k y (L.take (i+1))=dQ k y (L.take i)++ [CH ((ao L[i] k).fdiv (ao y k)) L[i] y]:=by
 unfold dQ
 rw[List.take_succ_eq_append_getElem hi,List.map_append]
 rfl
def Lz(p:Int)(s:Nat->Int)(y:Nat->Int):Prop:=(s 0*y 0+s 1*y 1+s 2*y 2)%p=0
theorem Ba{p:Int}{s y:Nat->Int}:Lz p (λk=>s k%p) y↔Lz p s y:=by
 unfold Lz
 have e0:=Int.emod_add_mul_ediv (s 0) p
 have e1:=Int.emod_add_mul_ediv (s 1) p
 have e2:=Int.emod_add_mul_ediv (s 2) p
 have e:(s 0%p*y 0+s 1%p*y 1+s 2%p*y 2)%p=(s 0*y 0+s 1*y 1+s 2*y 2)%p:=by
  refine kT (k:= -(s 0/p*y 0+s 1/p*y 1+s 2/p*y 2)) ?_
  generalize s 0%p=a0 at e0 ⊢
  generalize s 1%p=a1 at e1 ⊢
  generalize s 2%p=a2 at e2 ⊢
  generalize s 0/p=b0 at e0 ⊢
  generalize s 1/p=b1 at e1 ⊢
  generalize s 2/p=b2 at e2 ⊢
  rw[<-e0,<-e1,<-e2]
  grind
 rw[e]
def qv(p:Int)(q:Nat)(w:Nat->Int)(k j:Nat):Int:=if k=q then(if j=q then p else 0)else(if j=k then 1 else if j=q then-(w k)else 0)
theorem PZ{p u:Int}{s:Nat->Int}{q:Nat}(hp:1<p)(hq:q<3)(hu:u*s q%p=1){k:Nat}(hk:k<3):Lz p s (qv p q (λk=>s k*u%p) k):=by
 obtain⟨k1,h1⟩:=f9 (show u*s q%p=1%p by rw[hu];exact(bD (by decide) hp).symm)
 have e:=Int.emod_add_mul_ediv (s k*u) p
 unfold Lz
 by_cases c:k=q
 ·subst c
  refine Int.emod_eq_zero_of_dvd ⟨s k,?_⟩
  unfold qv
  rcases aB hk with rfl|rfl|rfl<;>simp[Int.mul_comm]
 ·have e2:s 0*qv p q (λk=>s k*u%p) k 0+s 1*qv p q (λk=>s k*u%p) k 1+s 2*qv p q (λk=>s k*u%p) k 2=s k-s q*(s k*u%p):=by
   unfold qv
   rw[if_neg c]
   rcases aB hk with rfl|rfl|rfl<;>rcases aB hq with rfl|rfl|rfl<;>first|(exact absurd rfl c)|(simp;rw[Int.mul_neg];omega)
  rw[e2]
  refine Int.emod_eq_zero_of_dvd ⟨s q*(s k*u/p) -s k*k1,?_⟩
  generalize s k*u%p=w at e ⊢
  generalize s k*u/p=v at e ⊢
  have e3:w=s k*u-p*v:=by omega
  rw[e3]
  have e4:s k-s q*(s k*u-p*v)=s k-s k*(u*s q)+p*(s q*v):=by grind
  rw[e4,h1]
  grind
theorem Nl{M:(Nat->Int) ->Prop}(c:Cl M){p u:Int}{s:Nat->Int}{q:Nat}(hp:1<p)(hq:q<3)(hu:u*s q%p=1)(h:∀k,k<3->M λj=>p*qv p q (λk=>s k*u%p) k j){y:Nat->Int}(hy:Lz p s y):M λj=>p*y j:=by
 obtain⟨k1,h1⟩:=f9 (show u*s q%p=1%p by rw[hu];exact(bD (by decide) hp).symm)
 obtain⟨z,hz⟩:=Int.dvd_of_emod_eq_zero hy
 have go:∀a b:Nat,a<3->b<3->a≠q->b≠q->a≠b->s q*y q+s a*y a+s b*y b=p*z->M λj=>p*y j:=λa b ha hb na nb nab e=>by
  have ea:=Int.emod_add_mul_ediv (s a*u) p
  have eb:=Int.emod_add_mul_ediv (s b*u) p
  have dv:y q+y a*(s a*u%p)+y b*(s b*u%p)=p*(u*z-k1*y q-s a*u/p*y a-s b*u/p*y b):=by
   generalize s a*u%p=wa at ea ⊢
   generalize s a*u/p=va at ea ⊢
   generalize s b*u%p=wb at eb ⊢
   generalize s b*u/p=vb at eb ⊢
   have e3:wa=s a*u-p*va:=by omega
   have e4:wb=s b*u-p*vb:=by omega
   rw[e3,e4]
   have e5:y q=u*s q*y q-p*k1*y q:=by rw[h1];grind
   have e6:y q+y a*(s a*u-p*va)+y b*(s b*u-p*vb)=(u*s q*y q-p*k1*y q)+y a*(s a*u-p*va)+y b*(s b*u-p*vb):=by rw[<-e5]
   rw[e6]
   have e7:(u*s q*y q-p*k1*y q)+y a*(s a*u-p*va)+y b*(s b*u-p*vb)=u*(s q*y q+s a*y a+s b*y b) -p*(k1*y q+va*y a+vb*y b):=by grind
   rw[e7,e]
   clear e7 e6 e5 e3 e4 ea eb e hz h1 hy h hu
   grind
  generalize u*z-k1*y q-s a*u/p*y a-s b*u/p*y b=d at dv
  refine c.ext _ _ (c.add _ _ d (c.add _ _ (y b) (c.mul (y a) (h a ha)) (h b hb)) (h q hq)) λj hj=> ?_
  unfold qv
  rw[if_neg na,if_neg nb,if_pos rfl]
  have cases:j=q∨j=a∨j=b:=by omega
  rcases cases with rfl|rfl|rfl
  ·rw[if_neg (Ne.symm na),if_pos rfl,if_neg (Ne.symm nb),if_pos rfl,if_pos rfl]
   dsimp only
   generalize s a*u%p=wa at dv ⊢
   generalize s b*u%p=wb at dv ⊢
   have:y j=p*d-y a*wa-y b*wb:=by omega
   rw[this]
   grind
  ·rw[if_pos rfl,if_neg nab,if_neg na,if_neg na]
   grind
  ·rw[if_neg (Ne.symm nab),if_neg nb,if_pos rfl,if_neg nb]
   grind
 rcases aB hq with rfl|rfl|rfl
 ·exact go 1 2 (by decide) (by decide) (by decide) (by decide) (by decide) hz
 ·exact go 0 2 (by decide) (by decide) (by decide) (by decide) (by decide) (by rw[<-hz];omega)
 ·exact go 0 1 (by decide) (by decide) (by decide) (by decide) (by decide) (by rw[<-hz];omega)
theorem Nm{m:List (List Int)}(ev:cj m){p:Int}{x:Nat->Int}{i l o:Nat}{t c:Int}(S:oA m p x i l o t c)(hp:p∈([3,5,7,11,13]:List Int)){M:(Nat->Int) ->Prop}(cl:Cl M)(h:∀a,a<3->M λj=>fZ p x i o t c a j){y:Nat->Int}(hy:Lz p (aC m x) y):M λj=>p*y j:=by
 have p1:1<p:=by
  simp only[List.mem_cons,List.not_mem_nil,or_false]at hp
  omega
 obtain⟨v,_,hv⟩:=ow hp S.F.sl
 obtain⟨k1,h1⟩:=f9 (show(1+(v:Int))*aC m x i%p=1%p by rw[hv];exact(bD (by decide) p1).symm)
 obtain⟨k2,h2⟩:=Int.dvd_of_emod_eq_zero S.eq
 obtain⟨k0,h0⟩:=Int.dvd_of_emod_eq_zero S.hc
 obtain⟨k4,h4⟩:=Int.dvd_of_emod_eq_zero hy
 have ex:=fJ m x x
 rw[gw ev x,h0]at ex
 have hi:=S.F.hi
 have hl:=S.hl
 have ho:=S.ho
 have li:=S.li
 have oi:=S.oi
 have ol:=S.ol
 have one:=S.one
 have sum:=S.sum
 generalize hs:aC m x=s at *
 have hz:s i*(y i-y l*cu p x i t i)+s o*(y o-y l*x o)=p*(k4-y l*(2*k0+t*s i)):=by
  have e:s i*(y i-y l*cu p x i t i)+s o*(y o-y l*x o)=(s 0*y 0+s 1*y 1+s 2*y 2) -y l*(s 0*x 0+s 1*x 1+s 2*x 2) -y l*(t*p*s i):=by
   unfold cu
   rw[if_pos rfl]
   rcases aB hi with rfl|rfl|rfl<;>rcases aB hl with rfl|rfl|rfl<;>rcases aB ho with rfl|rfl|rfl<;>first|(exfalso;omega)|(rw[one];grind)
  rw[e,h4,<-ex]
  grind
 have dv:(y i-y l*cu p x i t i) -c*(y o-y l*x o)=p*((1+v)*(k4-y l*(2*k0+t*s i)) - (1+v)*k2*(y o-y l*x o) -k1*((y i-y l*cu p x i t i) -c*(y o-y l*x o))):=by
  generalize y i-y l*cu p x i t i=zi at hz ⊢
  generalize y o-y l*x o=zo at hz ⊢
  have e1:zi-c*zo=(1+v)*s i*(zi-c*zo) -p*k1*(zi-c*zo):=by rw[h1];grind
  have e2:(1+v)*s i*(zi-c*zo) -p*k1*(zi-c*zo)=(1+v)*(s i*zi+s o*zo) - (1+v)*(s o+c*s i)*zo-p*(k1*(zi-c*zo)):=by grind
  rw[hz,h2]at e2
  have e3:=e1.trans e2
  generalize zi-c*zo=A at e3 ⊢
  refine e3.trans ?_
  clear e1 e2 e3
  grind
 generalize(1+v)*(k4-y l*(2*k0+t*s i)) - (1+v)*k2*(y o-y l*x o) -k1*((y i-y l*cu p x i t i) -c*(y o-y l*x o))=d at dv
 refine cl.ext _ _ (cl.add _ _ d (cl.add _ _ (y o-y l*x o) (cl.mul (p*y l) (h 0 (by decide))) (h 1 (by decide))) (h 2 (by decide))) λj hj=> ?_
 show p*y l*cu p x i t j+(y o-y l*x o)*(if j=i then c*p else if j=o then p else 0)+d*(if j=i then p*p else 0)=p*y j
 have cases:j=i∨j=l∨j=o:=by omega
 rcases cases with rfl|rfl|rfl
 ·rw[if_pos rfl,if_pos rfl]
  have:y j=y l*cu p x j t j+c*(y o-y l*x o)+p*d:=by omega
  rw[this]
  grind
 ·rw[if_neg li,if_neg (Ne.symm ol),if_neg li]
  unfold cu
  rw[if_neg li,one]
  grind
 ·rw[if_neg oi,if_pos rfl,if_neg oi]
  unfold cu
  rw[if_neg oi]
  grind
theorem CQ{m:List (List Int)}(ev:cj m){p u:Int}{x:Nat->Int}{i l o q:Nat}{t c:Int}(S:oA m p x i l o t c)(hp:p∈([3,5,7,11,13]:List Int))(hq:q<3)(hu:u*(aC m x q%p)%p=1){R:List (List Int)}
  (hR:∀M,Cl M->(In M R↔(M λj=>cu p x i t j)/\ ∀k,k<3->M λj=>p*qv p q (λk=>aC m x k%p*u%p) k j)):pH (stepT p x i o t c) R:=λM cl=>by
 have p1:1<p:=by
  simp only[List.mem_cons,List.not_mem_nil,or_false]at hp
  omega
 rw[hR M cl]
 have row:∀a,a<3->((M λj=>ent (stepT p x i o t c) a j)↔M λj=>fZ p x i o t c a j):=λa ha=>
  ⟨λh=>cl.ext _ _ h λj hj=>d7 _ _ _ _ _ _ ha hj,λh=>cl.ext _ _ h λj hj=>(d7 _ _ _ _ _ _ ha hj).symm⟩
 constructor
 ·rintro⟨h0,h1⟩ a ha
  rw[row a ha]
  have all:∀y,Lz p (aC m x) y->M λj=>p*y j:=λy hy=>Nl cl p1 hq (s:=λk=>aC m x k%p) hu h1 (Ba.mpr hy)
  have hi:=S.F.hi
  have ho:=S.ho
  have oi:=S.oi
  have se:=S.eq
  rcases aB ha with rfl|rfl|rfl
  ·exact h0
  ·refine cl.ext _ _ (all (λj=>if j=i then c else if j=o then 1 else 0) ?_) λj hj=> ?_
   ·unfold Lz
    rw[<-se]
    congr 1
    rcases aB hi with rfl|rfl|rfl<;>rcases aB ho with rfl|rfl|rfl<;>first|(exact absurd rfl oi)|(simp<;>grind)
   ·show p*(if j=i then c else if j=o then 1 else 0)=if j=i then c*p else if j=o then p else 0
    split
    ·exact Int.mul_comm ..
    ·split<;>simp
  ·refine cl.ext _ _ (all (λj=>if j=i then p else 0) ?_) λj hj=> ?_
   ·unfold Lz
    refine Int.emod_eq_zero_of_dvd ⟨aC m x i,?_⟩
    rcases aB hi with rfl|rfl|rfl<;>simp[Int.mul_comm]
   ·show p*(if j=i then p else 0)=if j=i then p*p else 0
    split<;>simp
 ·intro h
  have h':∀a,a<3->M λj=>fZ p x i o t c a j:=λa ha=>(row a ha).mp (h a ha)
  exact⟨h' 0 (by decide),λk hk=>Nm ev S hp cl h' (Ba.mp (PZ p1 hq (s:=λk=>aC m x k%p) hu hk))⟩
def kD(m:List (List Int))(n:Nat)(x up y:Nat->Int):Prop:=bH m up y%((n:Int)*n)=0/\ ∃d:Nat,d<n/\ ∀j,j<3->(y j- (d:Int)*x j)%(n:Int)=0
theorem Nn(m:List (List Int)){n:Nat}(n0:0<n)(x up:Nat->Int):Cl λy=>kD m n x up y where
 zero:=⟨by rw[fJ];simp,0,n0,λj _=>by simp⟩
 add y z c:=by
  rintro⟨h1,d,hd,h2⟩ ⟨h3,d',hd',h4⟩
  refine⟨?_,(((d:Int)+c*d')%n).toNat,by have:=Int.emod_lt_of_pos ((d:Int)+c*d') (show(0:Int)<n by omega);omega,λj hj=> ?_⟩
  ·obtain⟨a,ha⟩:=Int.dvd_of_emod_eq_zero h1
   obtain⟨b,hb⟩:=Int.dvd_of_emod_eq_zero h3
   refine Int.emod_eq_zero_of_dvd ⟨a+c*b,?_⟩
   have e:bH m up (λj=>y j+c*z j)=bH m up y+c*bH m up z:=by
    rw[fJ,fJ,fJ]
    grind
   rw[e,ha,hb]
   grind
  ·obtain⟨a,ha⟩:=Int.dvd_of_emod_eq_zero (h2 j hj)
   obtain⟨b,hb⟩:=Int.dvd_of_emod_eq_zero (h4 j hj)
   have e0:=Int.emod_nonneg ((d:Int)+c*d') (show(n:Int)≠0 by omega)
   have e1:=Int.emod_add_mul_ediv ((d:Int)+c*d') (n:Int)
   rw[Int.toNat_of_nonneg e0]
   generalize((d:Int)+c*d')%(n:Int)=r at e1 ⊢
   generalize((d:Int)+c*d')/(n:Int)=v at e1
   refine Int.emod_eq_zero_of_dvd ⟨a+c*b+v*x j,?_⟩
   have e3:r=(d:Int)+c*d'-n*v:=by omega
   have e4:y j=(d:Int)*x j+n*a:=by omega
   have e5:z j=(d':Int)*x j+n*b:=by omega
   show y j+c*z j-r*x j=_
   rw[e3,e4,e5]
   grind
 ext y z:=by
  rintro⟨h1,d,hd,h2⟩ e
  refine⟨by rw[<-h1];congr 1;exact l8 (λ_ _=>rfl) λj hj=>(e j hj).symm,d,hd,λj hj=>by rw[<-e j hj];exact h2 j hj⟩
def mE(m:List (List Int))(n:Nat)(x up:Nat->Int)(S:List (List Int)):Prop:=(aX S=(n:Int)*n*n∨aX S= -((n:Int)*n*n))/\ ∀a,a<3->kD m n x up λj=>ent S a j
theorem Er{m:List (List Int)}{n:Nat}{x up up' y:Nat->Int}(e:∀j,j<3->up j=up' j):kD m n x up y↔kD m n x up' y:=by
 unfold kD
 rw[l8 (m:=m) (x:=up) (x':=up') (y:=y) (y':=y) e λ_ _=>rfl]
theorem Np{m:List (List Int)}{n:Nat}{x up up':Nat->Int}{S:List (List Int)}(e:∀j,j<3->up j=up' j):mE m n x up S↔mE m n x up' S:=by
 unfold mE
 constructor
 ·exact λh=>⟨h.1,λa ha=>(Er e).mp (h.2 a ha)⟩
 ·exact λh=>⟨h.1,λa ha=>(Er e).mpr (h.2 a ha)⟩
theorem Gv{m:List (List Int)}{n:Nat}(n0:0<n){x up y:Nat->Int}{l:Nat}(hl:l<3)(one:x l=1):kD m n x up y↔(∀j,j<3->(y j-y l*x j)%(n:Int)=0)/\bH m up y%((n:Int)*n)=0:=by
 unfold kD
 constructor
 ·rintro⟨h,d,hd,k⟩
  refine⟨λj hj=> ?_,h⟩
  obtain⟨a,ha⟩:=Int.dvd_of_emod_eq_zero (k j hj)
  obtain⟨b,hb⟩:=Int.dvd_of_emod_eq_zero (k l hl)
  rw[one]at hb
  refine Int.emod_eq_zero_of_dvd ⟨a-b*x j,?_⟩
  have e1:y l=d+n*b:=by omega
  have e2:y j=d*x j+n*a:=by omega
  rw[e1,e2]
  grind
 ·rintro⟨k,h⟩
  refine⟨h,(y l%(n:Int)).toNat,by have:=Int.emod_lt_of_pos (y l) (show(0:Int)<n by omega);omega,λj hj=> ?_⟩
  obtain⟨a,ha⟩:=Int.dvd_of_emod_eq_zero (k j hj)
  have e0:=Int.emod_nonneg (y l) (show(n:Int)≠0 by omega)
  have e1:=Int.emod_add_mul_ediv (y l) (n:Int)
  rw[Int.toNat_of_nonneg e0]
  generalize y l%(n:Int)=r at e1 ⊢
  generalize y l/(n:Int)=v at e1
  refine Int.emod_eq_zero_of_dvd ⟨a+v*x j,?_⟩
  have e3:r=y l-n*v:=by omega
  have e4:y j=y l*x j+n*a:=by omega
  rw[e3]
  have e5:y j- (y l-n*v)*x j=(y j-y l*x j)+n*(v*x j):=by grind
  rw[e5,ha]
  grind
theorem Gw{m:List (List Int)}(ev:cj m){n:Nat}{x:Nat->Int}{i l o:Nat}{t c:Int}(S:oA m (n:Int) x i l o t c)(hp:(n:Int)∈([3,5,7,11,13]:List Int)){k:Nat}(hk:aL m (dY n x k)%((n:Int)*n)=0)(fk:∀j,j<k-> ¬aL m (dY n x j)%((n:Int)*n)=0)
  {F R B:List (List Int)}(hF:bI F)(sp:zg F R)(bs:pH (stepT n x i o t c) R)(hB:aX B=1):mE m n x (dY n x k) F/\mE m n x (dY n x k) (ie B F):=by
 have n2:2<n:=by
  simp only[List.mem_cons,List.not_mem_nil,or_false]at hp
  omega
 have nd:aX (stepT n x i o t c)≠0:=by
  have:0<(n:Int)*n*n:=Int.mul_pos (Int.mul_pos (by omega) (by omega)) (by omega)
  rcases vc S with z|z<;>rw[z]<;>omega
 have dF:aX F=(n:Int)*n*n∨aX F= -((n:Int)*n*n):=by
  rcases KA hF sp bs nd with z|z<;>rcases vc S with y|y<;>rw[z,y]
  ·exact .inl rfl
  ·exact .inr rfl
  ·exact .inr rfl
  ·exact .inl (Int.neg_neg _)
 have cl:=Nn m (show 0<n by omega) x (dY n x k)
 have HX:In (λy=>kD m n x (dY n x k) y) F:=(sp _ cl).mpr ((bs _ cl).mpr λa ha=>by
  have g:=Gd ev S hp hk fk ha
  exact cl.ext _ _ g λj hj=>(d7 _ _ _ _ _ _ ha hj).symm)
 have row:∀a,a<3->kD m n x (dY n x k) λj=>ent F a j:=λa ha=>by
  have la:a<F.length:=by rw[hF.1];exact ha
  refine cl.ext _ _ (HX F[a] (List.getElem_mem la)) λj hj=> ?_
  unfold ao ent
  simp[la]
 refine⟨⟨dF,row⟩,by rw[rJ,hB,Int.one_mul];exact dF,λa ha=> ?_⟩
 refine cl.ext _ _ (cl.add _ _ (ent B a 2) (cl.add _ _ (ent B a 1) (cl.mul (ent B a 0) (row 0 (by decide))) (row 1 (by decide))) (row 2 (by decide))) λj hj=> ?_
 exact(aV B F ha hj).symm
noncomputable def tH (m:List (List Int)) (n:Nat) (x up:Nat->Int) (r:List Int):Bool:= @decide (kD m n x up (ao r)) (Classical.propDecidable _)
theorem pJ{m:List (List Int)}{n:Nat}{x up:Nat->Int}{r:List Int}:tH m n x up r=true↔kD m n x up (ao r):=by
 unfold tH
 exact @decide_eq_true_iff _ (Classical.propDecidable _)
theorem uv{S:List (List Int)}{a:Nat}(h:a<S.length)(j:Nat):ao S[a] j=ent S a j:=by
 unfold ao ent
 simp[h]
theorem Gx{m:List (List Int)}{n:Nat}{x up:Nat->Int}{S:List (List Int)}(h:bI S):(∀a,a<3->kD m n x up λj=>ent S a j)↔ ∀r∈S,kD m n x up (ao r):=by
 have e:∀(a:Nat) (l:a<S.length),ao S[a]=λj=>ent S a j:=λa l=>funext (uv l)
 constructor
 ·intro g r hr
  obtain⟨a,ha,rfl⟩:=List.mem_iff_getElem.mp hr
  rw[e a ha]
  exact g a (by rw[h.1]at ha;exact ha)
 ·intro g a ha
  have l:a<S.length:=by rw[h.1];exact ha
  rw[<-e a l]
  exact g _ (List.getElem_mem l)
theorem Es{S:List (List Int)}{k:Nat}(h:bI S)(b:Bd k S):∀r∈S,∀j,j<3->(ao r j).natAbs<2^k:=λr hr j hj=>by
 obtain⟨a,ha,rfl⟩:=List.mem_iff_getElem.mp hr
 rw[uv ha]
 exact b a j (by rw[h.1]at ha;exact ha) hj
theorem KD{S:List (List Int)}{B k:Nat}(h:bI S)(e:Ent S B)(hB:B<2^k):Bd k S:=λa j ha hj=>by
 have l:a<S.length:=by rw[h.1];exact ha
 have:=e _ (List.getElem_mem l) j hj
 rw[uv l]at this
 omega
def fB(H:Hp)(bo:List Int->Bool):V->V
 | .ref d=> .bl (bo (gr H d))
 |_=> .gP
theorem Qa(H:Hp)(bo:List Int->Bool)(rs:List Addr):(rs.map V.ref).map (fB H bo)=((rws H rs).map bo).map V.bl:=by
 unfold rws
 rw[List.map_map,List.map_map,List.map_map]
 rfl
theorem Bb{m:List (List Int)}{n:Nat}{x up:Nat->Int}{S:List (List Int)}(h:bI S)(d:aX S=(n:Int)*n*n∨aX S= -((n:Int)*n*n)):((S.map (tH m n x up)).all id=true)↔mE m n x up S:=by
 unfold mE
 rw[Gx h,List.all_eq_true]
 constructor
 ·exact λg=>⟨d,λr hr=>pJ.mp (g _ (List.mem_map_of_mem hr))⟩
 ·rintro⟨_,g⟩ v hv
  obtain⟨r,hr,rfl⟩:=List.mem_map.mp hv
  exact pJ.mpr (g r hr)
theorem ux{M:(Nat->Int) ->Prop}{r:List Int}{L:List (List Int)}:In M (r::L)↔M (ao r)/\In M L:=by
 unfold In
 simp
theorem KG{M:(Nat->Int) ->Prop}(c:Cl M)(g:Nat->Nat->Int):In M (mk3 g)↔ ∀k,k<3->M λj=>g k j:=by
 have e:∀k,k<3-> ∀j,j<3->ao [g k 0,g k 1,g k 2] j=g k j:=λk _ j hj=>by
  rcases aB hj with rfl|rfl|rfl<;>rfl
 have m:mk3 g=[[g 0 0,g 0 1,g 0 2],[g 1 0,g 1 1,g 1 2],[g 2 0,g 2 1,g 2 2]]:=rfl
 rw[m,ux,ux,ux]
 constructor
 ·rintro⟨h0,h1,h2,_⟩ k hk
  rcases aB hk with rfl|rfl|rfl
  ·exact c.ext _ _ h0 (e 0 (by decide))
  ·exact c.ext _ _ h1 (e 1 (by decide))
  ·exact c.ext _ _ h2 (e 2 (by decide))
 ·intro h
  exact⟨c.ext _ _ (h 0 (by decide)) λj hj=>(e 0 (by decide) j hj).symm,c.ext _ _ (h 1 (by decide)) λj hj=>(e 1 (by decide) j hj).symm,c.ext _ _ (h 2 (by decide)) λj hj=>(e 2 (by decide) j hj).symm,λr hr=>nomatch hr⟩
def w9(n:Int)(q:Nat)(w up:Nat->Int):List (List Int):=[up 0,up 1,up 2]::mk3 λk j=>n*qv n q w k j
theorem Nq{M:(Nat->Int) ->Prop}(c:Cl M)(n:Int)(q:Nat)(w up:Nat->Int):In M (w9 n q w up)↔(M λj=>up j)/\ ∀k,k<3->M λj=>n*qv n q w k j:=by
 unfold w9
 rw[ux,KG c]
 have e:∀j,j<3->ao [up 0,up 1,up 2] j=up j:=λj hj=>by
  rcases aB hj with rfl|rfl|rfl<;>rfl
 exact and_congr ⟨λh=>c.ext _ _ h e,λh=>c.ext _ _ h λj hj=>(e j hj).symm⟩ Iff.rfl
theorem Gy{m:List (List Int)}(ev:cj m){p u:Int}{x up w:Nat->Int}{i l o q:Nat}{t c:Int}(S:oA m p x i l o t c)(hp:p∈([3,5,7,11,13]:List Int))(hq:q<3)(hu:u*(aC m x q%p)%p=1)(hw:(λk=>aC m x k%p*u%p)=w)(hup:∀j,j<3->up j=cu p x i t j):pH (stepT p x i o t c) (w9 p q w up):=by
 subst hw
 refine CQ ev S hp hq hu λM cl=> ?_
 rw[Nq cl]
 exact and_congr ⟨λh=>cl.ext _ _ h hup,λh=>cl.ext _ _ h λj hj=>(hup j hj).symm⟩ Iff.rfl
theorem Nr{n:Int}(hn:0<n/\n<14){q:Nat}{w up:Nat->Int}(hw:∀k,0<=w k/\w k<n)(hup:∀j,j<3->(up j).natAbs<2^8):Ent (w9 n q w up) 256:=by
 have a:∀k j,(qv n q w k j).natAbs<=13:=λk j=>by
  have:=hw k
  unfold qv
  split
  ·split<;>omega
  ·split
   ·omega
   ·split<;>omega
 have g:∀k j,(n*qv n q w k j).natAbs<=256:=λk j=>by
  rw[Int.natAbs_mul]
  have:=Nat.mul_le_mul (show n.natAbs<=13 by omega) (a k j)
  omega
 intro r hr j hj
 unfold w9 mk3 at hr
 simp only[List.mem_cons,List.not_mem_nil,or_false]at hr
 rcases hr with rfl|rfl|rfl|rfl
 ·have:=hup j hj
  rcases aB hj with rfl|rfl|rfl<;>exact Nat.le_of_lt this
 ·rcases aB hj with rfl|rfl|rfl<;>exact g _ _
 ·rcases aB hj with rfl|rfl|rfl<;>exact g _ _
 ·rcases aB hj with rfl|rfl|rfl<;>exact g _ _
theorem KH{H:Hp}{p U D:Addr}{ds:List Addr}{n:Int}{q:Nat}{w up:Nat->Int}(e:H p=some (.lst (V.ref U::ds.map V.ref)))(eU:cM H U up)(T:Tab H D ds (mk3 λk j=>n*qv n q w k j)):Tab H p (U::ds) (w9 n q w up):=⟨e,.cons eU T.2⟩
theorem Bc(n:Int)(q:Nat)(w up:Nat->Int):(w9 n q w up).length=4/\ ∀x∈w9 n q w up,x.length=3:=by
 refine⟨rfl,λx hx=> ?_⟩
 unfold w9 mk3 at hx
 simp only[List.mem_cons,List.not_mem_nil,or_false]at hx
 rcases hx with rfl|rfl|rfl|rfl<;>rfl
end L2
set_option maxHeartbeats 1000000
namespace CM
open PySem L2
section
variable{P:Program}{w:World}{K:PySem.W.Frag}{mg:Str->Option Value}{base:Heap}
def zu(T1 T0:Addr):Sp:=λvs H Q _=> ∃(t:Addr) (bs:List Addr) (m:List (List Int)) (n:Nat) (b:Addr) (x:Nat->Int) (c0:Addr) (up:Nat->Int) (r:Addr) (y:Nat->Int) (l:Nat),vs=[.ref t,.int (n:Int),.ref b,.ref c0,.ref r]/\Tab H t bs m/\bI m/\Bd 440 m/\cM H b x/\cM H c0 up/\cM H r y/\(∀i,i<3->(x i).natAbs<2^400)/\(∀i,i<3->(up i).natAbs<2^400)/\(∀i,i<3->(y i).natAbs<2^400)/\0<n/\n<14/\l<3/\x l=1/\(∀j,j<l->x j=0)/\H T1=some (bN T1)/\H T0=some (bN T0)/\ ∀(bo:Bool) H',(bo=true↔kD m n x up y) ->az H H'->Q (.bl bo) H'
theorem CS{aP bT:Addr}(F:nO K mg "is_good" rX mw bT)(bm:BM mg base)(yd:mg "any"=none)(nU:mg "zip"=none)(jT:cQ P w K mg base cC 2 "pairing" jS (CC aP)):cQ P w K mg base cC 3 "is_good" mw (zu aP bT):=by
 refine F.ok vj (λvs H Q E h=> ?_) (λf cdv A outer s H vs Q E cd hr h=> ?_)
 ·obtain⟨t,bs,m,n,b,x,c0,up,r,y,l,rfl,hT,bP,hB,hx,h0,hy,bx,b0,bY,n0,Nb,hl,one,l0,h1,h2,q⟩:=h
  rfl
 obtain⟨t,bs,m,n,b,x,c0,up,r,y,l,rfl,hT,bP,hB,hx,h0,hy,bx,b0,bY,n0,Nb,hl,one,l0,h1,h2,q⟩:=h
 have hu:=hr.units
 refine⟨_,(lV (@ay _ _ _ _ _ (aW (i:=5) vj.nd rfl (Or.inr rfl) (aF aq (pv 4) (xP PySem.F.plainAttrs_list PySem.F.slot_list_index PySem.F.type_list_index JU (pv 2) (af ah ak)) (λ_ _=>rfl)))
  (@ay _ _ _ _ _ (cI (jk (Mi (N2:=["form","p","line","lifted","row","times"]) (te:=(dH NN (dH (rI (λ_ j=>0<j) λi j=> .int (i%j)) (dH (z9 λi j=> .int (i-j)) (aH 0) (dH (rI iu λi j=> .int (i*j)) (aH 7) (aH 1))) (aH 3)) (tC (.int 0)))) rfl (gC.depth hr) cd bm rfl yd (yL rfl nU (af (pv 4) (af (pv 2) ak))) (by kernel_rfl) (λ_ _ _ _=>by exact dU (d9 kQ (av cH (av fm (pv 0) (av bA (pv 7) (pv 1))) (pv 3)) ah (aZ _))))) (@aK _ _ _ (aT nX)) dJ)
  (@aK _ _ _ (aT (d9 f6 (av cH (aN jT hr rfl aM (af (pv 0) (af (pv 3) (af (pv 4) ak)))) (av bQ (pv 1) (pv 1))) ah (aZ _))))))),?_⟩
 have nn:n*n<=169:=Nat.mul_le_mul (show n<=13 by omega) (show n<=13 by omega)
 have e2:(n:Int)*n=((n*n:Nat):Int):=by push_cast;rfl
 have SS:0<n*n:=Nat.mul_pos n0 n0
 have gl:=Gv (m:=m) (n:=n) n0 (x:=x) (up:=up) (y:=y) hl one
 refine⟨_,rfl,_,rfl,.inl ⟨rfl,_,aS.of hx⟩,b,_,_,l,rfl,rfl,aS.of hx,rfl,rfl,⟨.int (x l),(by rcases aB hl with rfl|rfl|rfl<;>rfl),(by rw[one];rfl)⟩,(λj z hj ez=> ?_),r,_,_,_,rfl,rfl,aS.of hy,ju y hl,?_⟩
 ·have RV:z= .int (x j):=by
   have RW:j<3:=by omega
   rcases aB RW with rfl|rfl|rfl<;>exact(Option.some.inj ez).symm
  rw[RV,l0 j hj]
  rfl
 refine⟨_,rfl,_,rfl,r,b,_,_,rfl,aS.of hy,aS.of hx,Ml (aS.of hy) (aS.of hx) rfl h2 (λj=> !decide (V.int ((y j-y l*x j)%(n:Int))=V.int 0)) (λj u v eu ev Ha Q' sa kk=> ?_) (λbo Ha sa KI=> ?_)⟩
 ·have RW:j<3:=(List.getElem?_eq_some_iff.mp eu).1
  have RQ:u= .int (y j):=by
   rcases aB RW with rfl|rfl|rfl<;>exact(Option.some.inj eu).symm
  have ev':v= .int (x j):=by
   rcases aB RW with rfl|rfl|rfl<;>exact(Option.some.inj ev).symm
  subst RQ ev'
  exact⟨_,rfl,_,rfl,_,rfl,_,_,rfl,rfl,⟨aG (bY l hl) (by decide),aG (bx j RW) (by decide)⟩,_,_,rfl,rfl,_,rfl,_,_,rfl,rfl,(by show(0:Int)<n;omega),rfl,kk Ha (az.refl _)⟩
 have no:bo=true↔ ¬ ∀j,j<3->(y j-y l*x j)%(n:Int)=0:=by
  rw[KI]
  constructor
  ·rintro⟨j,hj,e⟩ h
   have:=h j hj
   simp[this]at e
  ·intro h
   refine Classical.byContradiction λno=>h λj hj=>Classical.byContradiction λz=>no ⟨j,hj,?_⟩
   simpa using z
 refine⟨_,rfl,jo (λc=> ?_) (λc=> ?_)⟩
 ·exact q false Ha ⟨λz=>(nomatch z),λz=>absurd (gl.mp z).1 (no.mp c)⟩ sa
 have al:∀j,j<3->(y j-y l*x j)%(n:Int)=0:=Classical.byContradiction λz=>c (no.mpr z)
 refine⟨_,rfl,_,rfl,_,rfl,t,bs,m,c0,r,up,y,rfl,hT.same sa,bP,hB.mono (by decide),sa _ _ h0,sa _ _ hy,(λi hi=>aG (b0 i hi) (by decide)),(λi hi=>aG (bY i hi) (by decide)),sa _ _ h1,λHb sb=>⟨_,rfl,_,rfl,_,_,rfl,rfl,.inl ⟨by omega,by omega⟩,_,_,rfl,rfl,(by show(0:Int)<(n:Int)*n;omega),rfl,?_⟩⟩
 refine q _ Hb ?_ (sa.trans sb)
 rw[gl]
 simp only[decide_eq_true_eq,V.int.injEq]
 exact⟨λh=>⟨al,h⟩,λh=>h.2⟩
end
end CM
set_option maxHeartbeats 1000000
namespace CM
open PySem L2
section
variable{P:Program}{w:World}{K:PySem.W.Frag}{mg:Str->Option Value}{base:Heap}
def Et(T1 T2 T3 T4 T5 T6 T0:Addr):Sp:=λvs H Q _=> ∃(t:Addr) (bs:List Addr) (m:List (List Int)) (n:Nat) (b:Addr) (x:Nat->Int) (r:Addr) (rs:List Addr) (S:List (List Int)),vs=[.ref t,.int (n:Int),.ref b,.ref r]/\Tab H t bs m/\bI m/\Bd 440 m/\cj m/\(n:Int)∈([3,5,7,11,13]:List Int)/\aX m/2%(n:Int)≠0/\cM H b x/\jf (n:Int) x/\aL m x%(n:Int)=0/\Tab H r rs S/\bI S/\Bd 330 S/\H T1=some (bN T1)/\H T2=some (bN T2)/\H T3=some (bN T3)/\H T4=some (bN T4)/\H T5=some (bN T5)/\H T6=some (bN T6)/\H T0=some (bN T0)/\ ∀(i:Nat) (tm:Int) (bo:Bool) H',p6 m (n:Int) x i tm->(bo=true↔mE m n x (cu n x i tm) S) ->az H H'->Q (.bl bo) H'
theorem vG{aU aO cg aY aP bT bB:Addr}(F:nO K mg "steps_along" lA gK bB)(bm:BM mg base)(mC:mg "abs"=none)(iN:mg "all"=none)(iW:cQ P w K mg base cC 7 "is_table" iS (r9 aU aO))(dD:cQ P w K mg base cC 7 "determinant" eV Ei)(ni:cQ P w K mg base cC 7 "first_lift" iB (El cg aY aP))(sF:cQ P w K mg base cC 6 "is_good" mw (zu aP bT)):cQ P w K mg base cC 8 "steps_along" gK (Et aU aO cg aY aP bT bB):=by
 refine F.ok oF (λvs H Q E h=> ?_) (λf cdv A outer s H vs Q E cd hr h=> ?_)
 ·obtain⟨t,bs,m,n,b,x,r,rs,S,rfl,hT,bP,hB,ev,hp,hd,hx,L,hc,hR,cS,bS,h1,h2,h3,h4,h5,h6,h7,q⟩:=h
  rfl
 obtain⟨t,bs,m,n,b,x,r,rs,S,rfl,hT,bP,hB,ev,hp,hd,hx,L,hc,hR,cS,bS,h1,h2,h3,h4,h5,h6,h7,q⟩:=h
 have hu:=hr.units
 refine⟨_,(lV (@ay _ _ _ _ _ (cI (PW.pt (zY (jV (jk (aN iW hr rfl aM (af (pv 3) ak)))) (uB (bz kQ (bZ n5 rfl mC PyProof.Rows.boot_abs (af (aN dD hr rfl aM (af (pv 3) ak)) ak)) (av bQ (av bQ (pv 1) (pv 1)) (pv 1)) (aZ _))))) (@aK _ _ _ (aT nX)) dJ)
  (@ay _ _ _ _ _ (aW (i:=4) oF.nd rfl (Or.inr rfl) (aN ni hr rfl aM (af (pv 0) (af (pv 1) (af (pv 2) ak)))))
  (@aK _ _ _ (aT (um (N2:=["form","p","line","table","lifted"]) (te:=(jW (zu aP bT) [] E0 (bE (aH 1) (bE (aH 2) (bE (aH 3) (bE (aH 5) (bE (aH 0) gF))))))) rfl (gC.depth hr) cd bm rfl iN (cJ (pv 3)) (by kernel_rfl) (λ_ _ _ _=>by exact dU (aN sF (uP hr) rfl aM (af (pv 1) (af (pv 2) (af (pv 3) (af (pv 5) (af (pv 0) ak))))))))))))),?_⟩
 have p0:2<n/\n<14:=by
  simp only[List.mem_cons,List.not_mem_nil,or_false]at hp
  omega
 have nn:n*n<=169:=Nat.mul_le_mul (show n<=13 by omega) (show n<=13 by omega)
 have Wz:n*n*n<=169*13:=Nat.mul_le_mul nn (show n<=13 by omega)
 have e2:(n:Int)*n=((n*n:Nat):Int):=by push_cast;rfl
 have e3:(n:Int)*n*n=((n*n*n:Nat):Int):=by push_cast;rfl
 obtain⟨i0,t0,F0⟩:=yR ev hp hd L
 obtain⟨l,hl,li,one,l0⟩:=uZ ev L hc F0
 refine⟨_,rfl,r,rs,S,rfl,hR,cS,h1,h2,λH1 s1=>⟨_,rfl,pK ?_⟩⟩
 refine⟨_,rfl,r,rs,S,rfl,hR.same s1,cS,bS.mono (by decide),trivial,λH2 s2=>⟨_,rfl,_,rfl,_,rfl,_,_,rfl,rfl,.inl ⟨by omega,by omega⟩,_,rfl,_,_,rfl,rfl,.inl ⟨by omega,by omega⟩,rfl,_,rfl,jo (λc=> ?_) (λc=> ?_)⟩⟩
 ·refine q i0 t0 false H2 F0 ⟨λz=>(nomatch z),λz=> ?_⟩ (s1.trans s2)
  exfalso
  have h1:=z.1
  have h2:¬(V.int (if aX S<0 then-(aX S)else aX S)=V.int ((n:Int)*n*n)):=by simpa using c
  apply h2
  congr 1
  split<;>omega
 have dS:aX S=(n:Int)*n*n∨aX S= -((n:Int)*n*n):=by
  have h2:V.int (if aX S<0 then-(aX S)else aX S)=V.int ((n:Int)*n*n):=Classical.byContradiction λz=>c (by simpa using z)
  injection h2 with h2
  split at h2<;>omega
 have s12:=s1.trans s2
 refine⟨_,rfl,_,rfl,_,rfl,t,bs,m,n,b,x,rfl,hT.same s12,bP,hB,ev,hp,hd,s12 _ _ hx,L,hc,s12 _ _ h3,s12 _ _ h4,s12 _ _ h5,λi tm u H3 F s3 fu eu=> ?_⟩
 have iM:=s12.trans s3
 have bx:∀i,i<3->(x i).natAbs<2^4:=λi hi=>by have:=L.lo i hi;have:=L.hi i hi;omega
 have bu:∀j,j<3->(cu (n:Int) x i tm j).natAbs<2^9:=λj hj=>by
  have h1:=bx j hj
  have h2:=F.lo
  have h3:=F.up
  have c1:(tm*(n:Int)).natAbs<2^(4+4):=di (by omega) (by omega)
  unfold cu
  split<;>omega
 have l3:(rs.map V.ref).length=3:=by rw[List.length_map,<-hR.2.length,cS.1]
 obtain⟨Vi,RX⟩:=rf (hR.same iM) cS.2
 refine⟨_,rfl,r,rfl,⟨_,aS.of (hR.same iM).1⟩,yF (c8 (aS.of (hR.same iM).1)) (iM _ _ h7) (λa=>tH m n x (cu n x i tm) ((rws H3 rs).getD a [])) (λa v ea H4 Q4 s4 k4=> ?_) (λbo H4 s4 KI=> ?_)⟩
 ·obtain⟨d,rfl,RY⟩:=om (List.mem_of_getElem? ea)
  have sm:=iM.trans s4
  have ed:(rws H3 rs).getD a []=gr H3 d:=by
   rw[List.getElem?_map]at ea
   unfold rws
   rw[List.getD_eq_getElem?_getD,List.getElem?_map]
   cases h:rs[a]? with
   |none=>rw[h]at ea;cases ea
   |some z=>
    rw[h]at ea
    cases ea
    rfl
  have br:=Es cS bS _ (show gr H3 d∈S by rw[<-RX];exact List.mem_map_of_mem RY)
  rw[ed]at k4
  refine⟨_,rfl,_,rfl,_,rfl,_,rfl,_,rfl,t,bs,m,n,b,x,u,cu n x i tm,d,ao (gr H3 d),l,rfl,hT.same sm,bP,hB,sm _ _ hx,s4 _ _ eu,s4 _ _ (Vi d RY).1,(λi hi=>aG (bx i hi) (by decide)),(λi hi=>aG (bu i hi) (by decide)),(λi hi=>aG (br i hi) (by decide)),by omega,p0.2,hl,one,l0,sm _ _ h5,sm _ _ h6,λb' H5 hb' s5=> ?_⟩
  have:b'=tH m n x (cu n x i tm) (gr H3 d):=by rw[Bool.eq_iff_iff,hb',pJ]
  rw[this]
  exact k4 H5 s5
 ·refine q i tm bo H4 F ?_ (iM.trans s4)
  rw[KI,<-Bb cS dS,List.all_eq_true,l3,RX]
  constructor
  ·intro h v hv
   obtain⟨z,hz,rfl⟩:=List.mem_map.mp hv
   obtain⟨a,ha,rfl⟩:=List.mem_iff_getElem.mp hz
   have:=h a (by rw[cS.1]at ha;exact ha)
   rw[List.getD_eq_getElem?_getD,List.getElem?_eq_getElem ha]at this
   exact this
  ·intro h a ha
   have la:a<S.length:=by rw[cS.1];exact ha
   rw[List.getD_eq_getElem?_getD,List.getElem?_eq_getElem la]
   exact h _ (List.mem_map_of_mem (List.getElem_mem la))
end
end CM
set_option maxHeartbeats 1000000
namespace CM
open PySem L2
section
variable{P:Program}{w:World}{K:PySem.W.Frag}{mg:Str->Option Value}{base:Heap}
def ye(T1 T2 T3 T4 T5 T6 T7 T8:Addr):Sp:=λvs H Q _=> ∃(t:Addr) (bs:List Addr) (m:List (List Int)) (n:Nat) (b:Addr) (x:Nat->Int) (r:Addr) (rs:List Addr) (S:List (List Int)),vs=[.ref t,.int (n:Int),.ref b,.ref r]/\Tab H t bs m/\bI m/\Bd 440 m/\cj m/\dj m=true/\aX m/2<=200/\(n:Int)∈([3,5,7,11,13]:List Int)/\aX m/2%(n:Int)≠0/\cM H b x/\jf (n:Int) x/\aL m x%(n:Int)=0/\Tab H r rs S/\bI S/\Bd 330 S/\H T1=some (bN T1)/\H T2=some (bN T2)/\H T3=some (bN T3)/\H T4=some (bN T4)/\H T5=some (bN T5)/\H T6=some (bN T6)/\H T7=some (bN T7)/\H T8=some (bN T8)/\ ∀(i:Nat) (tm:Int) (bo:Bool) H',p6 m (n:Int) x i tm->(bo=true↔mE m n x (cu n x i tm) S) ->az H H'->Q (.bl bo) H'
theorem CT{aU aO aD aP cg aY bT bB:Addr}(F:eT K mg "is_step" rY mz)(iY:cQ P w K mg base cC 11 "refuse_no_line" fC (Kq aU aO aD aP))(lH:cQ P w K mg base cC 11 "steps_along" gK (Et aU aO cg aY aP bT bB)):cQ P w K mg base cC 12 "is_step" mz (ye aU aO aD aP cg aY bT bB):=by
 refine F.ok Cy (λvs H Q E h=> ?_) (λf cdv A outer s H vs Q E hr h=> ?_)
 ·obtain⟨t,bs,m,n,b,x,r,rs,S,rfl,hT,bP,hB,ev,ab,le,hp,hd,hx,L,hc,hR,cS,bS,h1,h2,h3,h4,h5,h6,h7,h8,q⟩:=h
  rfl
 obtain⟨t,bs,m,n,b,x,r,rs,S,rfl,hT,bP,hB,ev,ab,le,hp,hd,hx,L,hc,hR,cS,bS,h1,h2,h3,h4,h5,h6,h7,h8,q⟩:=h
 have hu:=hr.units
 refine⟨_,(lV (@ay _ _ _ _ _ (mH (aN iY hr rfl aM (af (pv 0) (af (pv 1) (af (pv 2) ak)))))
  (@aK _ _ _ (aT (aN lH hr rfl aM (af (pv 0) (af (pv 1) (af (pv 2) (af (pv 3) ak))))))))),?_⟩
 refine⟨_,rfl,_,rfl,_,rfl,t,bs,m,n,b,x,rfl,hT,bP,hB,ev,ab,le,h1,h2,h3,hp,hd,hx,L,hc,h4,λH1 s1=> ?_⟩
 exact⟨_,rfl,_,rfl,_,rfl,_,rfl,t,bs,m,n,b,x,r,rs,S,rfl,hT.same s1,bP,hB,ev,hp,hd,s1 _ _ hx,L,hc,hR.same s1,cS,bS,s1 _ _ h1,s1 _ _ h2,s1 _ _ h5,s1 _ _ h6,s1 _ _ h4,s1 _ _ h7,s1 _ _ h8,λi tm bo H2 F KI s2=>q i tm bo H2 F KI (s1.trans s2)⟩
end
end CM
set_option maxHeartbeats 1000000
namespace CM
open PySem L2
section
variable{P:Program}{w:World}{K:PySem.W.Frag}{mg:Str->Option Value}{base:Heap}
theorem CU(m:List (List Int))(r:List Int)(S:List (List Int)):SeqAt.shaped (.tuple [uN m,qD r,uN S])=true:=by
 have h1:=mL m
 have h3:=mL S
 have h2:PyData.depthAll (r.map PyData.int)<=0:=by
  induction r with
  |nil=>exact Nat.le_refl _
  |cons a r ih=>simp only[List.map_cons,PyData.depthAll,PyData.depth];omega
 simp only[SeqAt.shaped,PyData.canLay0,PyData.canLayAll0,PyData.depth,PyData.depthAll,n9,PySem.W.ke_canLayAll0,Bool.true_and,decide_eq_true_eq]
 exact decide_eq_true (show _<=64 by omega)
theorem Oh{K:PySem.W.Frag}{H:Hp}{p t b r:Addr}{bs rs:List Addr}{m S:List (List Int)}{x:List Int}(e:H p=some (.tup [.ref t,.ref b,.ref r]))(h1:Tab H t bs m)(h2:H b=some (.lst (x.map V.int)))(h3:Tab H r rs S):Ak K H (.ref p) (.tuple [uN m,qD x,uN S]):=
 .tup (pN.of e) (.cons (DO h1) (.cons (Cr (aS.of h2)) (.cons (DO h3) .nil)))
def Oi(T1 T2 T3 T4 T5 T6 T7 T8:Addr):Sp:=λvs H Q _=> ∃(t:Addr) (bs:List Addr) (m:List (List Int)) (n:Nat) (b:Addr) (x:Nat->Int) (r:Addr) (rs:List Addr) (S:List (List Int)) (du:Bool),vs=[.ref t,.int (n:Int),.ref b,.ref r,.bl du]/\Tab H t bs m/\bI m/\Bd 440 m/\cj m/\dj m=true/\aX m/2<=200/\(n:Int)∈([3,5,7,11,13]:List Int)/\aX m/2%(n:Int)≠0/\cM H b x/\jf (n:Int) x/\aL m x%(n:Int)=0/\Tab H r rs S/\bI S/\Bd 330 S/\H T1=some (bN T1)/\H T2=some (bN T2)/\H T3=some (bN T3)/\H T4=some (bN T4)/\H T5=some (bN T5)/\H T6=some (bN T6)/\H T7=some (bN T7)/\H T8=some (bN T8)/\(∃k,aL m (dY n x k)%((n:Int)*n)=0/\(∀j,j<k-> ¬aL m (dY n x j)%((n:Int)*n)=0)/\(du=true↔mE m n x (dY n x k) S))/\ ∀H',az H H'->Q (.bl true) H'
theorem xg{aU aO aD aP cg aY bT bB:Addr}(F:eT K mg "_law_asked" m8 iF)(eX:mg "list"=none)(cB:mg "isinstance"=none)(r8:mg "bool"=none)(gu:cQ P w K mg base cC 12 "_law_copy" gY Cz)(sH:cQ P w K mg base cC 12 "is_step" mz (ye aU aO aD aP cg aY bT bB)):cQ P w K mg base cC 13 "_law_asked" iF (Oi aU aO aD aP cg aY bT bB):=by
 refine F.ok lE (λvs H Q E h=> ?_) (λf cdv A outer s H vs Q E hr h=> ?_)
 ·obtain⟨t,bs,m,n,b,x,r,rs,S,du,rfl,hT,bP,hB,ev,ab,le,hp,hd,hx,L,hc,hR,cS,bS,h1,h2,h3,h4,h5,h6,h7,h8,WE,q⟩:=h
  rfl
 obtain⟨t,bs,m,n,b,x,r,rs,S,du,rfl,hT,bP,hB,ev,ab,le,hp,hd,hx,L,hc,hR,cS,bS,h1,h2,h3,h4,h5,h6,h7,h8,WE,q⟩:=h
 have hu:=hr.units
 refine⟨_,(lV (@ay _ _ _ _ _ (aW (i:=5) lE.nd rfl (Or.inl rfl) (yr (af (aN gu hr rfl aM (af (pv 0) ak)) (af (gv ir rfl eX PyProof.Rows.boot_list (af (pv 2) ak)) (af (aN gu hr rfl aM (af (pv 3) ak)) ak)))))
  (@ay _ _ _ _ _ (aW (i:=6) lE.nd rfl (Or.inl rfl) (aN sH hr rfl aM (af (aF BL (pv 5) ah (λ_ _=>rfl)) (af (pv 1) (af (aF BL (pv 5) ah (λ_ _=>rfl)) (af (aF BL (pv 5) ah (λ_ _=>rfl)) ak))))))
  (@aK _ _ _ (aT (mG (bZ jc rfl cB PyProof.Rows.boot_isinstance (af (pv 6) (af (qy (v:= .ty "bool") rfl r8 PyProof.Rows.boot_bool rfl) ak))) (mG (d9 f6 (pv 6) (pv 4) (aZ _)) (pV (d9 (BU hu) (pv 5) (yr (af (pv 0) (af (pv 2) (af (pv 3) ak)))) (aZ _)))))))))),?_⟩
 obtain⟨k,ck,fk,hk⟩:=WE
 refine⟨_,rfl,t,bs,m,rfl,hT,bP,λa1 YD H1 s1 f1 _ _ _ T1=>⟨_,rfl,b,_,rfl,.inl (aS.of (s1 _ _ hx)),λg fg=> ?_⟩⟩
 have u1:=az.up (o:= .lst [.int (x 0),.int (x 1),.int (x 2)]) fg
 have WG:=s1.trans u1
 refine⟨_,rfl,r,rs,S,rfl,hR.same WG,cS,λa3 YE H3 s3 f3 _ _ _ T3=>⟨(by show 3<=sizeLine;decide),λP hP=> ?_⟩⟩
 have u3:=az.up (o:= .tup [.ref a1,.ref g,.ref a3]) hP
 have iM:=WG.trans (s3.trans u3)
 have eP:upd H3 P (.tup [.ref a1,.ref g,.ref a3]) P=some (.tup [.ref a1,.ref g,.ref a3]):=au
 have Tf:=(T1.same u1).same (s3.trans u3)
 have eg:=(s3.trans u3) _ _ (au (H:=H1) (a:=g) (o:= .lst [.int (x 0),.int (x 1),.int (x 2)]))
 have Ts:=T3.same u3
 refine⟨_,rfl,P,_,_,_,rfl,rfl,pN.of eP,rfl,_,rfl,_,rfl,P,_,_,_,rfl,rfl,pN.of eP,rfl,_,rfl,P,_,_,_,rfl,rfl,pN.of eP,rfl,a1,YD,m,n,g,x,a3,YE,S,rfl,Tf,bP,hB,ev,ab,le,hp,hd,eg,L,hc,Ts,cS,bS,iM _ _ h1,iM _ _ h2,iM _ _ h3,iM _ _ h4,iM _ _ h5,iM _ _ h6,iM _ _ h7,iM _ _ h8,λi tm bo H5 F KI s5=> ?_⟩
 obtain⟨tn,rfl⟩:∃tn:Nat,tm=(tn:Int):=⟨tm.toNat,by have:=F.lo;omega⟩
 obtain⟨_,k2,k3,k4⟩:=mS ev hp hc F
 have ek:gD n i tn=k:=qQ (P:=λk=>aL m (dY n x k)%((n:Int)*n)=0) k3 k4 ck fk
 have eb:bo=du:=by rw[Bool.eq_iff_iff,KI,hk,<-ek,Np k2]
 subst eb
 have Kc:=iM.trans s5
 refine⟨_,rfl,_,_,_,_,rfl,.bl _,qH K "bool",_,rfl,uF ⟨_,rfl,_,rfl,rfl,_,rfl,jo (λ_=> ?_) (λc=>absurd (decide_eq_true rfl) c)⟩⟩
 refine⟨_,rfl,_,rfl,_,rfl,_,rfl,(by show 3<=sizeLine;decide),λw hw=> ?_⟩
 have uw:=az.up (o:= .tup [.ref t,.ref b,.ref r]) hw
 have e1:Ak K _ (.ref P) (.tuple [uN m,qD [x 0,x 1,x 2],uN S]):=Oh (uw _ _ (s5 _ _ eP)) ((Tf.same s5).same uw) (uw _ _ (s5 _ _ eg)) ((Ts.same s5).same uw)
 have e2:Ak K _ (.ref w) (.tuple [uN m,qD [x 0,x 1,x 2],uN S]):=Oh au ((hT.same Kc).same uw) (uw _ _ (Kc _ _ hx)) ((hR.same Kc).same uw)
 exact DQ _ e1 e2 (CU _ _ _) (q _ (Kc.trans uw))
end
end CM
namespace L2
open PySem PySem.Spec PyProof.Rows
theorem zv{H:Hp}{B t:Addr}{bs:List Addr}{m:List (List Int)}(hb:gX H B)(T:Tab H t bs m)(h0:0<m.length)(h3:∀r∈m,r.length=3):t≠B/\B∉bs:=by
 obtain⟨g,s,e,_,_⟩:=hb
 refine⟨λz=> ?_,λz=> ?_⟩
 ·have h:=T.1
  rw[z,e]at h
  have l:=T.2.length
  cases bs with
  |nil=>
   cases m with
   |nil=>exact absurd h0 (by decide)
   |cons r m=>cases T.2
  |cons b bs=>cases h
 ·obtain⟨ok,_⟩:=rf T h3
  have h:=(ok B z).1
  rw[e]at h
  cases h
theorem KJ{K:PySem.W.Frag}{B D l:Addr}{H1:Hp}{xs:List V}{σ:St}{te:TE}{Q:VK}(hl:aS K H1 l xs)(nl:l≠B)(hD:H1 D=none)(hb:gX H1 B)(hz:xs.length<=sizeLine)(P:Int->Prop)
  (hs:∀(i:Nat) x H' (Q':VK),xs[i]?=some x->SB B H1 H'->(∀z H2,P z->SB B H' H2->Q' (.int z) H2) ->te (some x::σ) H' Q')
  (hq:∀(zs:List Int) H',zs.length=xs.length->(∀z∈zs,P z) ->SB B H1 H'->H' D=some (.lst (zs.map V.int)) ->Q (.ref D) H'):jt 1 (bV 0) te σ (NK K l) H1 D Q:=by
 have nD:D≠B:=hb.ne hD
 refine⟨λi m acc σ' H'=>m=xs.length-i/\i<=xs.length/\(∃o,σ'=o::σ)/\SB B H1 H'/\H' D=some (.lst acc)/\ ∃zs:List Int,acc=zs.map V.int/\zs.length=i/\ ∀z∈zs,P z,⟨xs.length,by simp,Nat.zero_le _,⟨none,rfl⟩,(SB.refl hb).tQ hD nD,au,[],rfl,rfl,λ_ h=>(nomatch h)⟩,?_⟩
 rintro i m acc σ' H' ⟨rfl,hi,⟨o,rfl⟩,sm,eD,zs,rfl,Vj,hP⟩
 have hl':=sm.seq nl hl
 by_cases hlt:i<xs.length
 ·refine .inr ⟨⟨xs,xs[i],hl',by simp[hlt]⟩,by rw[List.length_map,Vj];omega,λx H2 yl=> ?_⟩
  obtain⟨e,ex⟩:=yl
  subst e
  have ex:=ex xs hl'
  show te (some x::σ) H2 _
  refine hs i x H2 _ ex sm λz H3 hz' s3=> ?_
  refine⟨s3.1 _ _ nD eD,xs.length- (i+1),by omega,rfl,hlt,⟨_,rfl⟩,(sm.trans s3).tQ hD nD,au,zs++ [z],by simp,by simp[Vj],λy hy=> ?_⟩
  rcases List.mem_append.mp hy with w|w
  ·exact hP y w
  ·rw[List.mem_singleton.mp w];exact hz'
 ·have e:i=xs.length:=by omega
  subst e
  exact .inl ⟨⟨xs,hl',Nat.le_refl _⟩,eD,hq zs H' Vj hP sm eD⟩
theorem KL{B D:Addr}{H1:Hp}{n:Nat}{σ:St}{te:TE}{Q:VK}(hD:H1 D=none)(hb:gX H1 B)(hz:n<=sizeLine)(P:List Int->Prop)
  (hs:∀(i:Nat) H' (Q':VK),i<n->SB B H1 H'->(∀b x H2,H' b=none->P x->x.length=3->SB B H' H2->H2 b=some (.lst (x.map V.int)) ->Q' (.ref b) H2) ->te (some (.int (0+i))::σ) H' Q')
  (hq:∀(bs:List Addr) (m:List (List Int)) H',m.length=n->(∀x∈m,x.length=3/\P x) ->SB B H1 H'->Tab H' D bs m->Q (.ref D) H'):jt 1 (bV 0) te σ (Dz 0 n) H1 D Q:=by
 have nD:D≠B:=hb.ne hD
 refine⟨λi m acc σ' H'=>m=n-i/\i<=n/\(∃o,σ'=o::σ)/\SB B H1 H'/\H' D=some (.lst acc)/\ ∃bs:List Addr,acc=bs.map V.ref/\bs.length=i/\fW H' bs/\ ∀b∈bs,P (gr H' b),⟨n,by simp,Nat.zero_le _,⟨none,rfl⟩,(SB.refl hb).tQ hD nD,au,[],rfl,rfl,(λ_ h=>nomatch h),λ_ h=>(nomatch h)⟩,?_⟩
 rintro i m acc σ' H' ⟨rfl,hi,⟨o,rfl⟩,sm,eD,bs,rfl,hlb,ok,hP⟩
 by_cases hlt:i<n
 ·refine .inr ⟨hlt,by rw[List.length_map,hlb];omega,λx H2 yl=> ?_⟩
  obtain⟨e,ex⟩:=yl
  subst e ex
  show te (some (.int (0+i))::σ) H2 _
  refine hs i H2 _ hlt sm λb x H3 hbn hx lx s3 eb=> ?_
  have hB2:=sm.2
  have Ly:b≠B:=hB2.ne hbn
  have YF:b≠D:=λz=>by rw[z,eD]at hbn;cases hbn
  obtain⟨YG,WH⟩:=AX (b:=b) (H:=H3) (x:=ao x 0) (y:=ao x 1) (z:=ao x 2) (by
   rw[eb]
   conv=>lhs;rw[yb lx]
   rfl)
  rw[<-yb lx]at WH
  have YH:∀c∈bs,c≠B:=λc hc z=>by
   obtain⟨g,s,e,_,_⟩:=hB2
   have h:=(ok c hc).1
   rw[z,e]at h
   cases h
  have keep:∀c∈bs,∀o,H2 c=some o->upd H3 D (.lst (bs.map V.ref++ [.ref b])) c=some o:=λc hc o e=>by
   rw[aE (g8 (ok c hc) eD)]
   exact s3.1 _ _ (YH c hc) e
  have kb:=YG.keep (H':=upd H3 D (.lst (bs.map V.ref++ [.ref b]))) λo e=>by rw[aE YF];exact e
  refine⟨s3.1 _ _ nD eD,n- (i+1),by omega,rfl,hlt,⟨_,rfl⟩,(sm.trans s3).tQ hD nD,au,bs++ [b],by simp,by simp[hlb],λc hc=> ?_,λc hc=> ?_⟩
  ·rcases List.mem_append.mp hc with w|w
   ·exact((ok c w).keep (keep c w)).1
   ·rw[List.mem_singleton.mp w];exact kb.1
  ·rcases List.mem_append.mp hc with w|w
   ·rw[((ok c w).keep (keep c w)).2]
    exact hP c w
   ·rw[List.mem_singleton.mp w,kb.2,WH];exact hx
 ·have e:i=n:=by omega
  subst e
  refine .inl ⟨Nat.le_refl _,eD,hq bs (rws H' bs) H' (by rw[<-hlb];exact List.length_map _) (λx hx=> ?_) sm (ur eD ok)⟩
  obtain⟨b,hb',rfl⟩:=List.mem_map.mp hx
  exact⟨(ok b hb').2,hP b hb'⟩
theorem BC.append{H:Hp}:∀{xs ys:List V} {ds es:List PyData},BC H xs ds->BC H ys es->BC H (xs++ys) (ds++es)
 |_,_,_,_,.nil,q=>q
 |_,_,_,_,.cons a p,q=> .cons a (BC.append p q)
theorem Eu{X:Cx}{i:Nat}{x:Str}{e:Expr}{te:TE}{pos' pos:Pos}(hN:X.N.Nodup)(hi:X.N[i]?=some x)(hx:Loc X.env.scope x)(he:FE X e te)(hs:swapsWith e (some (.Name x pos')) pos.line X.env=pure false)(hf:X.fn x=true∨X.env.scope.names.lookup x=some .local):
  Hh X [.Assign [.Name x pos'] e pos] (zZ te (bV i)):=aK (aW hN hi hx he.h hs hf)
end L2
namespace zh
open PySem PyProof.Rows
section
variable{prog:Program}{w:World}{A:Around}{E:Value->Shared->Prop}{s:Shared}{κ:SortKind}{K:Keyed->Int}{D:Keyed->Prop}{st:SortSt}
theorem Nt(hL:CJ prog w A E s κ K D){Q:Unit->SortSt->Prop}(B:SB κ D st)(hp:pendingOf st= #[])(h64:(arrOf st).size<64)
  (hq:∀st',(arrOf st').Perm (arrOf st) ->failedOf st'=none->So K (arrOf st') 0 (arrOf st).size->Q () st'):wpS (model prog w) A E s sortRuns' Q st:=by
 rw[PV]
 refine wpS_bind (wpS_get ?_)
 dsimp only
 have mr:minRun' (arrOf st).size (arrOf st).size 0=(arrOf st).size:=by
  cases h:(arrOf st).size with
  |zero=>rfl
  |succ k=>
   rw[minRun'_succ,if_pos (by omega)]
 rw[mr]
 refine wpS_bind (wpS_mono (wpS_forRange (I:=λx c s1=>(x=0/\c=(none,0)/\s1=st)∨(c=(none,(arrOf st).size)/\(arrOf s1).Perm (arrOf st)/\failedOf s1=none/\So K (arrOf s1) 0 (arrOf st).size/\(pendingOf s1).size=1))
  (Q:=λc s1=>c=(none,(arrOf st).size)/\(arrOf s1).Perm (arrOf st)/\failedOf s1=none/\So K (arrOf s1) 0 (arrOf st).size/\(pendingOf s1).size<=1) ?_ ?_ (.inl ⟨rfl,rfl,rfl⟩)) ?_)
 ·rintro x c s1 _ hx (⟨rfl,rfl,rfl⟩|⟨rfl,h⟩)
  ·dsimp only
   refine zk (λc=>by omega) (λ_=> ?_)
   refine wpS_bind (w_count hL B (by omega) (by omega) λn s2 S2 n1 n2 Vk=> ?_)
   dsimp only
   have ZU:=S2.size
   have note:∀s3:SortSt,SC 0 s1 s3->So K (arrOf s3) 0 (arrOf s1).size-> ∀m,m=(arrOf s1).size-> ∀Q:ForInStep (Option Unit×Nat) ->SortSt->Prop,(∀s5,(arrOf s5).Perm (arrOf s1) ->failedOf s5=none->So K (arrOf s5) 0 (arrOf s1).size->(pendingOf s5).size=1->Q (.yield (none,(arrOf s1).size)) s5) ->wpS (model prog w) A E s (do
     modify λy=>setPending y ((pendingOf y).push (0,m,0))
     pure (ForInStep.yield ((none,0+m):Option Unit×Nat))) Q s3:=λs3 S3 Tc m em Q hQ=>by
    subst em
    rw[Nat.zero_add]
    refine wpS_bind (wpS_modify (wpS_pure (hQ _ S3.perm (S3.failed.trans B.failed) Tc ?_)))
    show((pendingOf s3).push _).size=1
    rw[S3.pend,hp]
    rfl
   by_cases hm:n<(arrOf s1).size
   ·rw[if_pos hm]
    refine wpS_bind (wpS_lift (wpAny_rule ⟨rfl,?_⟩))
    refine wpS_bind (RT hL (B.sc S2) (by omega) (by omega) Vk λs3 S3 Tc=> ?_)
    simp only[Bool.not_true,Bool.false_eq_true,if_false]
    refine wpS_bind (wpS_get ?_)
    rw[(S2.trans S3).pend,hp]
    have em:min ((arrOf s1).size-0) (arrOf s1).size=(arrOf s1).size:=by omega
    rw[em]at Tc
    exact note s3 (S2.trans S3) Tc _ em _ λs5 p f o q=> .inr ⟨rfl,p,f,o,q⟩
   ·rw[if_neg hm]
    have en:n=(arrOf s1).size:=by omega
    rw[en]at Vk
    refine wpS_bind (wpS_get ?_)
    rw[S2.pend,hp]
    exact note s2 S2 Vk _ en _ λs5 p f o q=> .inr ⟨rfl,p,f,o,q⟩
  ·dsimp only
   exact zk (λ_=>wpS_pure ⟨rfl,h.1,h.2.1,h.2.2.1,Nat.le_of_eq h.2.2.2⟩) (λc=>absurd (Nat.le_refl _) c)
 ·rintro c s1 (⟨h0,rfl,rfl⟩|⟨rfl,h⟩)
  ·have z:(arrOf s1).size=0:=by omega
   rw[z]
   exact⟨rfl,Array.Perm.refl _,B.failed,λi j _ h=>absurd h (Nat.not_lt_zero _),by rw[hp];decide⟩
  ·exact⟨rfl,h.1,h.2.1,h.2.2.1,Nat.le_of_eq h.2.2.2⟩
 ·rintro c s1 ⟨rfl,h1,h2,h3,h4⟩
  dsimp only
  refine wpS_bind (wpS_mono (wpS_forRange (I:=λ_ c s2=>c=(none,())/\s2=s1) (Q:=λc s2=>c=(none,())/\s2=s1) ?_ (λ_ _ h=>h) ⟨rfl,rfl⟩) ?_)
  ·rintro x c s2 _ hx ⟨rfl,rfl⟩
   refine wpS_bind (wpS_get ?_)
   exact zk (λc=>wpS_pure ⟨rfl,rfl⟩) (λc=>absurd h4 c)
  ·rintro c s2 ⟨rfl,rfl⟩
   exact wpS_pure (hq _ h1 h2 h3)
end
end zh
namespace L2
open PySem PySem.Spec PyProof.Rows PySem.Calls zh
section
variable{prog:Program}{w:World}{A:Around}{E:Value->Shared->Prop}{s:Shared}
theorem Nu{a kS:Addr}{P:PySem.Fin->Shared->Prop}{kf:V->Int}{ys:List V}{us:List Value}{keys:Array Value}{e1 e:Nat}(hk:q9 kf ys us keys.toList)(hn:kS≠a)(hz:us.length<=sizeLine)(h64:us.length<64)
  (ha:s.heap.get? a=some (seqObj "list" #[] e1))(hS:s.heap.get? kS=some (seqObj "list" keys e))
  (h:∀(zs:List V) (out:List Value) h' tk,zs.Perm ys->zs.Pairwise (λx y=>kf x<=kf y) ->Vals zs out->out.length=us.length->(∀b o,b≠a->b≠kS->s.heap.get? b=some o->h'.get? b=some o) ->(∃c,h'.get? a=some (seqObj "list" out.toArray c)) ->(∃o,h'.get? kS=some o) ->
   P (.done (.ret .none)) {s with heap:=h',toks:=tk}):wpAny (model prog w) A (ksk_end a false us.toArray e1 (.ref kS) keys) P E s:=by
 have kl:keys.toList.length=us.length:=by
  have:∀{ys:List V} {us ks:List Value},q9 kf ys us ks->ks.length=us.length:=λh=>by
   induction h with
   |nil=>rfl
   |cons t r _ ih=>simp[ih]
  exact this hk
 have kz:keys.size=us.length:=by rw[<-kl];exact(Array.length_toList ..).symm
 have WI:(keys.zip us.toArray).size=us.length:=by rw[Array.size_zip,kz,List.size_toArray,Nat.min_self]
 have zl:(keys.zip us.toArray).toList=keys.toList.zip us:=ksk_zip keys us
 have tail:∀st:SortSt,(arrOf st).Perm (keys.zip us.toArray) ->failedOf st=none->So (λp=>numOf p.1) (arrOf st) 0 us.length->wpAny (model prog w) A (ksk_tail a false e1 (.ref kS) st) P E s:=by
  intro st hp hf hs
  have pl:(arrOf st).toList.Perm (keys.toList.zip us):=by rw[<-zl];exact Array.perm_iff_toList_perm.mp hp
  obtain⟨tr,t1,t2,t3⟩:=hk.out
  obtain⟨Qy,p',e'⟩:=x8 pl tr t1
  have len:(arrOf st).toList.length=us.length:=by rw[pl.length_eq,List.length_zip,kl,Nat.min_self]
  have oz:((arrOf st).map (·.2)).size=us.length:=by rw[Array.size_map,<-len,Array.length_toList]
  have oe:((arrOf st).map (·.2)).toList=Qy.map λt=>t.1.2:=by
   rw[Array.toList_map,e',List.map_map]
   rfl
  unfold ksk_tail
  try dsimp only
  generalize(arrOf st).map (·.2)=ov at oz oe ⊢
  refine wpAny_bind (listUpdate_at hS rfl ?_ (by omega) (Nat.zero_le _))
  refine wpAny_bind (wpAny_letGo ?_)
  have WJ:=Heap.SameBut.update s.heap kS (Obj.mapSeq λ_=>(#[]:Array Value))
  have ha1:(s.heap.update kS (Obj.mapSeq λ_=>(#[]:Array Value))).get? a=some (seqObj "list" #[] e1):=(WJ.2 a hn.symm).trans ha
  have Qo:=Heap.SameBut.update (s.heap.update kS (Obj.mapSeq λ_=>(#[]:Array Value))) a (Obj.mapSeq λ_=>ov)
  refine wpAny_bind (seqEpoch_at ha1 rfl ?_)
  refine wpAny_bind (listUpdate_at ha1 rfl ?_ (Nat.zero_le _) (Nat.le_trans (Nat.le_of_eq oz) (Nat.le_succ_of_le hz)))
  rw[hf]
  simp only[bne_self_eq_false,Bool.false_eq_true,if_false]
  refine wpAny_pure (h (Qy.map Prod.snd) (Qy.map λt=>t.1.2) _ _ (by rw[t2];exact p'.map _) ?_ ?_ ?_ (λb o h1 h2 q=> ?_) ?_ ?_)
  ·have h2:=(PU (K:=λp=>numOf p.1) (a:=arrOf st) (lo:=0) (n:=us.length) (by rw[Nat.zero_add,<-len,Array.length_toList];exact Nat.le_refl _)).mp hs
   have e2:sl (arrOf st) 0 us.length=(arrOf st).toList:=by
    show((arrOf st).toList.drop 0).take us.length=_
    rw[List.drop_zero,List.take_of_length_le (by omega)]
   rw[e2,e',List.pairwise_map]at h2
   rw[List.pairwise_map]
   refine h2.imp_of_mem λ {x y} mx my q=> ?_
   obtain⟨_,k1,q1⟩:=t3 x (p'.mem_iff.mp mx)
   obtain⟨_,k2,q2⟩:=t3 y (p'.mem_iff.mp my)
   rw[q1,q2]at q
   exact q
  ·have:∀l:List (Keyed×V),(∀t∈l,RelV t.2 t.1.2) ->Vals (l.map Prod.snd) (l.map λt=>t.1.2):=λl=>by
    induction l with
    |nil=>intro _;exact .nil
    |cons t l ih=>intro hl;exact .cons (hl t List.mem_cons_self) (ih λz hz=>hl z (List.mem_cons_of_mem _ hz))
   exact this Qy λt ht=>(t3 t (p'.mem_iff.mp ht)).1
  ·rw[<-oe,<-oz,Array.length_toList]
  ·exact(Qo.2 b h1).trans ((WJ.2 b h2).trans q)
  ·rw[<-oe,Array.toArray_toList]
   exact⟨_,get?_update_seq ha1 λ_=>ov⟩
  ·exact⟨_,(Qo.2 kS hn).trans (get?_update_seq hS λ_=> #[])⟩
 unfold ksk_end
 try dsimp only
 simp only[Bool.false_eq_true,if_false]
 by_cases h2:us.toArray.size<2
 ·rw[if_pos h2,if_pos h2]
  refine wpAny_bind (wpAny_pure ?_)
  rw[StateT.run_pure]
  refine wpAny_bind (wpAny_pure ?_)
  try dsimp only
  refine tail (SortSt.mk' general' (keys.zip us.toArray) #[] 7 none) (Array.Perm.refl _) rfl (λi j hij hj=> ?_)
  rw[List.size_toArray]at h2
  have:i=j:=by omega
  subst this
  exact Int.le_refl _
 ·rw[if_neg h2,if_neg h2]
  rw[List.size_toArray]at h2
  rw[ksk_kind hk.ints (by omega)]
  refine wpAny_bind (wpAny_pure ?_)
  have R:zh.SB oneType' (λp=> ∃n t,p.1= .int n t) (SortSt.mk' oneType' (keys.zip us.toArray) #[] 7 none):=by
   refine⟨rfl,rfl,λp hp=> ?_⟩
   have wH:p∈(keys.zip us.toArray).toList:=hp
   rw[zl]at wH
   exact hk.ints.all p.1 (List.of_mem_zip (a:=p.1) (b:=p.2) wH).1
  refine wpAny_bind (wpAny_mono (Nt Gp (Q:=λ_ st'=>(arrOf st').Perm (keys.zip us.toArray)/\failedOf st'=none/\So (λp=>numOf p.1) (arrOf st') 0 (keys.zip us.toArray).size) R rfl (show(keys.zip us.toArray).size<64 by rw[WI];exact h64) λst' a1 a2 a3=>⟨a1,a2,a3⟩) ?_ λ_ _ e=>e)
  rintro⟨⟨⟩,st'⟩ s' ⟨rfl,hp,hf,hs⟩
  rw[WI]at hs
  try dsimp only
  exact tail st' hp hf hs
end
section
variable{X:Cx}{pins:List (Addr×Obj)}{σ:St}{H:Hp}{s:Shared}{B:Around}{a:Addr}{f:Value}{kf:V->Int}{ys:List V}{us:List Value}
theorem Gz(I:Inv X pins σ H s)(fa:ff X pins H a){n:Nat}(ha:s.heap.get? a=some (seqObj "list" us.toArray n))(r:Vals ys us)(hz:us.length<=sizeLine)(h64:us.length<64){E:Value->Shared->Prop}{P:PySem.Fin->Shared->Prop}
  (turn:∀(qw:List (Addr×Obj)) (v:V) (Hi:Hp) (u:Value) (si:Shared),v∈ys->az H Hi->RelV v u->Inv X qw σ Hi si->wpAny (model X.prog X.w) B (call f [u]) (EP X qw σ (λv' H'=>v'= .int (kf v)/\az Hi H')) (λ_ _=>False) si)
  (done:∀(Hn:Hp) (s':Shared) (zs:List V),Inv X pins σ (upd Hn a (.lst zs)) s'->az H Hn->Hn a=none->zs.Perm ys->zs.Pairwise (λx y=>kf x<=kf y) ->P (.done (.ret .none)) s'):
  wpAny (model X.prog X.w) B (ksk_tree a f false) P E s:=by
 have rl:=r.length
 unfold ksk_tree
 refine wpAny_bind (listItems_at ha rfl ?_)
 refine wpAny_bind (listUpdate_at ha rfl ?_ (by simpa using hz) (Nat.zero_le _))
 obtain⟨e1,ha1⟩:∃e1,(s.heap.update a (Obj.mapSeq λ_=> #[])).get? a=some (seqObj "list" #[] e1):=⟨_,get?_update_seq ha (λ_=> #[])⟩
 refine wpAny_bind (seqEpoch_at ha1 rfl ?_)
 refine wpAny_bind (wpAny_newTuple ?_ (by simpa using hz))
 refine wpAny_bind (wpAny_newList ?_ (Nat.zero_le _))
 refine wpAny_holding ?_
 have I1:Inv X pins σ H {s with heap:=s.heap.update a (Obj.mapSeq λ_=> #[])}:=I.qI (ch:=[a]) (t':=s.toks) (λb o hb e=>(Heap.get?_update_ne _ _ _ _ (by simpa using hb)).trans e) (λb hb=>by rw[List.mem_singleton.mp hb];exact fa)
 have I2:Inv X pins σ H {s with heap:=((s.heap.update a (Obj.mapSeq λ_=> #[])).push (seqObj "tuple" us.toArray 0))}:=I1.kept (t':=s.toks) λb o e=>Heap.get?_push_of_some _ e
 have I3:Inv X pins σ H {s with heap:=((s.heap.update a (Obj.mapSeq λ_=> #[])).push (seqObj "tuple" us.toArray 0)).push (seqObj "list" #[] 0)}:=I2.kept (t':=s.toks) λb o e=>Heap.get?_push_of_some _ e
 have fk:ff X pins H ((s.heap.update a (Obj.mapSeq λ_=> #[])).push (seqObj "tuple" us.toArray 0)).objs.size:=I2.BH (Nat.le_refl _) I2.fresh
 have WK:(((s.heap.update a (Obj.mapSeq λ_=> #[])).push (seqObj "tuple" us.toArray 0)).push (seqObj "list" #[] 0)).get? a=some (seqObj "list" #[] e1):=Heap.get?_push_of_some _ (Heap.get?_push_of_some _ ha1)
 have NT:(((s.heap.update a (Obj.mapSeq λ_=> #[])).push (seqObj "tuple" us.toArray 0)).push (seqObj "list" #[] 0)).get? ((s.heap.update a (Obj.mapSeq λ_=> #[])).push (seqObj "tuple" us.toArray 0)).objs.size=some (seqObj "list" #[] 0):=Heap.get?_push_size _ rfl
 have Vl:((s.heap.update a (Obj.mapSeq λ_=> #[])).push (seqObj "tuple" us.toArray 0)).objs.size≠a:=by
  have:=Heap.lt_size ha
  rw[size_push',Heap.size_update]
  exact Nat.ne_of_gt (Nat.lt_succ_of_lt this)
 generalize((s.heap.update a (Obj.mapSeq λ_=> #[])).push (seqObj "tuple" us.toArray 0)).objs.size=kS at fk NT Vl ⊢
 generalize((s.heap.update a (Obj.mapSeq λ_=> #[])).push (seqObj "tuple" us.toArray 0)).push (seqObj "list" #[] 0)=h3 at I3 WK NT ⊢
 show wpAny _ B (ksk_rest a f false us.toArray e1 (.ref kS)) P E {s with heap:=h3}
 have nc:∀(xs:Array Value) (m:Nat) (v:Option Value),(seqObj "list" xs m).data≠ .cell v:=λxs m v z=>nomatch z
 have I4:Inv X (Em pins a e1 kS #[] 0) σ H {s with heap:=h3}:=I3.jK λp hp=>by
  rcases List.mem_append.mp hp with hp|hp
  ·exact I3.pin p (List.mem_append_right _ hp)
  ·rcases List.mem_cons.mp hp with rfl|hp
   ·exact zp fa WK (nc _ _)
   ·rw[List.mem_singleton.mp hp]
    exact zp fk NT (nc _ _)
 unfold ksk_rest
 refine wpAny_bind (wpAny_rule ?_)
 first
  |rw[List.forIn_toArray]
  |(rw[<-Array.forIn_toList];simp only[List.toList_toArray])
 refine wpAny_bind (ksk_fold (λi s'=> ∃Hi ks e,Inv X (Em pins a e1 kS ks e) σ Hi s'/\az H Hi/\q9 kf (ys.take i) (us.take i) ks.toList) us 0 {s with heap:=h3} ⟨H, #[],0,I4,az.refl _,by simpa using q9.nil⟩ ?_ ?_)
 ·rintro j x s' hx ⟨Hi,ks,e,J,sm,hk⟩
  simp only[Nat.zero_add]at hk ⊢
  obtain⟨v,hv,rv⟩:=Vals.at r hx
  have hj:j<us.length:=(List.getElem?_eq_some_iff.mp hx).1
  refine wpAny_bind (wpAny_attempt (wpAny_mono (turn _ v Hi x s' (List.mem_of_getElem? hv) sm rv J) (λu s2 he=> ?_) λ_ _ hF=>hF.elim))
  obtain⟨v',H',J',ru,rfl,YI⟩:=he
  obtain⟨t,rfl⟩:∃t,u= .int (kf v) t:=ru
  have pa:=J'.pin (a,seqObj "list" #[] e1) (by simp)
  have pk:=J'.pin (kS,seqObj "list" ks e) (by simp)
  have kl:ks.size=j:=by
   have h1:=hk.ints.length
   rw[Array.length_toList,List.length_map,List.length_take,rl]at h1
   omega
  try dsimp only
  refine wpAny_bind (listUpdate_at pk.1 rfl ?_ (by omega) (Nat.le_trans (Nat.le_of_eq (Array.size_push ..)) (by omega)))
  obtain⟨c2,hc2⟩:∃c2,(s2.heap.update kS (Obj.mapSeq (·.push (.int (kf v) t)))).get? kS=some (seqObj "list" (ks.push (.int (kf v) t)) c2):=⟨_,get?_update_seq pk.1 (·.push (.int (kf v) t))⟩
  have ya:ys.take (j+1)=ys.take j++ [v]:=by rw[List.take_add_one,hv];simp
  have ua:us.take (j+1)=us.take j++ [x]:=by rw[List.take_add_one,hx];simp
  have ea:(ks.push (Value.int (kf v) t)).toList=ks.toList++ [Value.int (kf v) t]:=by simp
  have J1:Inv X pins σ H' s2:=J'.jK λp hp=>J'.pin p (List.mem_append_right _ (List.mem_append_left _ hp))
  have J2:Inv X pins σ H' {s2 with heap:=s2.heap.update kS (Obj.mapSeq (·.push (.int (kf v) t)))}:=J1.qI (ch:=[kS]) (t':=s2.toks) (λb o hb e=>(Heap.get?_update_ne _ _ _ _ (by simpa using hb)).trans e) (λb hb=>by rw[List.mem_singleton.mp hb];exact x9 fk pk.2.1)
  refine wpAny_pure ⟨rfl,H',ks.push (.int (kf v) t),c2,J2.jK λp hp=> ?_,sm.trans YI,by rw[ya,ua,ea];exact hk.snoc t rv⟩
  rcases List.mem_append.mp hp with hp|hp
  ·exact J2.pin p (List.mem_append_right _ hp)
  ·rcases List.mem_cons.mp hp with rfl|hp
   ·exact zp (x9 fa pa.2.1) ((Heap.get?_update_ne _ _ _ _ Vl.symm).trans pa.1) (nc _ _)
   ·rw[List.mem_singleton.mp hp]
    exact zp (x9 fk pk.2.1) hc2 (nc _ _)
 ·rintro s' ⟨Hi,ks,e,J,sm,hk⟩
  rw[Nat.zero_add,List.take_of_length_le (Nat.le_of_eq rl),List.take_of_length_le (Nat.le_refl _)]at hk
  have pa:=J.pin (a,seqObj "list" #[] e1) (by simp)
  have pk:=J.pin (kS,seqObj "list" ks e) (by simp)
  have J1:Inv X pins σ Hi s':=J.jK λp hp=>J.pin p (List.mem_append_right _ (List.mem_append_left _ hp))
  try dsimp only
  refine wpAny_bind (listItems_at pk.1 rfl ?_)
  refine Nu hk Vl hz h64 pa.1 pk.1 λzs out h' tk pz so vo ol keep hA hS=> ?_
  have J2:Inv X pins σ Hi {s' with heap:=h',toks:=tk}:=J1.qI (ch:=[a,kS]) (t':=tk) (λb o hb e=>keep b o (λz=>hb (by simp[z])) (λz=>hb (by simp[z])) e) (λb hb=>by
   rcases List.mem_cons.mp hb with rfl|hb
   ·exact x9 fa pa.2.1
   ·rw[List.mem_singleton.mp hb];exact x9 fk pk.2.1)
  obtain⟨c,hc⟩:=hA
  exact done Hi _ zs (J2.Ob (x9 fa pa.2.1) ⟨by rw[vo.length,ol];exact hz,out,c,vo,hc⟩) sm pa.2.1 pz so
theorem Be{l:Addr}{fa:Addr}(I:Inv X pins σ H s)(hq:aS X.K H l ys)(h64:ys.length<64){Q:VK}
  (turn:∀(qw:List (Addr×Obj)) (v:V) (Hi:Hp) (u:Value) (si:Shared),v∈ys->az H Hi->RelV v u->Inv X qw σ Hi si->wpAny (model X.prog X.w) X.A.in1.in1 (call (.ref fa) [u]) (EP X qw σ (λv' H'=>v'= .int (kf v)/\az Hi H')) (λ_ _=>False) si)
  (done:∀(Hn:Hp) (zs:List V),az H Hn->zs.Perm ys->zs.Pairwise (λx y=>kf x<=kf y) -> ∀p,Hn p=none->Q (.ref p) (upd Hn p (.lst zs))):
  wpAny (model X.prog X.w) X.A (call (.builtin "sorted") [.ref l] [(Str.ofString "key",.ref fa)]) (EP X pins σ Q) X.xe s:=by
 obtain⟨us,r,pl,hz⟩:=I.list hq
 have hz':us.length<=sizeLine:=by rw[<-r.length];exact hz
 refine call_function_entry_kw kind_sorted plain_sorted entry_sorted (ksk_s1 _ _) ?_
 unfold Builtin.«sorted»
 refine wpAny_bind (m:=checkCount "sorted" 1 1 _) (wpAny_pure ?_)
 refine wpAny_bind (collect_list pl.isList ?_ hz')
 refine wpAny_bind (wpAny_newList ?_ (by simpa using hz'))
 have z1:((s.heap.push (seqObj "list" #[] 0)).update s.heap.objs.size (Obj.mapSeq (· ++us.toArray))).objs.size=s.heap.objs.size+1:=by
  rw[Heap.size_update,size_push']
 generalize hg:((s.heap.push (seqObj "list" #[] 0)).update s.heap.objs.size (Obj.mapSeq (· ++us.toArray)))=h1 at z1
 have keep:∀b o,s.heap.get? b=some o->(h1.push (seqObj "list" us.toArray 0)).get? b=some o:=λb o e=>by
  have lb:=Heap.lt_size e
  refine Heap.get?_push_of_some _ ?_
  rw[<-hg,Heap.get?_update_ne _ _ _ _ (Nat.ne_of_lt lb)]
  exact Heap.get?_push_of_some _ e
 have Sn:(h1.push (seqObj "list" us.toArray 0)).get? (s.heap.objs.size+1)=some (seqObj "list" us.toArray 0):=by
  rw[<-z1];exact Heap.get?_push_size _ rfl
 have I1:Inv X pins σ H {s with heap:=h1.push (seqObj "list" us.toArray 0)}:=I.kept (t':=s.toks) keep
 have YJ:ff X pins H (s.heap.objs.size+1):=I.BH (Nat.le_succ _) (I.hok.fresh (Nat.le_succ _))
 show wpAny _ _ _ _ _ {s with heap:=h1.push (seqObj "list" us.toArray 0)}
 rw[z1]
 refine wpAny_bind (wpAny_holding (wpAny_call_entry_kw slot_list_sort ⟨_,Sn,rfl⟩ entry_list_sort ?_ (ksk_l1 _ _)))
 show wpAny (model X.prog X.w) X.A.in1.in1 (Builtin.«list.sort» ⟨[.ref (s.heap.objs.size+1)],[(Str.ofString "key",.ref fa)]⟩) _ _ _
 rw[ksk_t1]
 refine Gz I1 YJ Sn r hz' (by rw[<-r.length];exact h64) turn λHn s' zs J sm hn pz so=>⟨_,rfl,?_⟩
 exact wpAny_pure ⟨_,rfl,.ref (s.heap.objs.size+1),_,J,rfl,done Hn zs sm pz so _ hn⟩
end
def Ew(tb:TE)(K:PySem.W.Frag)(P:Addr)(σ:St)(x:V)(H1:Hp)(Q:VK):Prop:=∃(l:Addr) (ys:List V) (kf:V->Int),x= .ref l/\aS K H1 l ys/\ys.length<64/\H1 P=some .BE/\
 (∀v∈ys,∀Hi,az H1 Hi->tb (some v::σ) Hi λv' H'=>v'= .int (kf v)/\az Hi H')/\
 ∀(Hn:Hp) (zs:List V),az H1 Hn->zs.Perm ys->zs.Pairwise (λx y=>kf x<=kf y) -> ∀p,Hn p=none->Q (.ref p) (upd Hn p (.lst zs))
def Nv(tb:TE)(K:PySem.W.Frag)(P:Addr)(te:TE):TE:=λσ H Q=>te σ H λx H1=>Ew tb K P σ x H1 Q
section
variable{X:Cx}{P:Addr}{te tb:TE}{e body:Expr}{args:Arguments}{sc:Scope}{x:Str}{N2:List Str}{p pos Kx kpos:Pos}
theorem GA(hc:X.calm=true){k:Nat}(hr:gC (k+3) X.A)(cd:fY X.K X.env.code P)(bm:BM X.mg X.base)(Aj:Gl X "sorted")(hm:X.mg "sorted"=none)(he:PE X e te)(hB:RU sc X.env.scope.names [x] N2 X.N=true)
  (hbind:∀qual cl pm c ctv u,bindArgs (PySem.W.kla_fn "<lambda>" qual args body sc cl pm c ctv) ⟨[u],[]⟩=pure [(x,u)])
  (hbody:∀q f cd s H,PE (X.lam X.A.in1.in1 sc ([x]++N2) q f cd s H) body tb)
  (hdef:defaultsOf args X.env=([],[]):=by rfl)
  (hkw:keywordEach [⟨some "key",.Lambda args body sc Kx,kpos⟩] X.env=[(some (Str.ofString "key"),eval (.Lambda args body sc Kx) X.env)]:=by rfl)
  (hse:starEach [e] X.env=(false,eval e X.env)::starEach [] X.env:=by rfl)(hst:backTo pos (starEach [e] X.env)=(false,eval e X.env)::backTo pos (starEach [] X.env):=by rfl)
  (hpl:(backTo pos (starEach [e] X.env)).any (·.1)=false:=by rfl):PE X (.Call (.Name "sorted" p) [e] [⟨some "key",.Lambda args body sc Kx,kpos⟩] pos) (Nv tb X.K P te):=by
 intro pins s σ H Q I h
 unfold RU at hB
 simp only[Bool.and_eq_true]at hB
 obtain⟨⟨⟨⟨⟨h1,h2⟩,h3⟩,h4⟩,h5⟩,h6⟩:=hB
 have Bk:=jr h1
 have nc:∀y∈sc.names,y.2≠ .cell:=λy hy=>by
  have q:=List.all_eq_true.mp h5 y hy
  simpa using q
 have hx:sc.names.lookup x=some .local:=by
  have q:=List.all_eq_true.mp h6 x (by simp)
  simpa using q
 refine wpAny_Call_Name_kw (jU I Aj hm PyProof.Rows.boot_sorted ?_)
 refine PyProof.Rows.callWith_kw (fN ((af he ak hse) pos pins s σ H (λvs H1=>match vs with| [v]=>Ew tb X.K P σ v H1 Q|_=>False) I h) λus s1 ⟨vs,H1,I1,r,q⟩=> ?_) hst hpl
 match vs,r,q with
 | [v],r,q=>
  obtain⟨l,ys,kf,rfl,hq,h64,hP,step,fin⟩:=q
  obtain⟨u,rfl,ru⟩:=vals1 r
  cases ru
  show wpAny _ _ (evalAll [do let v<-eval (.Lambda args body sc Kx) X.env;standAt pos;pure v]) _ _ s1
  refine wpAny_evalAll_cons (wpAny_bind (Gn I1 cd hP bm Bk hdef λf H2 s2 I2 sm fr L=>wpAny_bind (wpAny_standAt (wpAny_pure (wpAny_evalAll_nil ?_)))))
  refine Be (kf:=kf) I2 (Kw hq sm) h64 (λqw v Hi u si hv WL rv J=> ?_) λHn zs YK pz so=>fin Hn zs (sm.trans YK) pz so
  exact Ni J (L.same WL) Bk (by simpa using h2) (by simpa using h3) (by simpa using h4) nc hx hbind J.ok.frames (J.ok.hd hc) hr.depth (λq cd=>hbody q f cd si Hi) rv (step v hv Hi (sm.trans WL))
end
end L2
set_option maxHeartbeats 1000000
namespace CM
open PySem L2
section
variable{P:Program}{w:World}{K:PySem.W.Frag}{mg:Str->Option Value}{base:Heap}
def rg:Nat->Nat
 |0=>256
 |1=>48*(256*(256*256)*256)
 |_=>48*((48*(256*(256*256)*256))*((48*(256*(256*256)*256))*(48*(256*(256*256)*256)))*(48*(256*(256*256)*256)))
def Bf(T0:Addr):Sp:=λvs H Q _=> ∃(r:Addr) (as:List Addr) (R T:List (List Int)),vs=[.ref r]/\Tab H r as R/\(∀x∈R,x.length=3)/\R.length=4/\Ent R 256/\pH T R/\aX T≠0/\H T0=some .BE/\
 ∀F fs l H',az H H'->H l=none->Tab H' l fs F->bI F->zg F R->Ent F (rg 2) ->Q (.ref l) H'
theorem vH{bq:Addr}(F:nO K mg "_law_stairs" lD gO bq)(bm:BM mg base)(eX:mg "list"=none)(aJ:mg "range"=none)(gB:mg "len"=none)(vI:mg "sorted"=none)(mC:mg "abs"=none)(nU:mg "zip"=none):cQ P w K mg base cC 6 "_law_stairs" gO (Bf bq):=by
 refine F.ok b8 (λvs H Q E h=> ?_) (λf cdv A outer s H vs Q E cd hr h=> ?_)
 ·obtain⟨r,as,R,T,rfl,hT,h3,h4,hE,bs,nd,hC,q⟩:=h
  rfl
 obtain⟨r,as,R,T,rfl,hT,h3,h4,hE,bs,nd,hC,q⟩:=h
 have hu:=hr.units
 refine⟨_,(lV (@ay _ _ _ _ _ (rH (i:=1) b8.nd rfl rfl (N2:=["_law_rows_here","_law_left","_law_found","_law_k","_law_some","_law_at","_law_q"]) (te:=(Hf (yG K) (bE (aH 0) gF))) rfl (cJ (pv 0)) (by kernel_rfl) rfl (λ_ _ _=>by exact dU (gv ir rfl eX PyProof.Rows.boot_list (af (pv 0) ak))))
  (@ay _ _ _ _ _ (aW (i:=2) b8.nd rfl (Or.inl rfl) (gS ak))
  (@ay _ _ _ _ _ (jm PassesOwn.never rfl (bg rfl aJ (af ah ak)) (bL (i:=3) b8.nd rfl (Or.inr rfl)) (lV (@ay _ _ _ _ _ (qM (i:=4) b8.nd rfl rfl (N2:=["_law_rows_here","_law_left","_law_found","_law_k","_law_some","_law_at","_law_q"]) (tt:=(lT (dH NN (dH (gc K) (aH 0) (aH 4)) (tC (.int 0))))) (te:=(aH 0)) rfl (cJ (pv 1)) (by kernel_rfl) rfl (λ_ _ _=>by exact tP (bz kQ (aF aq (pv 0) (pv 4) (λ_ _=>rfl)) ah (aZ _))) (λ_ _ _=>by exact dU (pv 0)))
  (@ay _ _ _ _ _ (HE PassesOwn.never (bz xJ (bZ eE rfl gB PySem.boot_len (af (pv 4) ak)) ah (aZ _)) (lV (@ay _ _ _ _ _ (aW (i:=4) b8.nd rfl (Or.inl rfl) (GA (N2:=["_law_rows_here","_law_left","_law_found","_law_k","_law_some","_law_at","_law_q"]) (tb:=(Hf UK (bE (dH (gc K) (aH 0) (aH 4)) gF))) rfl hr cd bm rfl vI (pv 4) (by kernel_rfl) (λ_ _ _ _ _ _=>rfl) (λ_ _ _ _ _=>by exact dU (bZ n5 rfl mC PyProof.Rows.boot_abs (af (aF aq (pv 0) (pv 4) (λ_ _=>rfl)) ak)))))
  (@ay _ _ _ _ _ (jm PassesOwn.never rfl (xH rfl aJ (af ah (af (bZ eE rfl gB PySem.boot_len (af (pv 4) ak)) ak))) (bL (i:=5) b8.nd rfl (Or.inl rfl)) (lV (@ay _ _ _ _ _ (aW (i:=6) b8.nd rfl (Or.inr rfl) (av Gq (aF aq (aF aq (pv 4) (pv 5) (λ_ _=>rfl)) (pv 3) (λ_ _=>rfl)) (aF aq (aF aq (pv 4) ah (λ_ _=>rfl)) (pv 3) (λ_ _=>rfl))))
  (@aK _ _ _ (kY (Iv (N2:=["_law_rows_here","_law_left","_law_found","_law_k","_law_some","_law_at","_law_q"]) (te:=(dH (z9 λi j=> .int (i-j)) (aH 0) (dH (rI iu λi j=> .int (i*j)) (aH 8) (aH 1)))) rfl (yL rfl nU (af (aF aq (pv 4) (pv 5) (λ_ _=>rfl)) (af (aF aq (pv 4) ah (λ_ _=>rfl)) ak))) (by kernel_rfl) rfl (λ_ _ _=>by exact dU (av fm (pv 0) (av bA (pv 8) (pv 1))))) (mJ (pv 4) (pv 5) set_list))))))
  (@ay _ _ _ _ _ (aW (i:=1) b8.nd rfl (Or.inl rfl) (av HS (pB (N2:=["_law_rows_here","_law_left","_law_found","_law_k","_law_some","_law_at","_law_q"]) (tt:=(lT (dH DA (dH (gc K) (aH 0) (aH 4)) (tC (.int 0))))) (te:=(aH 0)) rfl (cJ (pv 1)) (by kernel_rfl) rfl (λ_ _ _=>by exact tP (bz f6 (aF aq (pv 0) (pv 4) (λ_ _=>rfl)) ah (aZ _))) (λ_ _ _=>by exact dU (pv 0))) (pB (N2:=["_law_rows_here","_law_left","_law_found","_law_k","_law_some","_law_at","_law_q"]) (tt:=(lT (dH DA (dH (gc K) (aH 0) (aH 4)) (tC (.int 0))))) (te:=(aH 0)) rfl (cJ (pv 4)) (by kernel_rfl) rfl (λ_ _ _=>by exact tP (bz f6 (aF aq (pv 0) (pv 4) (λ_ _=>rfl)) ah (aZ _))) (λ_ _ _=>by exact dU (pv 0)))))
  (@aK _ _ _ (qM (i:=4) b8.nd rfl rfl (N2:=["_law_rows_here","_law_left","_law_found","_law_k","_law_some","_law_at","_law_q"]) (tt:=(lT (dH NN (dH (gc K) (aH 0) (aH 4)) (tC (.int 0))))) (te:=(aH 0)) rfl (cJ (pv 4)) (by kernel_rfl) rfl (λ_ _ _=>by exact tP (bz kQ (aF aq (pv 0) (pv 4) (λ_ _=>rfl)) ah (aZ _))) (λ_ _ _=>by exact dU (pv 0)))))))))
  (@ay _ _ _ _ _ (qM (i:=1) b8.nd rfl rfl (N2:=["_law_rows_here","_law_left","_law_found","_law_k","_law_some","_law_at","_law_q"]) (tt:=(lT (dH DA (dH (gc K) (aH 0) (aH 4)) (tC (.int 0))))) (te:=(aH 0)) rfl (cJ (pv 1)) (by kernel_rfl) rfl (λ_ _ _=>by exact tP (bz f6 (aF aq (pv 0) (pv 4) (λ_ _=>rfl)) ah (aZ _))) (λ_ _ _=>by exact dU (pv 0)))
  (@aK _ _ _ (mH (xP PySem.F.plainAttrs_list PySem.F.slot_list_append PySem.F.type_list_append iO (pv 2) (af (aF aq (pv 4) ah (λ_ _=>rfl)) ak)))))))))
  (@aK _ _ _ (aT (pv 2))))))),?_⟩
 obtain⟨ZV,YL⟩:=rf hT h3
 have ZW:as.length=4:=by
  rw[<-h4,<-YL]
  exact(List.length_map _).symm
 refine⟨_,rfl,r,rfl,⟨_,aS.of hT.1⟩,λD hD=>Au hT (by rw[h4];decide) hD λcs H1 s1 fr nD nn T1=> ?_⟩
 obtain⟨YM,Vm⟩:=rf T1 h3
 refine⟨(by show 0<=sizeLine;decide),λG hG=> ?_⟩
 have uG:=az.up (o:= .lst []) hG
 have sG:=s1.trans uG
 obtain⟨YN,WM⟩:=YM.same uG
 refine⟨3,rfl,by decide,by decide,fh (n:=3) (λk σ H'=> ∃o3 o4 o5 o6 Ll la fa,σ=[some (.ref r),some (.ref Ll),some (.ref G),o3,o4,o5,o6]/\az H H'/\H' Ll=some (.lst (la.map V.ref))/\H' G=some (.lst (fa.map V.ref))/\fW H' la/\fW H' fa/\la.length<=4/\
  SY k (rws H' fa)/\Qx k (rws H' la)/\zg (rws H' fa++rws H' la) R/\Ent (rws H' la) (rg k)/\Ent (rws H' fa) (rg 2)) ⟨_,_,_,_,D,cs,[],rfl,sG,uG _ _ T1.1,au,YN,(λb hb=>nomatch hb),?_,⟨rfl,λi hi=>absurd hi (Nat.not_lt_zero _)⟩,(λx _ j hj=>absurd hj (Nat.not_lt_zero _)),?_,?_,(λx hx=>nomatch hx)⟩ (λk σ H2 hk hh=> ?_) (λσ H2 hh=> ?_)⟩
 ·have:cs.length=(rws H1 cs).length:=(List.length_map _).symm
  rw[this,Vm,h4]
  decide
 ·rw[WM,Vm]
  exact zg.refl R
 ·rw[WM,Vm]
  exact hE
 rotate_left
 ·obtain⟨o3,o4,o5,o6,Ll,la,fa,rfl,s2,eL,eG,Td,Te,ll,tr,ze,sp,WN,Vn⟩:=hh
  have T2:=ur eG Te
  refine⟨_,rfl,q _ fa G H2 s2 (s1.none hG) T2 ⟨tr.1,λx hx=> ?_⟩ ?_ Vn⟩
  ·obtain⟨b,hb,rfl⟩:=List.mem_map.mp hx
   exact(Te b hb).2
  ·refine zg.trans (λM c=>⟨λh=>dw.mpr ⟨h,λx hx=> ?_⟩,λh=>(dw.mp h).1⟩) sp
   exact c.ext _ _ c.zero λj hj=>(ze x hx j hj).symm
 obtain⟨o3,o4,o5,o6,Ll,la,fa,rfl,s2,eL,eG,Td,Te,ll,tr,ze,sp,WN,Vn⟩:=hh
 have fG:H G=none:=s1.none hG
 rw[Int.zero_add]
 have EC:∀(neg:Bool) {Hx Hy:Hp} {as:List Addr} (v:V) (x:Addr),fW Hx as->az Hx Hy->v∈as.map V.ref-> ∃b,b∈as/\v= .ref b/\Hy b=some (.lst [.int (ao (gr Hx b) 0),.int (ao (gr Hx b) 1),.int (ao (gr Hx b) 2)]):=λneg {Hx Hy as} v x ok s hv=>by
  obtain⟨b,hb,rfl⟩:=List.mem_map.mp hv
  exact⟨b,hb,rfl,s _ _ (ok b hb).1⟩
 have KN:∀{as:List Addr},as.length<=4->(as.map V.ref).length<=sizeLine:=λh=>by
  rw[List.length_map]
  exact Nat.le_trans h (by decide)
 refine⟨_,rfl,Ll,rfl,⟨_,aS.of eL⟩,λS hS=>dM (c8 (aS.of eL)) (KN ll) hS (λv=> !vz H2 k v) id (λv hv Ha Rr sa kk=> ?_) (λv hv pv Ha Q' sa kk=> ?_) (λH3 s3 e3=> ?_)⟩
 ·obtain⟨b,hb,rfl,eb⟩:=EC true v 0 Td sa hv
  exact⟨_,rfl,_,rfl,b,_,_,_,rfl,rfl,aS.of eb,ju (ao (gr H2 b)) hk,rfl,_,rfl,by rw[AY];exact kk Ha (az.refl _)⟩
 ·exact⟨v,rfl,kk Ha (az.refl _)⟩
 rw[Ep]at e3
 have YO:=s2.trans s3
 obtain⟨RZ,Nx⟩:=Td.same s3
 obtain⟨Vo,Qc⟩:=Te.same s3
 have YQ:yc H3 k la=yc H2 k la:=List.filter_congr λb hb=>by rw[((Td b hb).keep (s3 b)).2]
 rw[<-YQ]at e3
 have Vp:Qx k (rws H3 la):=by rw[Nx];exact ze
 have KO:∀b∈yc H3 k la,b∈la/\ao (gr H3 b) k≠0:=λb hb=>by
  obtain⟨h1,h2⟩:=List.mem_filter.mp hb
  exact⟨h1,by simpa using h2⟩
 have okN:fW H3 (yc H3 k la):=λb hb=>RZ b (KO b hb).1
 have Tg:Ent (rws H3 la) (rg k):=by rw[Nx];exact WN
 have cnt:(BD H3 k la).length+(yc H3 k la).length=la.length:=by
  exact vF (λb=>decide (ao (gr H3 b) k=0)) la
 have YR:zg (rws H3 fa++(tX k (rws H3 la)++rws H3 (yc H3 k la))) R:=by
  refine zg.trans (λM c=> ?_) sp
  rw[Qc,dw,dw,dw,<-Nx,AU k (rws H3 la),CP]
 have neN:yc H3 k la≠ []:=by
  obtain⟨x,hx,hxk⟩:=Nj hk tr ze sp bs nd
  rw[<-Nx]at hx
  obtain⟨b,hb,rfl⟩:=List.mem_map.mp hx
  intro z
  have:b∈yc H3 k la:=List.mem_filter.mpr ⟨hb,by simpa using hxk⟩
  rw[z]at this
  cases this
 obtain⟨E0,YS,Sa⟩:∃E0:Nat,(∀x∈rws H3 la,∀j,j<3->j≠k->(ao x j).natAbs<=E0)/\max (48*(E0*(rg k*rg k)*rg k)) (rg k)<=rg (k+1):=by
  rcases aB hk with rfl|rfl|rfl
  ·exact⟨rg 0,λx hx j hj _=>Tg x hx j hj,by decide⟩
  ·exact⟨rg 1,λx hx j hj _=>Tg x hx j hj,by decide+kernel⟩
  ·refine⟨0,λx hx j hj hj2=> ?_,by decide+kernel⟩
   rw[Vp x hx j (by omega)]
   exact Nat.le_refl _
 obtain⟨m0,W0⟩:=Wk.start (k:=k) (S:=rws H3 (yc H3 k la)) (B:=rg k) (E:=E0) (by
  intro z
  exact neN (List.map_eq_nil_iff.mp z)) (by rw[show(rws H3 (yc H3 k la)).length=(yc H3 k la).length from List.length_map _];omega) (λx hx=>by
  obtain⟨b,hb,rfl⟩:=List.mem_map.mp hx
  exact(KO b hb).2) (λx hx j hj hjk=>by
  obtain⟨b,hb,rfl⟩:=List.mem_map.mp hx
  exact YS _ (List.mem_map_of_mem (KO b hb).1) j hj hjk) (λx hx=>by
  obtain⟨b,hb,rfl⟩:=List.mem_map.mp hx
  exact Tg _ (List.mem_map_of_mem (KO b hb).1) k hk)
 generalize hZ:48*(E0*(rg k*rg k)*rg k)=Z at W0 Sa
 have M0:Mid k (rws H3 fa) (rws H3 la) (rws H3 (yc H3 k la)) R Z (rg k) (rg (k+1)):=by
  refine⟨?_,?_,Vp,λx hx=> ?_,YR,λx hx j hj=> ?_,E0,_,m0,false,W0,Nat.le_refl _⟩
  ·rw[<-sD]
   have e1:(rws H3 (BD H3 k la)).length=(BD H3 k la).length:=List.length_map _
   have e2:(rws H3 (yc H3 k la)).length=(yc H3 k la).length:=List.length_map _
   omega
  ·have e1:(rws H3 la).length=la.length:=List.length_map _
   omega
  ·obtain⟨b,hb,rfl⟩:=List.mem_map.mp hx
   exact Vp _ (List.mem_map_of_mem (KO b hb).1)
  ·have h1:=(List.mem_filter.mp hx).1
   have:=Tg x h1 j hj
   have h2:rg k<=rg (k+1):=Nat.le_trans (Nat.le_max_right _ _) Sa
   omega
 have zB:Z<=rg (k+1):=Nat.le_trans (Nat.le_max_left _ _) Sa
 have stK:rg (k+1)<=rg 2:=by rcases aB hk with rfl|rfl|rfl<;>decide+kernel
 have big:rg 2<2^160:=by decide+kernel
 refine HK (λσ H'=> ∃o5 o6 Lw Sw la' sa,σ=[some (.ref r),some (.ref Lw),some (.ref G),some (.int (k:Int)),some (.ref Sw),o5,o6]/\az H3 H'/\H' Lw=some (.lst (la'.map V.ref))/\H' Sw=some (.lst (sa.map V.ref))/\fW H' la'/\fW H' sa/\
  Mid k (rws H3 fa) (rws H' la') (rws H' sa) R Z (rg k) (rg (k+1))) (Vh k) ⟨_,_,Ll,S,la,yc H3 k la,rfl,az.refl _,s3 _ _ eL,e3,RZ,okN,M0⟩ (λσ H' hh=> ?_) ?_
 rotate_left
 ·rintro σ H' Q Q' h ⟨v,h1,p,ys,e1,e2,i,j,e3,e4,b,e5,h2⟩
  exact⟨v,h1,p,ys,e1,e2,i,j,e3,e4,b,e5,h _ _ h2⟩
 obtain⟨o5,o6,Lw,Sw,la',sa,rfl,s4,Vq,Th,Vr,Vs,md⟩:=hh
 have WO:(rws H' sa).length=sa.length:=List.length_map _
 have Vt:(rws H' la').length=la'.length:=List.length_map _
 have RM:=YO.trans s4
 refine⟨_,rfl,Sw,_,rfl,.inl (aS.of Th),_,_,rfl,rfl,_,rfl,jo (λc=> ?_) (λc=> ?_)⟩
 rotate_left
 ·--one row is left
  have c1:¬1<(rws H' sa).length:=by
   rw[WO]
   intro z
   apply c
   refine decide_eq_true ?_
   rw[List.length_map]
   omega
  obtain⟨Vu,Vv⟩:=Vo.same s4
  obtain⟨x,ex,Qy,YT,YU,bx⟩:=md.done hk (by rw[Qc];exact tr) c1
  obtain⟨Sb,YV,rfl⟩:∃b,sa=[b]/\gr H' b=x:=by
   match sa,ex with
   | [b],ex=>exact⟨b,rfl,by injection ex⟩
  subst YV
  have Vw:H' G=some (.lst (fa.map V.ref)):=(s3.trans s4) _ _ eG
  refine⟨_,rfl,Lw,rfl,⟨_,aS.of Vq⟩,λD hD=>dM (c8 (aS.of Vq)) (KN (by rw[<-Vt];exact md.ll)) hD (λv=>vz H' k v) id (λv hv Ha Rr sa' kk=> ?_) (λv hv pv Ha Q' sa' kk=> ?_) (λH5 s5 e5=> ?_)⟩
  ·obtain⟨b,hb,rfl,eb⟩:=EC true v 0 Vr sa' hv
   exact⟨_,rfl,_,rfl,b,_,_,_,rfl,rfl,aS.of eb,ju (ao (gr H' b)) hk,rfl,_,rfl,by rw[AY];exact kk Ha (az.refl _)⟩
  ·exact⟨v,rfl,kk Ha (az.refl _)⟩
  rw[Eo]at e5
  have WQ:=s5 _ _ Vw
  have Sd:D≠G:=λz=>by rw[z,Vw]at hD;cases hD
  have YW:fa.length=k:=by
   rw[<-tr.1]
   exact(List.length_map _).symm
  have keep:∀{as:List Addr},fW H' as-> ∀b∈as,∀o,H' b=some o->upd H5 G (.lst (fa.map V.ref++ [.ref Sb])) b=some o:=λok b hb o e=>by
   rw[aE (g8 (ok b hb) Vw)]
   exact s5 _ _ e
  have WR:fW H' (BD H' k la'):=λb hb=>Vr b (List.mem_filter.mp hb).1
  have WS:fW H' (fa++ [Sb]):=λb hb=>by
   rcases List.mem_append.mp hb with hb|hb
   ·exact Vu b hb
   ·exact Vs b hb
  obtain⟨k1,k2⟩:=WR.keep (keep WR)
  obtain⟨k3,k4⟩:=WS.keep (keep WS)
  have Vx:rws H' (fa++ [Sb])=rws H3 fa++ [gr H' Sb]:=by
   rw[kC,Vv]
   rfl
  refine⟨_,rfl,.inl ⟨rfl,_,aS.of WQ⟩,_,rfl,Sw,_,_,_,rfl,rfl,aS.of (s5 _ _ Th),l6,G,_,_,rfl,rfl,WQ,(by rw[List.length_map,YW];exact Nat.lt_of_lt_of_le hk (by decide)),?_⟩
  refine⟨_,_,_,_,D,BD H' k la',fa++ [Sb],rfl,((RM.trans s5).trans (az.refl _)).upd fG,by rw[aE Sd];exact e5,by rw[List.map_append];exact au,k1,k3,?_,?_,?_,?_,?_,?_⟩
  ·exact Nat.le_trans (List.length_filter_le _ _) (by rw[<-Vt];exact md.ll)
  ·rw[k4,Vx]
   exact Qy
  ·rw[k2,sD]
   exact YT
  ·rw[k4,k2,Vx,sD]
   exact YU
  ·rw[k2,sD]
   exact md.en
  ·rw[k4,Vx]
   intro x hx j hj
   rcases List.mem_append.mp hx with hx|hx
   ·rw[Qc]at hx
    exact Vn x hx j hj
   ·rw[List.mem_singleton.mp hx]
    exact Nat.le_trans (bx j hj) (Nat.le_trans Sa stK)
 have l2:2<=sa.length:=by
  have:=of_decide_eq_true c
  rw[List.length_map]at this
  omega
 refine⟨_,rfl,Sw,_,(λv=>((kW H' k v:Nat):Int)),rfl,aS.of Th,(by have:=md.cn;rw[WO]at this;rw[List.length_map];omega),RM _ _ hC,(λv hv Hi si=> ?_),λHn zs sn pz so p hp=> ?_⟩
 ·obtain⟨b,hb,rfl,eb⟩:=EC true v 0 Vs si hv
  exact⟨_,rfl,_,rfl,b,_,_,_,rfl,rfl,aS.of eb,ju (ao (gr H' b)) hk,_,rfl,congrArg V.int (show(if ao (gr H' b) k<0 then-ao (gr H' b) k else ao (gr H' b) k)=((ao (gr H' b) k).natAbs:Int)by split<;>omega),az.refl _⟩
 obtain⟨sb,rfl,Vy⟩:=Gs pz
 have lsb:sb.length=sa.length:=Vy.length_eq
 obtain⟨y0,dh,rfl⟩:∃y0 dh,sb=y0::dh:=by
  cases sb with
  |nil=>simp at lsb;omega
  |cons y r=>exact⟨y,r,rfl⟩
 have l1:dh.length+1=sa.length:=by rw[<-lsb];rfl
 have perm:(rws H' sa).Perm (gr H' y0::rws H' dh):=(Vy.symm.map (gr H'))
 have PR:∀x∈rws H' dh,(ao (gr H' y0) k).natAbs<=(ao x k).natAbs:=λx hx=>by
  obtain⟨b,hb,rfl⟩:=List.mem_map.mp hx
  have h1:((kW H' k (.ref y0):Nat):Int)<=((kW H' k (.ref b):Nat):Int):=(List.pairwise_cons.mp so).1 (V.ref b) (List.mem_map_of_mem hb)
  exact Int.ofNat_le.mp h1
 have YX:rws H' dh≠ []:=by
  intro z
  have:dh=[]:=List.map_eq_nil_iff.mp z
  rw[this]at l1
  simp at l1
  omega
 obtain⟨Vz,WT⟩:=md.step hk zB perm YX PR
 have VA:∀b∈y0::dh,CO H' b/\ao (gr H' b) k≠0/\ ∀j,j<3->(ao (gr H' b) j).natAbs<=rg 2:=λb hb=>by
  have hb':b∈sa:=Vy.mem_iff.mp hb
  obtain⟨h1,h2⟩:=md.small _ (List.mem_map_of_mem hb')
  exact⟨Vs b hb',h1,λj hj=>Nat.le_trans (h2 j hj) (Nat.le_trans Sa stK)⟩
 have fp:H' p=none:=sn.none hp
 have YY:az H' (upd Hn p (.lst ((y0::dh).map V.ref))):=sn.upd fp
 have hn:((((y0::dh).map V.ref).length:Int) -1).toNat=dh.length:=by
  rw[List.length_map,List.length_cons]
  omega
 refine⟨_,rfl,p,_,rfl,.inl (aS.of au),1,_,rfl,⟨by decide,by decide,by omega,by rw[List.length_map,List.length_cons];have:=md.cn;omega⟩,fh (lo:=1) (λi σ Hc=> ∃o5 o6 new,σ=[some (.ref r),some (.ref Lw),some (.ref G),some (.int (k:Int)),some (.ref p),o5,o6]/\az H' Hc/\Hc p=some (.lst ((y0::(new++dh.drop i)).map V.ref))/\new.length=i/\fW Hc new/\
  rws Hc new=dQ k (gr H' y0) ((rws H' dh).take i)) ⟨_,_,[],rfl,YY,au,rfl,(λb hb=>nomatch hb),rfl⟩ (λi σ Hc hi hc=> ?_) (λσ Hc hc=> ?_)⟩
 ·rw[hn]at hi
  obtain⟨o5,o6,new,rfl,sc,ec,ln,GB,Ti⟩:=hc
  have YZ:dh[i]∈y0::dh:=List.mem_cons_of_mem _ (List.getElem_mem hi)
  obtain⟨Za,nr,br⟩:=VA _ YZ
  obtain⟨VB,ny,bY⟩:=VA y0 List.mem_cons_self
  have er:=sc _ _ Za.1
  have ey:=sc _ _ VB.1
  have eI:(1:Int)+(i:Int)=((i+1:Nat):Int):=by omega
  have gI:((y0::(new++dh.drop i)).map V.ref)[i+1]?=some (.ref dh[i]):=by
   rw[List.getElem?_map,List.getElem?_cons_succ,List.getElem?_append_right (by omega),ln,Nat.sub_self,List.getElem?_drop,Nat.add_zero,List.getElem?_eq_getElem hi]
   rfl
  have WU:ug ((y0::(new++dh.drop i)).map V.ref) (1+(i:Int))=some (.ref dh[i]):=by
   rw[eI]
   exact yu gI
  have Tj:ug ((y0::(new++dh.drop i)).map V.ref) 0=some (.ref y0):=l6
  have b4:(rg 2:Nat)<2^4096:=Nat.lt_trans big (by decide+kernel)
  refine⟨_,rfl,_,rfl,p,_,_,_,rfl,rfl,aS.of ec,WU,_,rfl,dh[i],_,_,_,rfl,rfl,aS.of er,ju (ao (gr H' dh[i])) hk,_,rfl,p,_,_,_,rfl,rfl,aS.of ec,Tj,_,rfl,y0,_,_,_,rfl,rfl,aS.of ey,ju (ao (gr H' y0)) hk,_,_,rfl,rfl,⟨ny,Nat.lt_of_le_of_lt (bY k hk) b4⟩,?_⟩
  refine⟨_,rfl,_,rfl,p,_,_,_,rfl,rfl,aS.of ec,WU,_,rfl,p,_,_,_,rfl,rfl,aS.of ec,Tj,dh[i],y0,_,_,rfl,aS.of er,aS.of ey,λD hD=>Aq (aS.of er) (aS.of ey) rfl (by show 3<=sizeLine;decide) hD (λu v=>match u,v with| .int a,.int b=> .int (a- (ao (gr H' dh[i]) k).fdiv (ao (gr H' y0) k)*b)|_,_=> .gP) (λn u v eu ev Ha Q' sa' kk=> ?_) (λHx sx ex=> ?_)⟩
  ·have VC:n<3:=(List.getElem?_eq_some_iff.mp eu).1
   obtain⟨a1,a2,a3,a4,a5⟩:=g7 (x:=ao (gr H' dh[i]) k) ny
   have q1:((ao (gr H' dh[i]) k).fdiv (ao (gr H' y0) k)).natAbs<2^4096:=by
    have h1:=br k hk
    have h2:=bY k hk
    have h3:((ao (gr H' dh[i]) k).fdiv (ao (gr H' y0) k)).natAbs*1<=((ao (gr H' dh[i]) k).fdiv (ao (gr H' y0) k)).natAbs*(ao (gr H' y0) k).natAbs:=Nat.mul_le_mul_left _ (by omega)
    have b5:2*rg 2<2^4096:=by decide+kernel
    omega
   have RQ:u= .int (ao (gr H' dh[i]) n):=by
    rcases aB VC with rfl|rfl|rfl<;>exact(Option.some.inj eu).symm
   have ev':v= .int (ao (gr H' y0) n):=by
    rcases aB VC with rfl|rfl|rfl<;>exact(Option.some.inj ev).symm
   subst RQ ev'
   exact⟨_,rfl,_,rfl,_,rfl,_,_,rfl,rfl,⟨q1,Nat.lt_of_le_of_lt (bY n VC) b4⟩,_,_,rfl,rfl,kk⟩
  obtain⟨Qz,Se⟩:=AX (b:=D) ex
  have WV:D≠p:=λz=>by rw[z,ec]at hD;cases hD
  refine⟨_,rfl,_,rfl,p,_,_,i+1,rfl,rfl,sx _ _ ec,?_,_,_,new++ [D],rfl,(sc.trans sx).upd fp,?_,?_,?_,?_⟩
  ·unfold Lu
   rw[if_pos (by omega),if_pos (by rw[List.length_map,List.length_cons,List.length_append,List.length_drop];omega)]
   congr 1
   omega
  ·rw[au,List.map_cons,List.set_cons_succ,List.map_append,List.set_append_right _ _ (by rw[List.length_map];omega),List.length_map,ln,Nat.sub_self,List.drop_eq_getElem_cons hi,List.map_cons,List.set_cons_zero]
   simp[-List.map_drop]
  ·rw[List.length_append,ln]
   rfl
  ·intro b hb
   rcases List.mem_append.mp hb with hb|hb
   ·exact((GB b hb).keep λo e=>by rw[aE (g8 (GB b hb) ec)];exact sx _ _ e).1
   ·rw[List.mem_singleton.mp hb]
    exact(Qz.keep λo e=>by rw[aE WV];exact e).1
  ·have k1:=(GB.keep (H':=upd Hx p (.lst (((y0::(new++dh.drop i)).map V.ref).set (i+1) (.ref D)))) λb hb o e=>by rw[aE (g8 (GB b hb) ec)];exact sx _ _ e).2
   have k2:=(Qz.keep (H':=upd Hx p (.lst (((y0::(new++dh.drop i)).map V.ref).set (i+1) (.ref D)))) λo e=>by rw[aE WV];exact e).2
   have li:i<(rws H' dh).length:=by
    rw[show(rws H' dh).length=dh.length from List.length_map _]
    exact hi
   rw[kC,k1,Ti,Gu _ _ _ _ li]
   congr 1
   show [gr _ D]=_
   rw[k2,Se]
   have:(rws H' dh)[i]=gr H' dh[i]:=List.getElem_map _
   rw[this]
   rfl
 rw[hn]at hc
 obtain⟨o5,o6,new,rfl,sc,ec,ln,GB,Ti⟩:=hc
 rw[List.drop_of_length_le (Nat.le_refl _),List.append_nil]at ec
 rw[List.take_of_length_le (by rw[show(rws H' dh).length=dh.length from List.length_map _];exact Nat.le_refl _)]at Ti
 obtain⟨Sf,VD⟩:=Vr.same sc
 obtain⟨VB,Zb⟩:=(VA y0 List.mem_cons_self).1.keep (sc y0)
 have Tn:fW Hc (y0::new):=λb hb=>by
  rcases List.mem_cons.mp hb with rfl|hb
  ·exact VB
  ·exact GB b hb
 have WW:rws Hc (y0::new)=gr H' y0::dQ k (gr H' y0) (rws H' dh):=by
  show gr Hc y0::rws Hc new=_
  rw[Zb,Ti]
 have WX:=sc _ _ Vq
 have ZX:=Vz.ll
 rw[<-VD,<-WW,<-sD,<-sD,<-kC]at Vz
 rw[<-WW]at WT
 have l4:la'.length<=4:=by rw[<-Vt];exact md.ll
 have lp:(y0::new).length<=4:=by
  have:=md.cn
  rw[List.length_cons,ln]
  omega
 refine⟨_,rfl,Lw,rfl,⟨_,aS.of WX⟩,λD1 Zc=>dM (c8 (aS.of WX)) (KN l4) Zc (λv=>vz Hc k v) id (λv hv Ha Rr sa' kk=> ?_) (λv hv pv Ha Q' sa' kk=> ?_) (λH5 s5 e5=> ?_)⟩
 ·obtain⟨b,hb,rfl,eb⟩:=EC true v 0 Sf sa' hv
  exact⟨_,rfl,_,rfl,b,_,_,_,rfl,rfl,aS.of eb,ju (ao (gr Hc b)) hk,rfl,_,rfl,by rw[AY];exact kk Ha (az.refl _)⟩
 ·exact⟨v,rfl,kk Ha (az.refl _)⟩
 have VE:=s5 _ _ ec
 refine⟨_,rfl,p,rfl,⟨_,aS.of VE⟩,λD2 qX=>dM (c8 (aS.of VE)) (KN lp) qX (λv=>vz Hc k v) id (λv hv Ha Rr sa' kk=> ?_) (λv hv pv Ha Q' sa' kk=> ?_) (λH6 s6 e6=> ?_)⟩
 ·obtain⟨b,hb,rfl,eb⟩:=EC true v 0 Tn (s5.trans sa') hv
  exact⟨_,rfl,_,rfl,b,_,_,_,rfl,rfl,aS.of eb,ju (ao (gr Hc b)) hk,rfl,_,rfl,by rw[AY];exact kk Ha (az.refl _)⟩
 ·exact⟨v,rfl,kk Ha (az.refl _)⟩
 rw[Eo]at e5 e6
 have Zd:=s6 _ _ e5
 have Ze:(BD Hc k la').length<=4:=Nat.le_trans (List.length_filter_le _ _) l4
 have Zf:(BD Hc k (y0::new)).length<=4:=Nat.le_trans (List.length_filter_le _ _) lp
 refine⟨D1,D2,_,_,rfl,rfl,Zd,e6,(by rw[List.length_map,List.length_map];exact Nat.le_trans (Nat.add_le_add Ze Zf) (by decide)),λp4 VF=> ?_⟩
 have s7:az H6 (upd H6 p4 (.lst ((BD Hc k la').map V.ref++(BD Hc k (y0::new)).map V.ref))):=az.up VF
 have WY:=s7 _ _ (s6 _ _ VE)
 refine⟨_,rfl,p,rfl,⟨_,aS.of WY⟩,λD3 VG=>dM (c8 (aS.of WY)) (KN lp) VG (λv=> !vz Hc k v) id (λv hv Ha Rr sa' kk=> ?_) (λv hv pv Ha Q' sa' kk=> ?_) (λH8 s8 e8=> ?_)⟩
 ·obtain⟨b,hb,rfl,eb⟩:=EC true v 0 Tn (s5.trans (s6.trans (s7.trans sa'))) hv
  exact⟨_,rfl,_,rfl,b,_,_,_,rfl,rfl,aS.of eb,ju (ao (gr Hc b)) hk,rfl,_,rfl,by rw[AY];exact kk Ha (az.refl _)⟩
 ·exact⟨v,rfl,kk Ha (az.refl _)⟩
 rw[Ep]at e8
 have sA:az Hc H8:=s5.trans (s6.trans (s7.trans s8))
 have Zg:fW Hc (BD Hc k la'++BD Hc k (y0::new)):=λb hb=>by
  rcases List.mem_append.mp hb with hb|hb
  ·exact Sf b (List.mem_filter.mp hb).1
  ·exact Tn b (List.mem_filter.mp hb).1
 have Zh:fW Hc (yc Hc k (y0::new)):=λb hb=>Tn b (List.mem_filter.mp hb).1
 obtain⟨a1,a2⟩:=Zg.same sA
 obtain⟨b1,b2⟩:=Zh.same sA
 refine⟨⟨_,_,p4,D3,BD Hc k la'++BD Hc k (y0::new),yc Hc k (y0::new),rfl,s4.trans (sc.trans sA),?_,e8,a1,b1,?_⟩,?_⟩
 ·rw[List.map_append]
  exact s8 _ _ au
 ·rw[a2,b2,CP]
  exact Vz
 ·rw[KC Th]
  refine Nat.lt_of_le_of_lt (Nat.le_of_eq (KC e8)) ?_
  rw[b2,CP]
  exact WT
end
end CM
namespace L2
open PySem PySem.Spec PyProof.Rows
section
variable{X:Cx}
theorem vJ:∀{zs:List Int} {its:List Value},Vals (zs.map V.int) its->IntsAre its zs
 | [],_,r=>by
  cases r
  exact .nil
 |z::zs,_,r=>by
  cases r with
  |cons h r=>
   obtain⟨t,rfl⟩:=h
   exact .cons z t (vJ r)
def Oj(K:PySem.W.Frag):List V->Hp->VK->Prop:=λxs H Q=> ∃p zs,xs=[.ref p]/\aS K H p ((zs:List Int).map V.int)/\Q (.int zs.sum) H
theorem xh(hc:X.calm=true):nZ X (.builtin "sum") (Oj X.K):=by
 intro pins s σ H xs us Q I r h
 obtain⟨p,zs,rfl,hq,q⟩:=h
 obtain⟨u,rfl,rx⟩:=vals1 r
 cases rx
 obtain⟨its,rv,pl,hz⟩:=I.list hq
 have ia:=vJ rv
 obtain⟨ys,ey⟩:=ia.allInts.items
 have WZ:=pl.isList
 rw[ey]at WZ
 refine sum_intListG (I.ok.hd hc) WZ λh' tk t' hk=> ?_
 refine⟨.int zs.sum,H,I.kept (t':=tk) hk,⟨t',?_⟩,q⟩
 have e1:numsOf (intItems ys).toList=zs:=by rw[<-ey];exact ia.numsOf
 rw[nums_intItems]at e1
 rw[preSum_eq,List.take_of_length_le (by simp),e1]
end
end L2
set_option maxHeartbeats 1000000
namespace CM
open PySem L2
section
variable{P:Program}{w:World}{K:PySem.W.Frag}{mg:Str->Option Value}{base:Heap}
def Ex:Sp:=λvs H Q _=> ∃(t1:Addr) (b1:List Addr) (m1:List (List Int)) (t2:Addr) (b2:List Addr) (m2:List (List Int)),vs=[.ref t1,.ref t2]/\Tab H t1 b1 m1/\Tab H t2 b2 m2/\bI m1/\bI m2/\Bd 1000 m1/\Bd 1000 m2/\ ∀t bs H',az H H'->H t=none->Tab H' t bs (ie m1 m2) ->Q (.ref t) H'
theorem tY(F:eT K mg "_law_product" kg gj)(qY:mg "sum"=none)(aJ:mg "range"=none):cQ P w K mg base cC 1 "_law_product" gj Ex:=by
 refine F.ok jy (λvs H Q E h=> ?_) (λf cdv A outer s H vs Q E hr h=> ?_)
 ·obtain⟨t1,b1,m1,t2,b2,m2,rfl,h1,h2,c1,c2,d1,d2,q⟩:=h
  rfl
 obtain⟨t1,b1,m1,t2,b2,m2,rfl,h1,h2,c1,c2,d1,d2,q⟩:=h
 have hu:=hr.units
 refine⟨_,(lV (@ay _ _ _ _ _ (aW (i:=2) jy.nd rfl (Or.inl rfl) (gS ak))
  (@ay _ _ _ _ _ (jm PassesOwn.never rfl (cJ (pv 0)) (bL (i:=3) jy.nd rfl (Or.inr rfl)) (dz (mH (xP PySem.F.plainAttrs_list PySem.F.slot_list_append PySem.F.type_list_append iO (pv 2) (af (dZ (N2:=["_law_one","_law_other","_law_made","_law_row"]) (te:=(Hf (Oj K) (bE (jJ 1 (sY (bE (tC (.int 3)) gF)) (bV 0) (dH (rI iu λi j=> .int (i*j)) (dH (gc K) (aH 5) (aH 0)) (dH (gc K) (dH (gc K) (aH 3) (aH 0)) (aH 1)))) gF))) rfl (bg rfl aJ (af ah ak)) (by kernel_rfl) rfl (λ_ _ _=>by exact dU (bZ (xh rfl) rfl qY PyProof.Rows.boot_sum (af (dZ (N2:=["_law_j","_law_one","_law_other","_law_made","_law_row"]) (te:=(dH (rI iu λi j=> .int (i*j)) (dH (gc K) (aH 5) (aH 0)) (dH (gc K) (dH (gc K) (aH 3) (aH 0)) (aH 1)))) rfl (bg rfl aJ (af ah ak)) (by kernel_rfl) rfl (λ_ _ _=>by exact dU (av bA (aF aq (pv 5) (pv 0) (λ_ _=>rfl)) (aF aq (aF aq (pv 3) (pv 0) (λ_ _=>rfl)) (pv 1) (λ_ _=>rfl))))) ak)))) ak)))))
  (@aK _ _ _ (aT (pv 2)))))),?_⟩
 refine⟨(by show 0<=sizeLine;decide),λG hG=> ?_⟩
 have u1:=az.up (o:= .lst []) hG
 have l3:(b1.map V.ref).length=3:=by rw[List.length_map,<-h1.2.length,c1.1]
 refine⟨_,rfl,t1,rfl,⟨_,aS.of (h1.same u1).1⟩,HJ (xs:=b1.map V.ref) (λj σ H'=> ∃o cs,σ=[some (.ref t1),some (.ref t2),some (.ref G),o]/\az H H'/\H' G=some (.lst (cs.map V.ref))/\cs.length=j/\fW H' cs/\rws H' cs=(ie m1 m2).take j) ⟨_,[],rfl,u1,au,rfl,(λb hb=>nomatch hb),rfl⟩ (λj σ H' _ hh=> ?_) (λj v σ H' ev hh=> ?_) (λσ H' hh=> ?_)⟩
 ·obtain⟨_,_,_,s1,_⟩:=hh
  exact aS.of (h1.same s1).1
 ·obtain⟨o,cs,rfl,s1,eG,lc,Ny,rc⟩:=hh
  have hj:j<3:=by have:=(List.getElem?_eq_some_iff.mp ev).1;rw[l3]at this;exact this
  obtain⟨b,x1,x2,_⟩:=bf (h1.same s1) c1 hj
  have ev':v= .ref b:=by
   have q1:=fz ev
   rw[x1]at q1
   exact(Option.some.inj q1).symm
  subst ev'
  refine⟨_,rfl,.inl ⟨rfl,_,aS.of eG⟩,3,rfl,by decide,by decide,λD hD=>eZ (dI (n:=3)) rfl hD (λk=>ent (ie m1 m2) j k) (λk y hk ey H2 Q2 s2 k2=> ?_) (λH2 s2 e2=> ?_)⟩
  ·obtain⟨_,rfl⟩:=cz ey
   refine⟨3,rfl,by decide,by decide,λD2 qX=>eZ (dI (n:=3)) rfl qX (λi=>ent m1 j i*ent m2 i k) (λi z hi ez H3 Q3 s3 k3=> ?_) (λH3 s3 e3=> ?_)⟩
   ·obtain⟨_,rfl⟩:=cz ez
    have sm:=s1.trans (s2.trans s3)
    obtain⟨c,row,f1,f2,f3⟩:=qF (h2.same sm) c2 hi hk
    exact⟨_,rfl,_,rfl,b,_,_,_,rfl,rfl,aS.of (s3 _ _ (s2 _ _ x2)),ju (λi=>ent m1 j i) hi,_,rfl,_,rfl,t2,_,_,_,rfl,rfl,aS.of (h2.same sm).1,f1,_,rfl,c,_,_,_,rfl,rfl,aS.of f2,f3,_,_,rfl,rfl,⟨aG (d1 j i hj hi) (by decide),aG (d2 i k hi hk) (by decide)⟩,k3 H3 (az.refl _)⟩
   ·refine⟨D2,[ent m1 j 0*ent m2 0 k,ent m1 j 1*ent m2 1 k,ent m1 j 2*ent m2 2 k],rfl,aS.of e3,?_⟩
    have e: [ent m1 j 0*ent m2 0 k,ent m1 j 1*ent m2 1 k,ent m1 j 2*ent m2 2 k].sum=ent (ie m1 m2) j k:=by
     rw[aV m1 m2 hj hk]
     simp only[List.sum_cons,List.sum_nil]
     omega
    rw[e]
    exact k2 H3 s3
  ·obtain⟨Qz,Se⟩:=AX (b:=D) e2
   have Sd:D≠G:=λz=>by rw[z,eG]at hD;cases hD
   have fG:H G=none:=hG
   refine⟨G,_,_,rfl,rfl,s2 _ _ eG,(by rw[List.length_map,lc];exact Nat.lt_of_lt_of_le hj (by decide)),?_⟩
   have keep:∀b∈cs,∀o,H' b=some o->upd H2 G (.lst (cs.map V.ref++ [.ref D])) b=some o:=λb hb o e=>by
    rw[aE (g8 (Ny b hb) eG)]
    exact s2 _ _ e
   obtain⟨k1,k2⟩:=Ny.keep keep
   obtain⟨k3,k4⟩:=Qz.keep (H':=upd H2 G (.lst (cs.map V.ref++ [.ref D]))) λo e=>by rw[aE Sd];exact e
   refine⟨_,cs++ [D],rfl,(s1.trans s2).upd fG,by rw[List.map_append];exact au,by rw[List.length_append,lc];rfl,λb hb=> ?_,?_⟩
   ·rcases List.mem_append.mp hb with hb|hb
    ·exact k1 b hb
    ·rw[List.mem_singleton.mp hb]
     exact k3
   ·rw[kC,k2,rc]
    show _++ [gr _ D]=_
    rw[k4,Se]
    rcases aB hj with rfl|rfl|rfl<;>rfl
 ·obtain⟨o,cs,rfl,s1,eG,lc,Ny,rc⟩:=hh
  refine⟨_,rfl,q G cs H' s1 hG ?_⟩
  have T:=ur eG Ny
  rw[rc,l3]at T
  exact T
def Ol:Sp:=λvs H Q _=> ∃(t:Addr) (bs:List Addr) (m:List (List Int)) (n:Nat) (b:Addr) (x:Nat->Int),vs=[.ref t,.int (n:Int),.ref b]/\Tab H t bs m/\bI m/\Bd 440 m/\(n:Int)∈([3,5,7,11,13]:List Int)/\cM H b x/\(∀i,i<3->(x i).natAbs<2^400)/\ ¬(aC m x 0%(n:Int)=0/\aC m x 1%(n:Int)=0/\aC m x 2%(n:Int)=0)/\ ∀(q:Nat) (u:Int) r rs H',q<3->u*(aC m x q%(n:Int))%(n:Int)=1->az H H'->H r=none->Tab H' r rs (mk3 λk j=>qv n q (λk=>aC m x k%(n:Int)*u%(n:Int)) k j) ->Q (.ref r) H'
theorem vK(F:eT K mg "_law_across" lC gM)(oO:mg "int"=none)(aJ:mg "range"=none)(bK:cQ P w K mg base cC 1 "_law_pairing" dO kX):cQ P w K mg base cC 2 "_law_across" gM Ol:=by
 refine F.ok dP (λvs H Q E h=> ?_) (λf cdv A outer s H vs Q E hr h=> ?_)
 ·obtain⟨t,bs,m,n,b,x,rfl,hT,bP,hB,hp,hx,bx,nz,q⟩:=h
  rfl
 obtain⟨t,bs,m,n,b,x,rfl,hT,bP,hB,hp,hx,bx,nz,q⟩:=h
 have hu:=hr.units
 refine⟨_,(lV (@ay _ _ _ _ _ (aW (i:=3) dP.nd rfl (Or.inr rfl) (dZ (N2:=["_law_form_here","_law_p","_law_up","_law_pairings","_law_place","_law_unmade","_law_made","_law_k'","_law_row"]) (te:=(dH (rI (λ_ j=>0<j) λi j=> .int (i%j)) (jW kX [] E0 (bE (aH 1) (bE (aH 3) (bE (jJ 1 (sY (bE (tC (.int 3)) gF)) (bV 0) (Hf (λxs H Q=>(∃i,xs=[.int i]/\Q (.int i) H)∨ ∃k,xs=[.bl k]/\Q (.int (if k then 1 else 0)) H) (bE (dH DA (aH 0) (aH 1)) gF))) gF)))) (aH 2))) rfl (bg rfl aJ (af ah ak)) (by kernel_rfl) rfl (λ_ _ _=>by exact dU (av cH (aN bK hr rfl aM (af (pv 1) (af (pv 3) (af (dZ (N2:=["_law_k","_law_form_here","_law_p","_law_up","_law_pairings","_law_place","_law_unmade","_law_made","_law_k'","_law_row"]) (te:=(Hf (λxs H Q=>(∃i,xs=[.int i]/\Q (.int i) H)∨ ∃k,xs=[.bl k]/\Q (.int (if k then 1 else 0)) H) (bE (dH DA (aH 0) (aH 1)) gF))) rfl (bg rfl aJ (af ah ak)) (by kernel_rfl) rfl (λ_ _ _=>by exact dU (gv pq rfl oO PyProof.Rows.boot_int (af (d9 f6 (pv 0) (pv 1) (aZ _)) ak)))) ak)))) (pv 2)))))
  (@ay _ _ _ _ _ (aW (i:=4) dP.nd rfl (Or.inr rfl) (aF aq (pB (N2:=["_law_form_here","_law_p","_law_up","_law_pairings","_law_place","_law_unmade","_law_made","_law_k'","_law_row"]) (tt:=(lT (dH NN (dH (gc K) (aH 4) (aH 0)) (tC (.int 0))))) (te:=(aH 0)) rfl (bg rfl aJ (af ah ak)) (by kernel_rfl) rfl (λ_ _ _=>by exact tP (bz kQ (aF aq (pv 4) (pv 0) (λ_ _=>rfl)) ah (aZ _))) (λ_ _ _=>by exact dU (pv 0))) ah (λ_ _=>rfl)))
  (@ay _ _ _ _ _ (aW (i:=5) dP.nd rfl (Or.inl rfl) (aF aq (pB (N2:=["_law_form_here","_law_p","_law_up","_law_pairings","_law_place","_law_unmade","_law_made","_law_k","_law_row"]) (tt:=(lT (dH DA (dH (rI (λ_ j=>0<j) λi j=> .int (i%j)) (dH (rI rC λi j=> .int (i*j)) (aH 0) (dH (gc K) (aH 4) (aH 5))) (aH 2)) (tC (.int 1))))) (te:=(aH 0)) rfl (bg rfl aJ (af (pv 1) ak)) (by kernel_rfl) rfl (λ_ _ _=>by exact tP (bz f6 (av cH (av bQ (pv 0) (aF aq (pv 4) (pv 5) (λ_ _=>rfl))) (pv 2)) ah (aZ _))) (λ_ _ _=>by exact dU (pv 0))) ah (λ_ _=>rfl)))
  (@ay _ _ _ _ _ (aW (i:=6) dP.nd rfl (Or.inl rfl) (gS ak))
  (@ay _ _ _ _ _ (jm PassesOwn.never rfl (bg rfl aJ (af ah ak)) (bL (i:=7) dP.nd rfl (Or.inr rfl)) (lV (@ay _ _ _ _ _ (rH (i:=8) dP.nd rfl rfl (N2:=["_law_form_here","_law_p","_law_up","_law_pairings","_law_place","_law_unmade","_law_made","_law_k","_law_row"]) (te:=(Hf (λxs H Q=>(∃i,xs=[.int i]/\Q (.int i) H)∨ ∃k,xs=[.bl k]/\Q (.int (if k then 1 else 0)) H) (bE (dH DA (aH 0) (aH 8)) gF))) rfl (bg rfl aJ (af ah ak)) (by kernel_rfl) rfl (λ_ _ _=>by exact dU (gv pq rfl oO PyProof.Rows.boot_int (af (d9 f6 (pv 0) (pv 8) (aZ _)) ak))))
  (@ay _ _ _ _ _ (kY (av fm (aF aq (pv 8) (pv 4) (λ_ _=>rfl)) (av cH (av bQ (aF aq (pv 3) (pv 7) (λ_ _=>rfl)) (pv 5)) (pv 1))) (mJ (pv 8) (pv 4) set_list))
  (@ay _ _ _ _ _ (cI (bz f6 (pv 7) (pv 4) (aZ _)) (@aK _ _ _ (rH (i:=8) dP.nd rfl rfl (N2:=["_law_form_here","_law_p","_law_up","_law_pairings","_law_place","_law_unmade","_law_made","_law_k","_law_row"]) (te:=(dH (rI rC λi j=> .int (i*j)) (aH 2) (Hf (λxs H Q=>(∃i,xs=[.int i]/\Q (.int i) H)∨ ∃k,xs=[.bl k]/\Q (.int (if k then 1 else 0)) H) (bE (dH DA (aH 0) (aH 8)) gF)))) rfl (bg rfl aJ (af ah ak)) (by kernel_rfl) rfl (λ_ _ _=>by exact dU (av bQ (pv 2) (gv pq rfl oO PyProof.Rows.boot_int (af (d9 f6 (pv 0) (pv 8) (aZ _)) ak)))))) dJ)
  (@aK _ _ _ (mH (xP PySem.F.plainAttrs_list PySem.F.slot_list_append PySem.F.type_list_append iO (pv 6) (af (pv 8) ak)))))))))
  (@aK _ _ _ (aT (pv 6))))))))),?_⟩
 have p0:2<n/\n<14:=by
  simp only[List.mem_cons,List.not_mem_nil,or_false]at hp
  omega
 have np:(0:Int)<n:=by omega
 obtain⟨s,hs⟩:∃s:Nat->Int,s=λk=>aC m x k%(n:Int):=⟨_,rfl⟩
 have s0:∀k,0<=s k/\s k<n:=λk=>by rw[hs];exact⟨Int.emod_nonneg _ (by omega),Int.emod_lt_of_pos _ np⟩
 have sE:∀k,s k=aC m x k%(n:Int):=λk=>by rw[hs]
 refine⟨3,rfl,by decide,by decide,λP hP=>eZ (dI (n:=3)) rfl hP s (λk y hk ey H1 Q1 s1 k1=> ?_) (λH1 s1 eP=> ?_)⟩
 ·obtain⟨_,rfl⟩:=cz ey
  refine⟨_,rfl,_,rfl,3,rfl,by decide,by decide,λE hE=>eZ (dI (n:=3)) rfl hE (λi=>if i=k then 1 else 0) (λi z hi ez H2 Q2 s2 k2=> ?_) (λH2 s2 e2=> ?_)⟩
  ·obtain⟨_,rfl⟩:=cz ez
   have:=k2 H2 (az.refl _)
   refine⟨_,rfl,_,rfl,rfl,.inr ⟨_,rfl,?_⟩⟩
   rcases aB hi with rfl|rfl|rfl<;>rcases aB hk with rfl|rfl|rfl<;>exact this
  ·have sm:=s1.trans s2
   refine⟨t,bs,m,b,E,x,(λi=>if i=k then 1 else 0),rfl,hT.same sm,bP,hB.mono (by decide),sm _ _ hx,e2,(λi hi=>aG (bx i hi) (by decide)),(λi hi=>by show(if i=k then 1 else 0:Int).natAbs<2^1000;split<;>decide),_,rfl,_,_,rfl,rfl,np,?_⟩
   have e:bH m x (λi=>if i=k then 1 else 0)%(n:Int)=s k:=by
    rw[sE,fJ]
    rcases aB hk with rfl|rfl|rfl<;>simp
   dsimp only
   rw[e]
   exact k1 H2 s2
 obtain⟨qk,Zi,Zj⟩:∃k,k<3/\s k≠0:=by
  refine Classical.byContradiction λno=>nz ⟨?_,?_,?_⟩
  ·rw[<-sE];exact Classical.byContradiction λz=>no ⟨0,by decide,z⟩
  ·rw[<-sE];exact Classical.byContradiction λz=>no ⟨1,by decide,z⟩
  ·rw[<-sE];exact Classical.byContradiction λz=>no ⟨2,by decide,z⟩
 refine⟨3,rfl,by decide,by decide,λD hD=>dM (dI (n:=3)) (by decide) hD (λv=>match v with| .int k=> !decide (V.int (s k.toNat)=V.int 0)|_=>false) id (λv hv Ha R sa kk=> ?_) (λv hv pv Ha Q' sa kk=>⟨_,rfl,kk Ha (az.refl _)⟩) (λH2 s2 e2=> ?_)⟩
 ·obtain⟨j,hj'⟩:=List.mem_iff_getElem?.mp hv
  obtain⟨hj,rfl⟩:=cz hj'
  exact⟨_,rfl,_,rfl,P,_,_,_,rfl,rfl,aS.of (sa _ _ eP),ju s hj,rfl,_,rfl,kk Ha (az.refl _)⟩
 generalize hF:List.map id (List.filter (λv=>match v with| .int k=> !decide (V.int (s k.toNat)=V.int 0)|_=>false) (iQ 3))=Fs at e2
 obtain⟨q0,Gk,Zk,Tj⟩:∃q0,q0<3/\s q0≠0/\ug Fs 0=some (.int ((q0:Nat):Int)):=by
  have mem:V.int (qk:Int)∈Fs:=by
   rw[<-hF,List.map_id,List.mem_filter]
   refine⟨List.mem_map.mpr ⟨qk,List.mem_range.mpr Zi,rfl⟩,?_⟩
   simpa using Zj
  cases Fs with
  |nil=>cases mem
  |cons v r=>
   have hv:v∈v::r:=List.mem_cons_self
   rw[<-hF,List.map_id,List.mem_filter]at hv
   obtain⟨hv1,hv2⟩:=hv
   obtain⟨j,hj'⟩:=List.mem_iff_getElem?.mp hv1
   obtain⟨hj,rfl⟩:=cz hj'
   exact⟨j,hj,by simpa using hv2,l6⟩
 have s12:=s1.trans s2
 have Xa:=s2 _ _ eP
 refine⟨D,_,_,_,rfl,rfl,aS.of e2,Tj,?_⟩
 refine⟨_,rfl,(n:Int),rfl,by omega,by omega,λD3 VG=>dM (dI (n:=((n:Int)).toNat)) (by simp only[iQ,List.length_map,List.length_range];exact Nat.le_of_lt (iP (by omega))) VG (λv=>match v with| .int c=>decide (V.int (c*s q0%(n:Int))=V.int 1)|_=>false) id (λv hv Ha R sa kk=> ?_) (λv hv pv Ha Q' sa kk=>⟨_,rfl,kk Ha (az.refl _)⟩) (λH3 s3 e3=> ?_)⟩
 ·obtain⟨j,hj'⟩:=List.mem_iff_getElem?.mp hv
  obtain⟨hj,rfl⟩:=cz hj'
  have b1:=s0 q0
  exact⟨_,rfl,_,rfl,_,rfl,P,_,_,_,rfl,rfl,aS.of (sa _ _ Xa),ju s Gk,_,_,rfl,rfl,.inl ⟨by omega,by omega⟩,_,rfl,_,_,rfl,rfl,np,rfl,_,rfl,kk Ha (az.refl _)⟩
 generalize Xb:List.map id (List.filter (λv=>match v with| .int c=>decide (V.int (c*s q0%(n:Int))=V.int 1)|_=>false) (iQ ((n:Int)).toNat))=VH at e3
 obtain⟨u,ZY,hun,hu1,Zl⟩:∃u:Nat,0<=u/\u<n/\(u:Int)*s q0%(n:Int)=1/\ug VH 0=some (.int (u:Int)):=by
  obtain⟨v0,hv0,hv1⟩:=ow hp (a:=s q0) (by rw[bD (s0 q0).1 (s0 q0).2];exact Zk)
  have mem:V.int (((1+v0:Nat)):Int)∈VH:=by
   rw[<-Xb,List.map_id,List.mem_filter]
   refine⟨List.mem_map.mpr ⟨1+v0,List.mem_range.mpr (by omega),rfl⟩,?_⟩
   refine decide_eq_true ?_
   congr 1
  cases VH with
  |nil=>cases mem
  |cons v r=>
   have hv:v∈v::r:=List.mem_cons_self
   rw[<-Xb,List.map_id,List.mem_filter]at hv
   obtain⟨hv1,hv2⟩:=hv
   obtain⟨j,hj'⟩:=List.mem_iff_getElem?.mp hv1
   obtain⟨hj,rfl⟩:=cz hj'
   exact⟨j,Nat.zero_le _,by omega,by simpa using hv2,l6⟩
 have iM:=s12.trans s3
 have Zm:=s3 _ _ Xa
 refine⟨D3,_,_,_,rfl,rfl,aS.of e3,Zl,?_⟩
 refine⟨(by show 0<=sizeLine;decide),λG hG=> ?_⟩
 have uG:=az.up (o:= .lst []) hG
 have fG:H G=none:=iM.none hG
 obtain⟨w,hw⟩:∃w:Nat->Int,w=λk=>aC m x k%(n:Int)*u%(n:Int):=⟨_,rfl⟩
 have wE:∀k,s k*u%(n:Int)=w k:=λk=>by rw[hw,sE]
 refine⟨3,rfl,by decide,by decide,fh (n:=3) (λk σ H'=> ∃o7 o8 cs,σ=[some (.ref t),some (.int (n:Int)),some (.ref b),some (.ref P),some (.int (q0:Int)),some (.int (u:Int)),some (.ref G),o7,o8]/\az H3 H'/\H' G=some (.lst (cs.map V.ref))/\cs.length=k/\fW H' cs/\rws H' cs=(mk3 λk j=>qv n q0 w k j).take k) ⟨_,_,[],rfl,uG,au,rfl,(λb hb=>nomatch hb),rfl⟩ (λk σ H' hk hh=> ?_) (λσ H' hh=> ?_)⟩
 rotate_left
 ·obtain⟨o7,o8,cs,rfl,s4,eG,lc,Ny,rc⟩:=hh
  refine⟨_,rfl,q q0 u G cs H' Gk (by rw[<-sE];exact hu1) (iM.trans s4) fG ?_⟩
  have T:=ur eG Ny
  rw[rc,hw]at T
  exact T
 obtain⟨o7,o8,cs,rfl,s4,eG,lc,Ny,rc⟩:=hh
 rw[Int.zero_add]
 have app:∀(Hz:Hp) (D:Addr) (o8:Option V),az H' Hz->H' D=none->cM Hz D (qv n q0 w k) -> ∃o7 Zn cs',[some (.ref t),some (.int (n:Int)),some (.ref b),some (.ref P),some (.int (q0:Int)),some (.int (u:Int)),some (.ref G),some (.int (k:Int)),o8]=[some (.ref t),some (.int (n:Int)),some (.ref b),some (.ref P),some (.int (q0:Int)),some (.int (u:Int)),some (.ref G),o7,Zn]/\az H3 (upd Hz G (.lst (cs.map V.ref++ [.ref D])))/\upd Hz G (.lst (cs.map V.ref++ [.ref D])) G=some (.lst (List.map V.ref cs'))/\cs'.length=k+1/\fW (upd Hz G (.lst (cs.map V.ref++ [.ref D]))) cs'/\rws (upd Hz G (.lst (cs.map V.ref++ [.ref D]))) cs'=(mk3 λk j=>qv n q0 w k j).take (k+1):=λHz D o8 sz hD eD=>by
  obtain⟨Qz,Se⟩:=AX (b:=D) eD
  have Sd:D≠G:=λz=>by rw[z,eG]at hD;cases hD
  have keep:∀b∈cs,∀o,H' b=some o->upd Hz G (.lst (cs.map V.ref++ [.ref D])) b=some o:=λb hb o e=>by
   rw[aE (g8 (Ny b hb) eG)]
   exact sz _ _ e
  obtain⟨k1,k2⟩:=Ny.keep keep
  obtain⟨k3,k4⟩:=Qz.keep (H':=upd Hz G (.lst (cs.map V.ref++ [.ref D]))) λo e=>by rw[aE Sd];exact e
  refine⟨_,_,cs++ [D],rfl,(s4.trans sz).upd hG,by rw[List.map_append];exact au,by rw[List.length_append,lc];rfl,λb hb=> ?_,?_⟩
  ·rcases List.mem_append.mp hb with hb|hb
   ·exact k1 b hb
   ·rw[List.mem_singleton.mp hb]
    exact k3
  ·rw[kC,k2,rc]
   show _++ [gr _ D]=_
   rw[k4,Se]
   rcases aB hk with rfl|rfl|rfl<;>rfl
 refine⟨3,rfl,by decide,by decide,λD4 VI=>eZ (dI (n:=3)) rfl VI (λi=>if i=k then 1 else 0) (λi z hi ez H5 Q5 s5 k5=> ?_) (λH5 s5 e5=> ?_)⟩
 ·obtain⟨_,rfl⟩:=cz ez
  have:=k5 H5 (az.refl _)
  refine⟨_,rfl,_,rfl,rfl,.inr ⟨_,rfl,?_⟩⟩
  rcases aB hi with rfl|rfl|rfl<;>rcases aB hk with rfl|rfl|rfl<;>exact this
 have To:=s4.trans s5
 have b1:=s0 k
 refine⟨_,rfl,_,rfl,D4,_,_,_,rfl,rfl,aS.of e5,ju (λi=>if i=k then 1 else 0) Gk,_,rfl,_,rfl,P,_,_,_,rfl,rfl,aS.of (To _ _ Zm),ju s hk,_,rfl,_,_,rfl,rfl,.inl ⟨by omega,by omega⟩,_,rfl,_,_,rfl,rfl,np,_,_,rfl,rfl,_,rfl,_,rfl,D4,_,_,q0,rfl,rfl,e5,(by rcases aB Gk with rfl|rfl|rfl<;>rfl),?_⟩
 rw[wE k]
 have s6:az H' (upd H5 D4 (.lst ([V.int (if 0=k then 1 else 0),.int (if 1=k then 1 else 0),.int (if 2=k then 1 else 0)].set q0 (.int ((if q0=k then 1 else 0) -w k))))):=s5.upd VI
 refine⟨_,rfl,_,rfl,rfl,_,rfl,jo (λc=> ?_) (λc=> ?_)⟩
 ·have ck:k=q0:=by have:=of_decide_eq_true c;injection this;omega
  refine⟨3,rfl,by decide,by decide,λD7 Qn=>eZ (dI (n:=3)) rfl Qn (qv n q0 w k) (λi z hi ez H7 Q7 s7 k7=> ?_) (λH7 s7 e7=> ?_)⟩
  ·obtain⟨_,rfl⟩:=cz ez
   have kk:=k7 H7 (az.refl _)
   subst ck
   have e:qv n k w k i=(n:Int)*(if i=k then 1 else 0):=by
    unfold qv
    rw[if_pos rfl]
    split<;>simp
   rw[e]at kk
   refine⟨_,rfl,_,rfl,_,rfl,rfl,.inr ⟨_,rfl,_,_,rfl,rfl,?_,?_⟩⟩
   ·exact .inl ⟨by omega,by omega⟩
   ·rcases aB hi with rfl|rfl|rfl<;>rcases aB hk with rfl|rfl|rfl<;>exact kk
  ·have VJ:=s6.trans s7
   refine⟨_,rfl,.inl ⟨rfl,_,aS.of (VJ _ _ eG)⟩,_,rfl,G,_,_,rfl,rfl,VJ _ _ eG,(by rw[List.length_map,lc];exact Nat.lt_of_lt_of_le hk (by decide)),?_⟩
   exact app H7 D7 _ VJ (s6.none Qn) e7
 ·have ck:k≠q0:=λz=>c (decide_eq_true (by rw[z]))
  refine⟨_,rfl,.inl ⟨rfl,_,aS.of (s6 _ _ eG)⟩,_,rfl,G,_,_,rfl,rfl,s6 _ _ eG,(by rw[List.length_map,lc];exact Nat.lt_of_lt_of_le hk (by decide)),?_⟩
  refine app _ D4 _ s6 VI ?_
  unfold cM
  rw[au]
  unfold qv
  rw[if_neg ck]
  rcases aB Gk with rfl|rfl|rfl<;>rcases aB hk with rfl|rfl|rfl<;>first|(exact absurd rfl ck)|simp
end
end CM
set_option maxHeartbeats 1000000
namespace CM
open PySem L2
section
variable{P:Program}{w:World}{K:PySem.W.Frag}{mg:Str->Option Value}{base:Heap}
def zw(T0:Addr):Sp:=λvs H Q _=> ∃(t:Addr) (bs:List Addr) (m:List (List Int)) (n:Nat) (b:Addr) (x:Nat->Int),vs=[.ref t,.int (n:Int),.ref b]/\Tab H t bs m/\bI m/\Bd 440 m/\cj m/\(n:Int)∈([3,5,7,11,13]:List Int)/\aX m/2%(n:Int)≠0/\cM H b x/\jf (n:Int) x/\aL m x%(n:Int)=0/\H T0=some .BE/\ ∀(k:Nat) (F:List (List Int)) (r:Addr) (rs:List Addr) H',aL m (dY n x k)%((n:Int)*n)=0->(∀j,j<k-> ¬aL m (dY n x j)%((n:Int)*n)=0) ->mE m n x (dY n x k) F->(∀B,aX B=1->mE m n x (dY n x k) (ie B F)) ->az H H'->H r=none->Tab H' r rs F->bI F->Ent F (rg 2) ->Q (.ref r) H'
theorem zA{bq:Addr}(F:eT K mg "_law_step" oN g6)(g9:cQ P w K mg base cC 6 "_law_lift" gZ yZ)(lI:cQ P w K mg base cC 6 "_law_across" gM Ol)(lJ:cQ P w K mg base cC 6 "_law_stairs" gO (Bf bq)):cQ P w K mg base cC 7 "_law_step" g6 (zw bq):=by
 refine F.ok qU (λvs H Q E h=> ?_) (λf cdv A outer s H vs Q E hr h=> ?_)
 ·obtain⟨t,bs,m,n,b,x,rfl,hT,bP,hB,ev,hp,hd,hx,L,hc,hC,q⟩:=h
  rfl
 obtain⟨t,bs,m,n,b,x,rfl,hT,bP,hB,ev,hp,hd,hx,L,hc,hC,q⟩:=h
 have hu:=hr.units
 refine⟨_,(lV (@ay _ _ _ _ _ (aW (i:=3) qU.nd rfl (Or.inl rfl) (aN g9 hr rfl aM (af (pv 0) (af (pv 1) (af (pv 2) ak)))))
  (@aK _ _ _ (aT (aN lJ hr rfl aM (af (av HS (gS (af (pv 3) ak)) (dZ (N2:=["_law_form_here","_law_p","_law_line","_law_up"]) (te:=(jJ 1 (z6 K (aH 0)) (bV 0) (dH (rI iu λi j=> .int (i*j)) (aH 3) (aH 0)))) rfl (cJ (aN lI hr rfl aM (af (pv 0) (af (pv 1) (af (pv 3) ak))))) (by kernel_rfl) rfl (λ_ _ _=>by exact dU (dZ (N2:=["_law_row","_law_form_here","_law_p","_law_line","_law_up"]) (te:=(dH (rI iu λi j=> .int (i*j)) (aH 3) (aH 0))) rfl (cJ (pv 0)) (by kernel_rfl) rfl (λ_ _ _=>by exact dU (av bA (pv 3) (pv 0))))))) ak)))))),?_⟩
 have p0:2<n/\n<14:=by
  simp only[List.mem_cons,List.not_mem_nil,or_false]at hp
  omega
 have bx:∀i,i<3->(x i).natAbs<2^100:=λi hi=>aG (a:=4) (by have:=L.lo i hi;have:=L.hi i hi;omega) (by decide)
 obtain⟨i0,t0,F0⟩:=yR ev hp hd L
 obtain⟨g1,g2,g3,g4⟩:=mS ev hp hc F0
 obtain⟨l,hl,li,one,l0⟩:=uZ ev L hc F0
 obtain⟨o,ho,sum⟩:∃o,o<3/\i0+l+o=3:=⟨3-i0-l,by have:=F0.hi;omega,by have:=F0.hi;omega⟩
 have hi0:=F0.hi
 obtain⟨St⟩:Nonempty (oA m (n:Int) x i0 l o (t0:Int) (((1+((ow hp F0.sl).choose:Int))* -(aC m x o))%(n:Int))):=by
  have np:(0:Int)<n:=by omega
  have hv:=(ow hp F0.sl).choose_spec.2
  generalize((ow hp F0.sl).choose:Int)=v at hv ⊢
  refine⟨⟨F0,L,hc,?_,hl,ho,sum,li,by omega,by omega,one,Int.emod_nonneg _ (by omega),Int.emod_lt_of_pos _ np,?_⟩⟩
  ·rw[<-IM ev g2]
   exact g3
  ·obtain⟨k1,h1⟩:=f9 (show(1+v)*aC m x i0%(n:Int)=1%(n:Int)by rw[hv];exact(bD (by decide) (by omega)).symm)
   have e:=Int.emod_add_mul_ediv ((1+v)* -(aC m x o)) (n:Int)
   generalize((1+v)* -(aC m x o))%(n:Int)=w at e ⊢
   generalize((1+v)* -(aC m x o))/(n:Int)=z at e
   have e3:w=(1+v)* -(aC m x o) -n*z:=by omega
   refine Int.emod_eq_zero_of_dvd ⟨-(aC m x o*k1) -z*aC m x i0,?_⟩
   rw[e3]
   have e4:aC m x o+((1+v)* -(aC m x o) -n*z)*aC m x i0=aC m x o-aC m x o*((1+v)*aC m x i0) -n*(z*aC m x i0):=by grind
   rw[e4,h1]
   grind
 generalize(((1+((ow hp F0.sl).choose:Int))* -(aC m x o))%(n:Int))=c at St
 refine⟨_,rfl,_,rfl,_,rfl,t,bs,m,n,b,x,rfl,hT,bP,hB,by omega,p0.2,hx,(λi hi=>aG (bx i hi) (by decide)),⟨_,g1,g3⟩,λk U H1 hk ck fk s1 fU eU=> ?_⟩
 have ek:gD n i0 t0=k:=qQ (P:=λk=>aL m (dY n x k)%((n:Int)*n)=0) g3 g4 ck fk
 subst ek
 have bv:∀i,i<3->(dY n x (gD n i0 t0) i).natAbs<2^8:=λi hi=>by
  rw[g2 i hi]
  have h1:=L.lo i hi
  have h2:=L.hi i hi
  have c1:((t0:Int)*n).natAbs<2^(4+4):=di (by have:=F0.up;omega) (by omega)
  unfold cu
  split
  ·have h3:=F0.up
   have h4:(t0:Int)*n<=12*13:=by
    have:t0*n<=12*13:=Nat.mul_le_mul (by omega) (by omega)
    exact_mod_cast this
   have h5:0<=(t0:Int)*n:=Int.mul_nonneg (by omega) (by omega)
   omega
  ·omega
 have sl:∀j,aC m (dY n x (gD n i0 t0)) j%(n:Int)=aC m x j%(n:Int):=λj=>p7 (λi hi=>by rw[g2 i hi];exact pC _ _ _ _ _) j
 refine⟨_,rfl,(by show 1<=sizeLine;decide),λA hA=> ?_⟩
 have uA:=az.up (o:= .lst [.ref U]) hA
 have Xc:=s1.trans uA
 refine⟨_,rfl,_,rfl,_,rfl,t,bs,m,n,U,_,rfl,hT.same Xc,bP,hB,hp,uA _ _ eU,(λi hi=>aG (bv i hi) (by decide)),(by rw[sl,sl,sl];exact uY ev hp hd L),λq0 u r rs H2 Gk hu s2 fr Tr=> ?_⟩
 have eW:(λk=>aC m (dY n x (gD n i0 t0)) k%(n:Int)*u%(n:Int))=λk=>aC m x k%(n:Int)*u%(n:Int):=by
  funext k
  rw[sl]
 rw[eW]at Tr
 rw[sl]at hu
 generalize hw:(λk=>aC m x k%(n:Int)*u%(n:Int))=w at Tr
 have w0:∀k,0<=w k/\w k<n:=λk=>by rw[<-hw];exact⟨Int.emod_nonneg _ (by omega),Int.emod_lt_of_pos _ (by omega)⟩
 have l3:(rs.map V.ref).length=3:=by rw[List.length_map,<-Tr.2.length];rfl
 have Zo:=Xc.trans s2
 have eA:=s2 _ _ (au (H:=H1) (a:=A) (o:= .lst [.ref U]))
 refine⟨r,rfl,⟨_,aS.of Tr.1⟩,λD hD=>uU (c8 (aS.of Tr.1)) l3 hD (λi j=>(n:Int)*qv n q0 w i j) (λi y hi ey H3 Q3 s3 k3=> ?_) (λds H3 s3 fd nD nn TD=> ?_)⟩
 ·obtain⟨b1,e1,e2,_⟩:=bf (Tr.same s3) (cD _) hi
  have PO:y= .ref b1:=by
   have q1:=fz ey
   rw[e1]at q1
   exact(Option.some.inj q1).symm
  subst PO
  refine⟨_,rfl,b1,rfl,⟨_,aS.of e2⟩,λD2 qX=>eZ (c8 (aS.of e2)) rfl qX (λj=>(n:Int)*qv n q0 w i j) (λj z hj ez H4 Q4 s4 k4=> ?_) (λH4 s4 e4=>k3 D2 H4 qX s4 e4)⟩
  have RV:z= .int (qv n q0 w i j):=by
   have e5:ent (mk3 λk j=>qv n q0 w k j) i j=qv n q0 w i j:=bO _ hi hj
   rw[<-e5]
   rcases aB hj with rfl|rfl|rfl<;>exact(Option.some.inj ez).symm
  subst RV
  have Zp:(qv n q0 w i j).natAbs<2^4:=by
   have:=w0 i
   unfold qv
   split
   ·split<;>omega
   ·split
    ·omega
    ·split<;>omega
  exact⟨_,rfl,_,rfl,_,_,rfl,rfl,⟨aG (a:=4) (by omega) (by decide),aG Zp (by decide)⟩,k4 H4 (az.refl _)⟩
 refine⟨A,D,_,_,rfl,rfl,s3 _ _ eA,TD.1,(by rw[List.length_map,<-TD.2.length];show 1+3<=sizeLine;decide),λp4 VF=> ?_⟩
 have u4:=az.up (o:= .lst ([V.ref U]++ds.map V.ref)) VF
 have tF:=Zo.trans (s3.trans u4)
 have Xd:=Gy ev St hp Gk hu hw g2
 have nd:aX (stepT n x i0 o t0 c)≠0:=by
  have:0<(n:Int)*n*n:=Int.mul_pos (Int.mul_pos (by omega) (by omega)) (by omega)
  rcases vc St with z|z<;>rw[z]<;>omega
 refine⟨p4,U::ds,w9 n q0 w (dY n x (gD n i0 t0)),_,rfl,KH au (u4 _ _ (s3 _ _ (s2 _ _ (uA _ _ eU)))) (TD.same u4),(Bc _ _ _ _).2,(Bc _ _ _ _).1,Nr ⟨by omega,by omega⟩ w0 bv,Xd,nd,tF _ _ hC,λF fs L' H5 s5 fL TF cF Zq eF=> ?_⟩
 have mk:=λB (hB:aX B=1)=>Gw ev St hp ck fk cF Zq Xd hB
 exact q _ F L' fs H5 ck fk (mk (mk3 λi j=>if i=j then 1 else 0) (by decide)).1 (λB hB=>(mk B hB).2) (tF.trans s5) (tF.none fL) TF cF eF
end
end CM
set_option maxHeartbeats 1000000
namespace CM
open PySem L2
section
variable{P:Program}{w:World}{K:PySem.W.Frag}{mg:Str->Option Value}{base:Heap}
def Ey(T0:Addr):Sp:=λvs H Q _=> ∃(B t:Addr) (bs:List Addr) (m:List (List Int)) (n:Nat) (A:Addr) (ls:List Addr) (L:List (List Int)) (r:Addr) (rs:List Addr) (S:List (List Int)),vs=[.ref B,.ref t,.int (n:Int),.ref A,.ref r]/\gX H B/\Tab H t bs m/\bI m/\Bd 440 m/\cj m/\(n:Int)∈([3,5,7,11,13]:List Int)/\aX m/2%(n:Int)≠0/\Tab H A ls L/\0<L.length/\L.length<1000/\(∀x∈L,x=[ao x 0,ao x 1,ao x 2]/\jf (n:Int) (ao x)/\aL m (ao x)%(n:Int)=0)/\Tab H r rs S/\bI S/\Bd 270 S/\H T0=some .BE/\ ∀u us U H',bI U->Bd 330 U->SB B H H'->H u=none->Tab H' u us U->Q (.ref u) H'
theorem tZ{bq:Addr}(F:eT K mg "_law_spoiled" kq gq)(eX:mg "list"=none)(aJ:mg "range"=none)(gB:mg "len"=none)(aI:cQ P w K mg base cC 7 "_law_take" dN kr)(gu:cQ P w K mg base cC 7 "_law_copy" gY Cz)(ic:cQ P w K mg base cC 7 "_law_step" g6 (zw bq)):cQ P w K mg base cC 8 "_law_spoiled" gq (Ey bq):=by
 refine F.ok cR (λvs H Q E h=> ?_) (λf cdv A outer s H vs Q E hr h=> ?_)
 ·obtain⟨B,t,bs,m,n,A,ls,L,r,rs,S,rfl,hb,hT,bP,hB,ev,hp,hd,hA,l1,l2,hL,hR,cS,bS,hC,q⟩:=h
  rfl
 obtain⟨B,t,bs,m,n,A,ls,L,r,rs,S,rfl,hb,hT,bP,hB,ev,hp,hd,hA,l1,l2,hL,hR,cS,bS,hC,q⟩:=h
 have hu:=hr.units
 refine⟨_,(lV (@ay _ _ _ _ _ (aW (i:=5) cR.nd rfl (Or.inl rfl) (aN aI hr rfl aM (af (pv 0) (af ah ak))))
  (@ay _ _ _ _ _ (aW (i:=6) cR.nd rfl (Or.inl rfl) (aN gu hr rfl aM (af (pv 4) ak)))
  (@ay _ _ _ _ _ (aW (i:=7) cR.nd rfl (Or.inl rfl) (aN aI hr rfl aM (af (pv 0) (af ah ak))))
  (@ay _ _ _ _ _ (cI (bz f6 (pv 5) ah (aZ _)) (@aK _ _ _ (Dy (aF aq (pv 6) (pv 7) (λ_ _=>rfl)) (aN aI hr rfl aM (af (pv 0) (af ah ak))) Av (av cV ah (aN aI hr rfl aM (af (pv 0) (af (pv 2) ak)))) HB set_list)) (@aK _ _ _ (cI (bz f6 (pv 5) ah (aZ _)) (@aK _ _ _ (kY (dZ (N2:=["_law_bag_here","_law_form_here","_law_p","_law_some","_law_step_here","_law_way","_law_made","_law_k"]) (te:=(dH (rI iu λi j=> .int (i*j)) (dH (z9 λi j=> .int (i+j)) (tC (.int 2)) (jW kr [] E0 (bE (aH 1) (bE (aH 3) gF)))) (aH 0))) rfl (cJ (aF aq (pv 6) (pv 7) (λ_ _=>rfl))) (by kernel_rfl) rfl (λ_ _ _=>by exact dU (av bA (av cV ah (aN aI hr rfl aM (af (pv 1) (af (pv 3) ak)))) (pv 0)))) (mJ (pv 6) (pv 7) set_list))) (@aK _ _ _ (cI (bz f6 (pv 5) ah (aZ _)) (@aK _ _ _ (aW (i:=6) cR.nd rfl (Or.inl rfl) (aN ic hr rfl aM (af (pv 1) (af (pv 2) (af (aF aq (pv 3) (aN aI hr rfl aM (af (pv 0) (af (bZ eE rfl gB PySem.boot_len (af (pv 3) ak)) ak))) (λ_ _=>rfl)) ak)))))) (@aK _ _ _ (cI (bz f6 (pv 5) ah (aZ _)) (@aK _ _ _ (rH (i:=6) cR.nd rfl rfl (N2:=["_law_bag_here","_law_form_here","_law_p","_law_some","_law_step_here","_law_way","_law_made","_law_k"]) (te:=(jJ 1 (z6 K (aH 0)) (bV 0) (dH (rI iu λi j=> .int (i*j)) (tC (.int 2)) (aH 0)))) rfl (cJ (pv 6)) (by kernel_rfl) rfl (λ_ _ _=>by exact dU (dZ (N2:=["_law_row","_law_bag_here","_law_form_here","_law_p","_law_some","_law_step_here","_law_way","_law_made","_law_k"]) (te:=(dH (rI iu λi j=> .int (i*j)) (tC (.int 2)) (aH 0))) rfl (cJ (pv 0)) (by kernel_rfl) rfl (λ_ _ _=>by exact dU (av bA ah (pv 0))))))) (@aK _ _ _ (cI (bz f6 (pv 5) ah (aZ _)) (@aK _ _ _ (kY (gv ir rfl eX PyProof.Rows.boot_list (af (aF aq (pv 6) (av fm (pv 7) ah) (λ_ _=>rfl)) ak)) (mJ (pv 6) (pv 7) set_list))) (@aK _ _ _ (cI (bz f6 (pv 5) ah (aZ _)) (Eu (i:=6) cR.nd rfl (Or.inl rfl) (fH (aR (fH (aR (fe (pv 2)) (aR bJ (aR bJ fF (by kernel_rfl)) (by kernel_rfl)) (by kernel_rfl))) (aR (fH (aR bJ (aR (fe (pv 2)) (aR bJ fF (by kernel_rfl)) (by kernel_rfl)) (by kernel_rfl))) (aR (fH (aR bJ (aR bJ (aR (fe (pv 2)) fF (by kernel_rfl)) (by kernel_rfl)) (by kernel_rfl))) fF (by kernel_rfl)) (by kernel_rfl)) (by kernel_rfl))) (by kernel_rfl) (by first|exact .inl rfl|exact .inr rfl)) (@aK _ _ _ (cI (bz f6 (pv 5) ah (aZ _)) (@aK _ _ _ (rH (i:=6) cR.nd rfl rfl (N2:=["_law_bag_here","_law_form_here","_law_p","_law_some","_law_step_here","_law_way","_law_made","_law_k"]) (te:=(jJ 1 (sY (bE (tC (.int 3)) gF)) (bV 0) (jW kr [] E0 (bE (aH 2) (bE (dH (rI rC λi j=> .int (i*j)) (aH 4) (aH 4)) gF))))) rfl (bg rfl aJ (af ah ak)) (by kernel_rfl) rfl (λ_ _ _=>by exact dU (dZ (N2:=["_law_i","_law_bag_here","_law_form_here","_law_p","_law_some","_law_step_here","_law_way","_law_made","_law_k"]) (te:=(jW kr [] E0 (bE (aH 2) (bE (dH (rI rC λi j=> .int (i*j)) (aH 4) (aH 4)) gF)))) rfl (bg rfl aJ (af ah ak)) (by kernel_rfl) rfl (λ_ _ _=>by exact dU (aN aI hr rfl aM (af (pv 2) (af (av bQ (pv 4) (pv 4)) ak)))))))) (Eu (i:=6) cR.nd rfl (Or.inl rfl) (fH (aR (fH (aR bJ (aR bJ (aR bJ fF (by kernel_rfl)) (by kernel_rfl)) (by kernel_rfl))) (aR (fH (aR bJ (aR bJ (aR bJ fF (by kernel_rfl)) (by kernel_rfl)) (by kernel_rfl))) (aR (fH (aR bJ (aR bJ (aR bJ fF (by kernel_rfl)) (by kernel_rfl)) (by kernel_rfl))) fF (by kernel_rfl)) (by kernel_rfl)) (by kernel_rfl))) (by kernel_rfl) (by first|exact .inl rfl|exact .inr rfl)))))))))))))))
  (@aK _ _ _ (aT (pv 6)))))))),?_⟩
 have p0:2<n/\n<14:=by
  simp only[List.mem_cons,List.not_mem_nil,or_false]at hp
  omega
 have nn:n*n<=169:=Nat.mul_le_mul (show n<=13 by omega) (show n<=13 by omega)
 have ZZ:(n:Int)*n=((n*n:Nat):Int):=by push_cast;rfl
 have SS:0<n*n:=Nat.mul_pos (by omega) (by omega)
 have nR:=zv hb hR (by rw[cS.1];decide) cS.2
 have nT:=zv hb hT (by rw[bP.1];decide) bP.2
 have nA:=zv hb hA l1 λx hx=>by rw[(hL x hx).1];rfl
 refine⟨_,rfl,B,_,rfl,hb,by decide,by decide,λway H1 w0 w8 s1=> ?_⟩
 refine⟨_,rfl,r,rs,S,rfl,hR.sb s1 nR.1 nR.2,cS,λM ms H2 s2 fM Xe nM Zr Zs=> ?_⟩
 have s12:=s1.trans (SB.of s1.2 s2)
 have Sg:M≠B:=s1.2.ne fM
 have Tq:B∉ms:=λz=>s1.2.ne (Xe B z) rfl
 refine⟨_,rfl,B,_,rfl,s12.2,by decide,by decide,λk H3 k0 k3 s3=> ?_⟩
 obtain⟨kn,rfl⟩:∃kn:Nat,k=(kn:Int):=⟨k.toNat,by omega⟩
 have hk:kn<3:=by omega
 have iM:=s12.trans s3
 have TM:=Zs.sb s3 Sg Tq
 have Sh:H M=none:=s1.gone fM
 obtain⟨bk,x1,x2,xm⟩:=bf TM cS hk
 have lm:ms.length=3:=by rw[<-TM.2.length,cS.1]
 have Tt:bk≠B:=λz=>Tq (by rw[<-z];exact xm)
 have Zt:H bk=none:=s1.gone (Xe bk xm)
 have Xf:Lu 3 (kn:Int)=some kn:=by rcases aB hk with rfl|rfl|rfl<;>rfl
 have Tu:(ms.map V.ref).length=3:=by rw[List.length_map,lm]
 refine⟨_,rfl,rfl,_,rfl,jo (λc=> ?_) (λc=> ?_)⟩
 ·refine⟨_,rfl,_,rfl,M,_,_,_,rfl,rfl,aS.of TM.1,x1,_,rfl,B,_,rfl,iM.2,by decide,by decide,λj H4 j0 j3 s4=> ?_⟩
  obtain⟨jn,rfl⟩:∃jn:Nat,j=(jn:Int):=⟨j.toNat,by omega⟩
  have hj:jn<3:=by omega
  have x4:=s4.1 _ _ Tt x2
  refine⟨bk,_,jn,.int (ent S kn jn),rfl,rfl,aS.of x4,(by rcases aB hj with rfl|rfl|rfl<;>rfl),?_⟩
  refine⟨_,rfl,_,rfl,B,_,rfl,s4.2,(by omega),log2_small (by omega) (by omega),λd H5 d0 d1 s5=>⟨_,_,rfl,rfl,_,_,rfl,rfl,bk,_,_,jn,rfl,rfl,s5.1 _ _ Tt x4,(by rcases aB hj with rfl|rfl|rfl<;>rfl),?_⟩⟩
  have To:=s4.trans s5
  have T5:=TM.sb To Sg Tq
  exact⟨_,rfl,q M ms (DW S kn jn (ent S kn jn+(1+d))) _ (cD _) (II (bS.mono (by decide)) kn jn (aG (oq (bS kn jn hk hj) (show(1+d).natAbs<2^270 from aG (a:=4) (by omega) (by decide))) (by decide))) ((iM.trans To).tQ Zt Tt) Sh (Fp T5 cS hk hj Zr nM x1)⟩
 refine⟨_,rfl,rfl,_,rfl,jo (λc=> ?_) (λc=> ?_)⟩
 ·refine⟨_,rfl,_,rfl,M,_,_,_,rfl,rfl,aS.of TM.1,x1,bk,rfl,⟨_,aS.of x2⟩,λD hD=>KJ (aS.of x2) Tt hD iM.2 (by show 3<=sizeLine;decide) (λz=>z.natAbs<2^300) (λi v H' Q' Xg sm kk=> ?_) (λzs H5 lz hz s5 e5=> ?_)⟩
  ·have hi:i<3:=(List.getElem?_eq_some_iff.mp Xg).1
   have ev':v= .int (ent S kn i):=by
    rcases aB hi with rfl|rfl|rfl<;>exact(Option.some.inj Xg).symm
   subst ev'
   refine⟨_,rfl,_,rfl,B,_,rfl,sm.2,(by omega),log2_small (by omega) (by omega),λd H6 d0 d1 s6=>⟨_,_,rfl,rfl,_,rfl,_,_,rfl,rfl,⟨aG (a:=5) (by omega) (by decide),aG (bS kn i hk hi) (by decide)⟩,kk _ H6 (aG (di (show(2+d).natAbs<2^5 by omega) (bS kn i hk hi)) (by decide)) s6⟩⟩
  ·have Of:D≠B:=iM.2.ne hD
   have T5:=TM.sb s5 Sg Tq
   have Zu:zs.length=3:=lz
   have eD:H5 D=some (.lst [.int (ao zs 0),.int (ao zs 1),.int (ao zs 2)]):=by
    rw[e5]
    conv=>lhs;rw[yb Zu]
    rfl
   have VL:D≠M:=λz=>by rw[z,TM.1]at hD;cases hD
   refine⟨_,rfl,_,rfl,M,_,_,kn,rfl,rfl,T5.1,(by rw[Tu];exact Xf),_,rfl,q M (ms.set kn D) (qK S kn (ao zs)) _ (cD _) (λi j hi hj=> ?_) ((iM.trans s5).tQ Sh Sg) Sh (qL T5 cS hk eD VL nM)⟩
   unfold qK
   rw[bO _ hi hj]
   split
   ·have:ao zs j∈zs:=by
     unfold ao
     rw[List.getD_eq_getElem?_getD,List.getElem?_eq_getElem (by omega)]
     exact List.getElem_mem _
    exact aG (hz _ this) (by decide)
   ·exact aG (bS i j hi hj) (by decide)
 refine⟨_,rfl,rfl,_,rfl,jo (λc=> ?_) (λc=> ?_)⟩
 ·refine⟨_,rfl,_,rfl,_,rfl,_,rfl,_,rfl,A,_,rfl,.inl (aS.of (hA.sb iM nA.1 nA.2).1),B,_,rfl,iM.2,(by rw[List.length_map,<-hA.2.length];omega),log2_small (by omega) (by rw[List.length_map,<-hA.2.length];omega),λj H4 j0 jl s4=> ?_⟩
  have tF:=iM.trans s4
  have TA:=hA.sb tF nA.1 nA.2
  obtain⟨v,hv,hv2⟩:=yJ (xs:=ls.map V.ref) (k:=j) j0 jl
  obtain⟨b,rfl,hbm⟩:=om (List.mem_of_getElem? hv2)
  obtain⟨x,Zv,ex⟩:=yH TA.2 hbm
  obtain⟨g1,g2,g3⟩:=hL x Zv
  have eb:cM H4 b (ao x):=by
   unfold cM
   rw[ex]
   conv=>lhs;rw[g1]
   rfl
  have Zw:bq≠B:=λz=>by
   obtain⟨_,_,e,_,_⟩:=hb
   rw[z,e]at hC
   cases hC
  exact⟨A,_,_,_,rfl,rfl,aS.of TA.1,hv,t,bs,m,n,b,ao x,rfl,hT.sb tF nT.1 nT.2,bP,hB,ev,hp,hd,eb,g2,g3,tF.1 _ _ Zw hC,λk' F u us H5 _ _ _ _ s5 fu TF cF eF=>⟨_,rfl,q u us F H5 cF (KD cF eF (by decide+kernel)) (tF.trans (SB.of tF.2 s5)) (tF.gone fu) TF⟩⟩
 refine⟨_,rfl,rfl,_,rfl,jo (λc=> ?_) (λc=> ?_)⟩
 ·refine⟨_,rfl,M,rfl,⟨_,aS.of TM.1⟩,λD hD=>uU (c8 (aS.of TM.1)) Tu hD (λi j=>2*ent S i j) (λi y hi ey H4 Q4 s4 k4=> ?_) (λds H4 s4 fd nD nnD TD=>⟨_,rfl,q D ds _ H4 (cD _) (λi j hi hj=>by rw[bO _ hi hj];exact aG (di (show(2:Int).natAbs<2^2 by decide) (bS i j hi hj)) (by decide)) (iM.trans (SB.of iM.2 s4)) (iM.gone hD) TD⟩)⟩
  obtain⟨b1,e1,e2,_⟩:=bf (TM.same s4) cS hi
  have PO:y= .ref b1:=by
   have q1:=fz ey
   rw[e1]at q1
   exact(Option.some.inj q1).symm
  subst PO
  refine⟨_,rfl,b1,rfl,⟨_,aS.of e2⟩,λD2 qX=>eZ (c8 (aS.of e2)) rfl qX (λj=>2*ent S i j) (λj z hj ez H5 Q5 s5 k5=> ?_) (λH5 s5 e5=>k4 D2 H5 qX s5 e5)⟩
  have RV:z= .int (ent S i j):=by
   rcases aB hj with rfl|rfl|rfl<;>exact(Option.some.inj ez).symm
  subst RV
  exact⟨_,rfl,_,_,rfl,rfl,⟨(by show(2:Int).natAbs<2^4096;exact aG (a:=2) (by decide) (by decide)),aG (bS i j hi hj) (by decide)⟩,k5 H5 (az.refl _)⟩
 refine⟨_,rfl,rfl,_,rfl,jo (λc=> ?_) (λc=> ?_)⟩
 ·obtain⟨kp,hkp,Zx⟩:∃kp:Nat,kp<3/\ ∀l:List V,l.length=3->ug l ((kn:Int) -1)=ug l (kp:Int):=by
   rcases aB hk with rfl|rfl|rfl
   ·exact⟨2,by decide,λl hl=>by match l,hl with| [a,b,c],_=>rfl⟩
   ·exact⟨0,by decide,λl hl=>by match l,hl with| [a,b,c],_=>rfl⟩
   ·exact⟨1,by decide,λl hl=>by match l,hl with| [a,b,c],_=>rfl⟩
  obtain⟨bp,y1,y2,ym⟩:=bf TM cS hkp
  refine⟨_,rfl,_,rfl,_,_,rfl,rfl,M,_,_,.ref bp,rfl,rfl,aS.of TM.1,(by rw[Zx _ Tu];exact y1),bp,_,rfl,.inl (aS.of y2),λD hD=> ?_⟩
  have u4:=az.up (o:= .lst [.int (ent S kp 0),.int (ent S kp 1),.int (ent S kp 2)]) hD
  have T4:=TM.same u4
  have VL:D≠M:=λz=>by rw[z,TM.1]at hD;cases hD
  exact⟨_,rfl,_,rfl,M,_,_,kn,rfl,rfl,T4.1,(by rw[Tu];exact Xf),_,rfl,q M (ms.set kn D) (qK S kn λj=>ent S kp j) _ (cD _) (λi j hi hj=>by unfold qK;rw[bO _ hi hj];split;exact aG (bS kp j hkp hj) (by decide);exact aG (bS i j hi hj) (by decide)) ((iM.trans (SB.of iM.2 u4)).tQ Sh Sg) Sh (qL T4 cS hk au VL nM)⟩
 refine⟨_,rfl,rfl,_,rfl,jo (λc=> ?_) (λc=> ?_)⟩
 ·refine⟨_,rfl,(by show 3<=sizeLine;decide),λz0 g0=>⟨_,rfl,(by show 3<=sizeLine;decide),λz1 g1=>⟨_,rfl,(by show 3<=sizeLine;decide),λz2 g2=>⟨(by show 3<=sizeLine;decide),λP hP=> ?_⟩⟩⟩⟩
  have v0:=az.up (o:= .lst [.int (n:Int),.int 0,.int 0]) g0
  have v1:=az.up (o:= .lst [.int 0,.int (n:Int),.int 0]) g1
  have v2:=az.up (o:= .lst [.int 0,.int 0,.int (n:Int)]) g2
  have v3:=az.up (o:= .lst [.ref z0,.ref z1,.ref z2]) hP
  have vv:=v0.trans (v1.trans (v2.trans v3))
  have T:Tab _ P [z0,z1,z2] (mk3 λi j=>if i=j then(n:Int)else 0):=iw _ au (v3 _ _ (v2 _ _ (v1 _ _ au))) (v3 _ _ (v2 _ _ au)) (v3 _ _ au)
  exact⟨_,rfl,q P _ _ _ (cD _) (λi j hi hj=>by rw[bO _ hi hj];split<;>exact aG (a:=4) (by omega) (by decide)) (iM.trans (SB.of iM.2 vv)) (iM.gone (v0.none (v1.none (v2.none hP)))) T⟩
 refine⟨_,rfl,rfl,_,rfl,jo (λc=> ?_) (λc=> ?_)⟩
 ·refine⟨3,rfl,by decide,by decide,λD hD=>KL (n:=3) hD iM.2 (by decide) (λx=> ∀j,j<3->(ao x j).natAbs<2^10) (λi H4 Q4 hi s4 k4=>⟨3,rfl,by decide,by decide,λD2 qX=>MX (n:=3) qX s4.2 (by decide) (λz=>z.natAbs<2^10) (λj H5 Q5 hj s5 k5=>⟨_,rfl,_,rfl,_,rfl,_,_,rfl,rfl,.inl ⟨by omega,by omega⟩,B,_,rfl,s5.2,(by omega),log2_small (by omega) (by omega),λd H6 d0 d1 s6=>k5 d H6 (by omega) s6⟩) (λzs H5 lz hz s5 e5=>k4 D2 zs H5 qX (λj hj=> ?_) lz s5 e5)⟩) (λus U H4 lU hU s4 TU=>⟨_,rfl,q D us U H4 ⟨lU,λx hx=>(hU x hx).1⟩ (λa j ha hj=> ?_) (iM.trans s4) (iM.gone hD) TU⟩)⟩
  ·have:ao zs j∈zs:=by
    unfold ao
    rw[List.getD_eq_getElem?_getD,List.getElem?_eq_getElem (by omega)]
    exact List.getElem_mem _
   exact hz _ this
  ·have la:a<U.length:=by rw[lU];exact ha
   rw[<-uv la]
   exact aG ((hU _ (List.getElem_mem la)).2 j hj) (by decide)
 ·refine⟨(by show 3<=sizeLine;decide),λz0 g0=>⟨(by show 3<=sizeLine;decide),λz1 g1=>⟨(by show 3<=sizeLine;decide),λz2 g2=>⟨(by show 3<=sizeLine;decide),λP hP=> ?_⟩⟩⟩⟩
  have v0:=az.up (o:= .lst [.int 0,.int 0,.int 0]) g0
  have v1:=az.up (o:= .lst [.int 0,.int 0,.int 0]) g1
  have v2:=az.up (o:= .lst [.int 0,.int 0,.int 0]) g2
  have v3:=az.up (o:= .lst [.ref z0,.ref z1,.ref z2]) hP
  have vv:=v0.trans (v1.trans (v2.trans v3))
  have T:Tab _ P [z0,z1,z2] (mk3 λi j=>(0:Int)):=iw _ au (v3 _ _ (v2 _ _ (v1 _ _ au))) (v3 _ _ (v2 _ _ au)) (v3 _ _ au)
  exact⟨_,rfl,q P _ _ _ (cD _) (λi j hi hj=>by rw[bO _ hi hj];exact aG (a:=4) (by decide) (by decide)) (iM.trans (SB.of iM.2 vv)) (iM.gone (v0.none (v1.none (v2.none hP)))) T⟩
end
end CM
set_option maxHeartbeats 1000000
namespace CM
open PySem L2
section
variable{P:Program}{w:World}{K:PySem.W.Frag}{mg:Str->Option Value}{base:Heap}
def vL:Sp:=λvs H Q _=> ∃(t:Addr) (bs:List Addr) (m:List (List Int)) (n:Nat) (b:Addr) (x:Nat->Int) (c0:Addr) (up:Nat->Int) (r:Addr) (y:Nat->Int),vs=[.ref t,.int (n:Int),.ref b,.ref c0,.ref r]/\Tab H t bs m/\bI m/\Bd 440 m/\cM H b x/\cM H c0 up/\cM H r y/\(∀i,i<3->(x i).natAbs<2^400)/\(∀i,i<3->(up i).natAbs<2^400)/\(∀i,i<3->(y i).natAbs<2^400)/\0<n/\n<14/\ ∀(bo:Bool) H',(bo=true↔kD m n x up y) ->az H H'->Q (.bl bo) H'
theorem t6(F:eT K mg "_law_is_good" kj gn)(yd:mg "any"=none)(iN:mg "all"=none)(aJ:mg "range"=none)(bK:cQ P w K mg base cC 1 "_law_pairing" dO kX):cQ P w K mg base cC 2 "_law_is_good" gn vL:=by
 refine F.ok tS (λvs H Q E h=> ?_) (λf cdv A outer s H vs Q E hr h=> ?_)
 ·obtain⟨t,bs,m,n,b,x,c0,up,r,y,rfl,hT,bP,hB,hx,h0,hy,bx,b0,bY,n0,Nb,q⟩:=h
  rfl
 obtain⟨t,bs,m,n,b,x,c0,up,r,y,rfl,hT,bP,hB,hx,h0,hy,bx,b0,bY,n0,Nb,q⟩:=h
 have hu:=hr.units
 refine⟨_,(lV (@ay _ _ _ _ _ (cI (bz kQ (av cH (aN bK hr rfl aM (af (pv 0) (af (pv 3) (af (pv 4) ak)))) (av bQ (pv 1) (pv 1))) ah (aZ _)) (@aK _ _ _ (aT nX)) dJ)
  (@aK _ _ _ (aT (bZ (wO rfl) rfl yd PyProof.Rows.boot_any (af (dZ (N2:=["_law_form_here","_law_p","_law_line","_law_up","_law_row"]) (te:=(Hf (Rn K) (bE (jJ 1 (sY (bE (tC (.int 3)) gF)) (bV 0) (dH DA (dH (rI (λ_ j=>0<j) λi j=> .int (i%j)) (dH (z9 λi j=> .int (i-j)) (dH (gc K) (aH 6) (aH 0)) (dH (rI rC λi j=> .int (i*j)) (aH 1) (dH (gc K) (aH 4) (aH 0)))) (aH 3)) (tC (.int 0)))) gF))) rfl (bg rfl aJ (af (pv 1) ak)) (by kernel_rfl) rfl (λ_ _ _=>by exact dU (bZ (pP rfl) rfl iN PyProof.Rows.boot_all (af (dZ (N2:=["_law_c","_law_form_here","_law_p","_law_line","_law_up","_law_row"]) (te:=(dH DA (dH (rI (λ_ j=>0<j) λi j=> .int (i%j)) (dH (z9 λi j=> .int (i-j)) (dH (gc K) (aH 6) (aH 0)) (dH (rI rC λi j=> .int (i*j)) (aH 1) (dH (gc K) (aH 4) (aH 0)))) (aH 3)) (tC (.int 0)))) rfl (bg rfl aJ (af ah ak)) (by kernel_rfl) rfl (λ_ _ _=>by exact dU (d9 f6 (av cH (av fm (aF aq (pv 6) (pv 0) (λ_ _=>rfl)) (av bQ (pv 1) (aF aq (pv 4) (pv 0) (λ_ _=>rfl)))) (pv 3)) ah (aZ _)))) ak)))) ak)))))),?_⟩
 have nn:n*n<=169:=Nat.mul_le_mul (show n<=13 by omega) (show n<=13 by omega)
 have e2:(n:Int)*n=((n*n:Nat):Int):=by push_cast;rfl
 have SS:0<n*n:=Nat.mul_pos n0 n0
 refine⟨_,rfl,_,rfl,_,rfl,t,bs,m,c0,r,up,y,rfl,hT,bP,hB.mono (by decide),h0,hy,(λi hi=>aG (b0 i hi) (by decide)),(λi hi=>aG (bY i hi) (by decide)),_,rfl,_,rfl,_,_,rfl,rfl,.inl ⟨by omega,by omega⟩,_,_,rfl,rfl,(by show(0:Int)<(n:Int)*n;omega),rfl,_,rfl,jo (λc=> ?_) (λc=> ?_)⟩
 ·refine q false H ⟨λz=>(nomatch z),λz=> ?_⟩ (az.refl _)
  exfalso
  simp[z.1]at c
 have hq:bH m up y%((n:Int)*n)=0:=Classical.byContradiction λz=>c (by simpa using z)
 refine⟨_,rfl,(n:Int),rfl,by omega,by omega,λD hD=>rP (dI (n:=((n:Int)).toNat)) (by simp only[iQ,List.length_map,List.length_range];exact Nat.le_of_lt (iP (by omega))) hD (λv=>match v with| .int c=> .bl ((λc:Int=>(decide (V.int ((y 0-c*x 0)%(n:Int))=V.int 0) && (decide (V.int ((y 1-c*x 1)%(n:Int))=V.int 0) && decide (V.int ((y 2-c*x 2)%(n:Int))=V.int 0)))) c)|_=> .gP) (λv hv H1 Q1 s1 k1=> ?_) (λH1 s1 e1=> ?_)⟩
 ·obtain⟨j,hj'⟩:=List.mem_iff_getElem?.mp hv
  obtain⟨hj,rfl⟩:=cz hj'
  refine⟨3,rfl,by decide,by decide,λD2 qX=>rP (dI (n:=3)) (by decide) qX (λv=>match v with| .int k=> .bl (decide (V.int ((y k.toNat- (j:Int)*x k.toNat)%(n:Int))=V.int 0))|_=> .gP) (λv hv H2 Q2 s2 k2=> ?_) (λH2 s2 e2=> ?_)⟩
  ·obtain⟨k,hk'⟩:=List.mem_iff_getElem?.mp hv
   obtain⟨hk,rfl⟩:=cz hk'
   have sm:=s1.trans s2
   exact⟨_,rfl,_,rfl,r,_,_,_,rfl,rfl,aS.of (sm _ _ hy),ju y hk,_,rfl,_,rfl,_,rfl,b,_,_,_,rfl,rfl,aS.of (sm _ _ hx),ju x hk,_,_,rfl,rfl,.inl ⟨by omega,by omega⟩,_,_,rfl,rfl,_,rfl,_,_,rfl,rfl,(by show(0:Int)<n;omega),rfl,k2 H2 (az.refl _)⟩
  ·refine⟨D2,[decide (V.int ((y 0- (j:Int)*x 0)%(n:Int))=V.int 0),decide (V.int ((y 1- (j:Int)*x 1)%(n:Int))=V.int 0),decide (V.int ((y 2- (j:Int)*x 2)%(n:Int))=V.int 0)],rfl,aS.of e2,?_⟩
   have k3:=k1 H2 s2
   simp only[List.all_cons,List.all_nil,id,Bool.and_true]
   exact k3
 ·refine⟨D,(List.range n).map (λ (c:Nat)=>(λc:Int=>(decide (V.int ((y 0-c*x 0)%(n:Int))=V.int 0) && (decide (V.int ((y 1-c*x 1)%(n:Int))=V.int 0) && decide (V.int ((y 2-c*x 2)%(n:Int))=V.int 0)))) (c:Int)),rfl,aS.of (by rw[e1,Int.toNat_natCast];simp[iQ,Function.comp_def]),?_⟩
  refine q _ H1 ?_ s1
  rw[List.any_eq_true]
  constructor
  ·rintro⟨v,hv,e⟩
   obtain⟨c,hc,rfl⟩:=List.mem_map.mp hv
   refine⟨hq,c,List.mem_range.mp hc,λj hj=> ?_⟩
   simp only[id,Bool.and_eq_true,decide_eq_true_eq,V.int.injEq]at e
   rcases aB hj with rfl|rfl|rfl
   ·exact e.1
   ·exact e.2.1
   ·exact e.2.2
  ·rintro⟨_,c,hc,ec⟩
   refine⟨true,List.mem_map.mpr ⟨c,List.mem_range.mpr hc,?_⟩,rfl⟩
   simp[ec 0 (by decide),ec 1 (by decide),ec 2 (by decide)]
end
end CM
set_option maxHeartbeats 1000000
namespace CM
open PySem L2
section
variable{P:Program}{w:World}{K:PySem.W.Frag}{mg:Str->Option Value}{base:Heap}
def vM:Sp:=λvs H Q _=> ∃(t:Addr) (bs:List Addr) (m:List (List Int)) (n:Nat) (b:Addr) (x:Nat->Int) (r:Addr) (rs:List Addr) (S:List (List Int)),vs=[.ref t,.int (n:Int),.ref b,.ref r]/\Tab H t bs m/\bI m/\Bd 440 m/\cM H b x/\Tab H r rs S/\bI S/\Bd 330 S/\(∀i,i<3->(x i).natAbs<2^100)/\0<n/\n<14/\(∃k,k<n*n*n/\aL m (dY n x k)%((n:Int)*n)=0)/\ ∀(k:Nat) (bo:Bool) H',aL m (dY n x k)%((n:Int)*n)=0->(∀j,j<k-> ¬aL m (dY n x j)%((n:Int)*n)=0) ->(bo=true↔mE m n x (dY n x k) S) ->az H H'->Q (.bl bo) H'
theorem t7(F:eT K mg "_law_is_step" ko gp)(iN:mg "all"=none)(mC:mg "abs"=none)(g9:cQ P w K mg base cC 3 "_law_lift" gZ yZ)(bw:cQ P w K mg base cC 3 "_law_determinant" b7 vm)(kE:cQ P w K mg base cC 3 "_law_is_good" gn vL):cQ P w K mg base cC 4 "_law_is_step" gp vM:=by
 refine F.ok nQ (λvs H Q E h=> ?_) (λf cdv A outer s H vs Q E hr h=> ?_)
 ·obtain⟨t,bs,m,n,b,x,r,rs,S,rfl,hT,bP,hB,hx,hR,cS,bS,bx,n0,Nb,RP,q⟩:=h
  rfl
 obtain⟨t,bs,m,n,b,x,r,rs,S,rfl,hT,bP,hB,hx,hR,cS,bS,bx,n0,Nb,RP,q⟩:=h
 have hu:=hr.units
 refine⟨_,(lV (@ay _ _ _ _ _ (aW (i:=4) nQ.nd rfl (Or.inr rfl) (aN g9 hr rfl aM (af (pv 0) (af (pv 1) (af (pv 2) ak)))))
  (@ay _ _ _ _ _ (cI (bz kQ (bZ n5 rfl mC PyProof.Rows.boot_abs (af (aN bw hr rfl aM (af (pv 3) ak)) ak)) (av bQ (av bQ (pv 1) (pv 1)) (pv 1)) (aZ _)) (@aK _ _ _ (aT nX)) dJ)
  (@aK _ _ _ (aT (bZ (pP rfl) rfl iN PyProof.Rows.boot_all (af (dZ (N2:=["_law_form_here","_law_p","_law_line","_law_table","_law_up"]) (te:=(jW vL [] E0 (bE (aH 1) (bE (aH 2) (bE (aH 3) (bE (aH 5) (bE (aH 0) gF))))))) rfl (cJ (pv 3)) (by kernel_rfl) rfl (λ_ _ _=>by exact dU (aN kE hr rfl aM (af (pv 1) (af (pv 2) (af (pv 3) (af (pv 5) (af (pv 0) ak)))))))) ak))))))),?_⟩
 have nn:n*n<=169:=Nat.mul_le_mul (show n<=13 by omega) (show n<=13 by omega)
 have SS:0<n*n:=Nat.mul_pos n0 n0
 have Wz:n*n*n<=169*13:=Nat.mul_le_mul nn (show n<=13 by omega)
 have e2:(n:Int)*n=((n*n:Nat):Int):=by push_cast;rfl
 have e3:(n:Int)*n*n=((n*n*n:Nat):Int):=by push_cast;rfl
 refine⟨_,rfl,_,rfl,_,rfl,t,bs,m,n,b,x,rfl,hT,bP,hB,n0,Nb,hx,(λi hi=>aG (bx i hi) (by decide)),RP,λk c0 H1 hk ck fk s1 fc ec=> ?_⟩
 refine⟨_,rfl,r,rs,S,rfl,hR.same s1,cS,bS.mono (by decide),_,rfl,_,rfl,_,rfl,_,_,rfl,rfl,.inl ⟨by omega,by omega⟩,_,rfl,_,_,rfl,rfl,.inl ⟨by omega,by omega⟩,rfl,_,rfl,jo (λc=> ?_) (λc=> ?_)⟩
 ·refine q k false H1 ck fk ⟨λz=>(nomatch z),λz=> ?_⟩ s1
  exfalso
  have h1:=z.1
  have h2:¬(V.int (if aX S<0 then-(aX S)else aX S)=V.int ((n:Int)*n*n)):=by simpa using c
  apply h2
  congr 1
  split<;>omega
 have dS:aX S=(n:Int)*n*n∨aX S= -((n:Int)*n*n):=by
  have h2:V.int (if aX S<0 then-(aX S)else aX S)=V.int ((n:Int)*n*n):=Classical.byContradiction λz=>c (by simpa using z)
  injection h2 with h2
  split at h2<;>omega
 have l3:(rs.map V.ref).length=3:=by rw[List.length_map,<-hR.2.length,cS.1]
 have bv:∀i,i<3->(dY n x k i).natAbs<2^400:=λi hi=>by
  have dg:digit n k i<=k:=by
   unfold digit
   split
   ·exact Nat.div_le_self _ _
   ·split
    ·exact Nat.le_trans (Nat.mod_le _ _) (Nat.div_le_self _ _)
    ·exact Nat.mod_le _ _
  have c1:((digit n k i:Int)*n).natAbs<2^(20+4):=di (by omega) (by omega)
  exact aG (oq (aG (bx i hi) (show 100<=100 by decide)) (aG c1 (by decide))) (by decide)
 obtain⟨Vi,RX⟩:=rf (hR.same s1) cS.2
 refine⟨_,rfl,r,rfl,⟨_,aS.of (hR.same s1).1⟩,λD hD=>rP (c8 (aS.of (hR.same s1).1)) (by rw[l3];decide) hD (fB H1 (tH m n x (dY n x k))) (λv hv H2 Q2 s2 k2=> ?_) (λH2 s2 e4=> ?_)⟩
 ·obtain⟨d,RY,rfl⟩:=List.mem_map.mp hv
  have sm:=s1.trans s2
  have br:=Es cS bS _ (show gr H1 d∈S by rw[<-RX];exact List.mem_map_of_mem RY)
  refine⟨_,rfl,_,rfl,_,rfl,_,rfl,_,rfl,t,bs,m,n,b,x,c0,dY n x k,d,ao (gr H1 d),rfl,hT.same sm,bP,hB,sm _ _ hx,s2 _ _ ec,s2 _ _ (Vi d RY).1,(λi hi=>aG (bx i hi) (by decide)),bv,(λi hi=>aG (br i hi) (by decide)),n0,Nb,λb' H3 hb' s3=> ?_⟩
  have:b'=tH m n x (dY n x k) (gr H1 d):=by rw[Bool.eq_iff_iff,hb',pJ]
  rw[this]
  exact k2 H3 s3
 ·rw[Qa,RX]at e4
  exact⟨D,S.map (tH m n x (dY n x k)),rfl,aS.of e4,q k _ H2 ck fk (Bb cS dS) (s1.trans s2)⟩
end
end CM
set_option maxHeartbeats 1000000
namespace CM
open PySem L2
section
variable{P:Program}{w:World}{K:PySem.W.Frag}{mg:Str->Option Value}{base:Heap}
def Ez(K:PySem.W.Frag)(tabs gT:List Addr):Sp:=λvs H Q _=> ∃(a:Addr) (ns:List Int),vs=[.ref a]/\aS K H a (ns.map V.int)/\ns.length<=63/\(∀T∈tabs,H T=some (bN T))/\(∀T∈gT,H T=some .BE)/\ ∀H',az H H'->Q (.bl true) H'
theorem Qd{f:Addr}{fd:FuncData}{bq aU aO aD aP cg aY bT bB:Addr}{tabs gT:List Addr}(oS:bq∈gT)(yf:aU∈tabs)(tK:aO∈tabs)(mF:aD∈tabs)(vN:aP∈tabs)(yg:cg∈tabs)(pR:aY∈tabs)(vO:bT∈tabs)(oU:bB∈tabs)(F:NR K "law" "law" qV f fd)(aJ:mg "range"=none)(gB:mg "len"=none)(qh:cQ P w K mg base cC 13 "_law_bag" j8 (Od K))(oV:cQ P w K mg base cC 13 "_law_form" jh Eg)(nj:cQ P w K mg base cC 13 "_law_prime" iD AJ)(nk:cQ P w K mg base cC 13 "_law_lines" iE AK)(aI:cQ P w K mg base cC 13 "_law_take" dN kr)(kF:cQ P w K mg base cC 13 "_law_product" gj Ex)(fK:cQ P w K mg base cC 13 "_law_basis" gy vn)(ic:cQ P w K mg base cC 13 "_law_step" g6 (zw bq))(iJ:cQ P w K mg base cC 13 "_law_is_step" gp vM)(jP:cQ P w K mg base cC 13 "_law_asked" iF (Oi aU aO aD aP cg aY bT bB))(kG:cQ P w K mg base cC 13 "_law_spoiled" gq (Ey bq)):qA P w K mg base cC 14 f fd ["_law_script"] (Ez K tabs gT):=by
 refine F.ok m9 (λvs H Q E h=> ?_) (λcdv A outer s H vs Q E hr h=> ?_)
 ·obtain⟨a,ns,rfl,hS,h63,hT,hC,q⟩:=h
  rfl
 obtain⟨a,ns,rfl,hS,h63,hT,hC,q⟩:=h
 have hu:=hr.units
 refine⟨_,(lV (@ay _ _ _ _ _ (aW (i:=1) m9.nd rfl (Or.inl rfl) (aN qh hr rfl aM (af (pv 0) (af ah ak))))
  (@ay _ _ _ _ _ (aW (i:=2) m9.nd rfl (Or.inl rfl) (aN oV hr rfl aM (af (pv 1) (af ah ak))))
  (@ay _ _ _ _ _ (aW (i:=3) m9.nd rfl (Or.inl rfl) (aN nj hr rfl aM (af (pv 1) (af (pv 2) ak))))
  (@ay _ _ _ _ _ (aW (i:=4) m9.nd rfl (Or.inl rfl) (aN nk hr rfl aM (af (pv 2) (af (pv 3) ak))))
  (@ay _ _ _ _ _ (aW (i:=5) m9.nd rfl (Or.inl rfl) (aF aq (pv 4) (aN aI hr rfl aM (af (pv 1) (af (bZ eE rfl gB PySem.boot_len (af (pv 4) ak)) ak))) (λ_ _=>rfl)))
  (@ay _ _ _ _ _ (aW (i:=6) m9.nd rfl (Or.inl rfl) (aN kF hr rfl aM (af (aN fK hr rfl aM (af (pv 1) (af ah ak))) (af (aN ic hr rfl aM (af (pv 2) (af (pv 3) (af (pv 5) ak)))) ak))))
  (@ay _ _ _ _ _ (cI (PW.pt (zY (jV (jk (aN iJ hr rfl aM (af (pv 2) (af (pv 3) (af (pv 5) (af (pv 6) ak))))))) (uB (jV (jk (aN jP hr rfl aM (af (pv 2) (af (pv 3) (af (pv 5) (af (pv 6) (af nX ak))))))))))) (@aK _ _ _ (aT nX)) dJ)
  (@ay _ _ _ _ _ (jm PassesOwn.never rfl (bg rfl aJ (af ah ak)) (bL (i:=7) m9.nd rfl (Or.inl rfl)) (lV (@ay _ _ _ _ _ (aW (i:=8) m9.nd rfl (Or.inl rfl) (aN kG hr rfl aM (af (pv 1) (af (pv 2) (af (pv 3) (af (pv 4) (af (pv 6) ak)))))))
  (@aK _ _ _ (cI (jV (jk (aN jP hr rfl aM (af (pv 2) (af (pv 3) (af (pv 5) (af (pv 8) (af (aN iJ hr rfl aM (af (pv 2) (af (pv 3) (af (pv 5) (af (pv 8) ak))))) ak)))))))) (@aK _ _ _ (aT nX)) dJ)))))
  (@aK _ _ _ (aT nX))))))))))),?_⟩
 refine⟨_,rfl,a,ns,_,rfl,hS,h63,by decide,by decide,λB H1 s1 fB hb=> ?_⟩
 have fin:∀H',SB B H1 H'->az H H':=λH' s b o e=>s.1 b o (λz=>by rw[z,fB]at e;cases e) (s1 b o e)
 refine⟨_,rfl,B,_,rfl,hb,by decide,by decide,λm t bs H2 vp dm ev ab le s2 ft fb nt nn T=> ?_⟩
 have Na:t≠B:=hb.ne ft
 have Ly:B∉bs:=λz=>hb.ne (fb B z) rfl
 refine⟨_,rfl,_,rfl,B,t,bs,m,rfl,s2.2,T,vp,dm,ev,ab,le,λp H3 hp hd s3=> ?_⟩
 have T3:=T.sb s3 Na Ly
 have p0:2<p/\p<14:=by
  simp only[List.mem_cons,List.not_mem_nil,or_false]at hp
  omega
 refine⟨_,rfl,_,rfl,t,bs,m,p,rfl,T3,vp,dm,ev,by omega,by omega,λS ls H4 s4 fS Ve nSl TS=> ?_⟩
 obtain⟨n,rfl⟩:∃n:Nat,p=(n:Int):=⟨p.toNat,by omega⟩
 have hq:n∈([3,5,7,11,13]:List Nat):=by
  simp only[List.mem_cons,List.not_mem_nil,or_false]at hp ⊢
  omega
 rw[Int.toNat_natCast]at TS
 have cL:=Cq ev hq hd
 have hL:∀r∈(f7 n (n*n)).filter λr=>decide (aL m (ao r)%(n:Int)=0),r∈f7 n (n*n)/\aL m (ao r)%(n:Int)=0:=λr hr=>by
  rw[List.mem_filter]at hr
  exact⟨hr.1,of_decide_eq_true hr.2⟩
 generalize(f7 n (n*n)).filter (λr=>decide (aL m (ao r)%(n:Int)=0))=L at TS cL hL
 have SV:∀x∈L,x=[ao x 0,ao x 1,ao x 2]/\jf (n:Int) (ao x)/\aL m (ao x)%(n:Int)=0:=λx hx=>by
  obtain⟨e3,L1⟩:=Cn (show 1<n by omega) (hL x hx).1
  exact⟨e3,L1,(hL x hx).2⟩
 have Xh:=SB.of s3.2 s4
 have T4:=T3.same s4
 have nS:S≠B:=s3.2.ne fS
 have Tv:B∉ls:=λz=>s3.2.ne (Ve B z) rfl
 have tF:=(s2.trans s3).trans Xh
 have ll:(ls.map V.ref).length=L.length:=by rw[List.length_map];exact TS.2.length.symm
 refine⟨_,rfl,_,rfl,_,rfl,S,_,rfl,.inl (aS.of TS.1),B,_,rfl,Xh.2,(by rw[ll];omega),log2_small (by rw[ll];omega) (by rw[ll];omega),λd2 H5 d3 d4 s5=> ?_⟩
 have VM:=TS.sb s5 nS Tv
 obtain⟨v,hv,hv2⟩:=yJ (xs:=ls.map V.ref) (k:=d2) d3 d4
 obtain⟨b,rfl,hbm⟩:=om (List.mem_of_getElem? hv2)
 obtain⟨r,hr,er⟩:=yH VM.2 hbm
 obtain⟨e3,L1,hc⟩:=SV r hr
 have nb:b≠B:=λz=>Tv (by rw[<-z];exact hbm)
 have bx:∀i,i<3->(ao r i).natAbs<2^100:=λi hi=>aG (a:=4) (by have:=L1.lo i hi;have:=L1.hi i hi;omega) (by decide)
 have eb:H5 b=some (.lst [.int (ao r 0),.int (ao r 1),.int (ao r 2)]):=by
  rw[er]
  conv=>lhs;rw[e3]
  rfl
 refine⟨S,_,_,_,rfl,rfl,aS.of VM.1,hv,?_⟩
 have T5:=T4.sb s5 Na Ly
 have Kc:=tF.trans s5
 obtain⟨i0,t0,F0⟩:=yR ev hp hd L1
 obtain⟨g1,g2,g3,g4⟩:=mS ev hp hc F0
 refine⟨_,rfl,B,_,rfl,Kc.2,by decide,by decide,λG gt gs H6 cG bG dG s6 fG fgs nG TG=> ?_⟩
 have Hj:=Kc.trans s6
 have T6:=T5.sb s6 Na Ly
 have Zy:=VM.sb s6 nS Tv
 have Xi:=s6.1 _ _ nb eb
 refine⟨_,rfl,_,rfl,_,rfl,t,bs,m,n,b,ao r,rfl,T6,vp,dm,ev,hp,hd,Xi,L1,hc,(fin _ Hj) _ _ (hC _ oS),λk F u us H7 ck fk st1 st2 s7 fu TF cF eF=> ?_⟩
 have bF:Bd 160 F:=KD cF eF (by decide+kernel)
 refine⟨gt,gs,G,u,us,F,rfl,TG.same s7,TF,cG,cF,bG.mono (by decide),bF.mono (by decide),λw ws H8 s8 fw TW=> ?_⟩
 have cW:bI (ie G F):=cD _
 have bW:Bd 270 (ie G F):=(qG bG bF).mono (by decide)
 have VN:=st2 G dG
 generalize ie G F=W at TW cW bW VN
 have Tw:=s7.trans s8
 have Tz:=Hj.trans (SB.of Hj.2 Tw)
 have T8:=T6.same Tw
 have Zz:=Zy.same Tw
 have VO:=Tw _ _ Xi
 refine⟨_,rfl,_,rfl,_,rfl,_,rfl,t,bs,m,n,b,ao r,w,ws,W,rfl,T8,vp,dm,VO,TW,cW,bW.mono (by decide),bx,by omega,by omega,⟨_,g1,g3⟩,λk2 bo H9 VP VQ KI s9=> ?_⟩
 have ek:k=k2:=qQ (P:=λk=>aL m (dY n (ao r) k)%((n:Int)*n)=0) ck fk VP VQ
 subst ek
 have eo:bo=true:=KI.mpr VN
 subst eo
 refine⟨_,rfl,pK ?_⟩
 have Om:=Tz.trans (SB.of Tz.2 s9)
 refine⟨_,rfl,_,rfl,_,rfl,_,rfl,t,bs,m,n,b,ao r,w,ws,W,true,rfl,T8.same s9,vp,dm,ev,ab,le,hp,hd,s9 _ _ VO,L1,hc,TW.same s9,cW,bW.mono (by decide),(fin _ Om) _ _ (hT _ yf),(fin _ Om) _ _ (hT _ tK),(fin _ Om) _ _ (hT _ mF),(fin _ Om) _ _ (hT _ vN),(fin _ Om) _ _ (hT _ yg),(fin _ Om) _ _ (hT _ pR),(fin _ Om) _ _ (hT _ vO),(fin _ Om) _ _ (hT _ oU),⟨k,ck,fk,λ_=>VN,λ_=>rfl⟩,λHa sa=>⟨_,rfl,pK ?_⟩⟩
 have Sj:=s9.trans sa
 have Ho:=Tz.trans (SB.of Tz.2 Sj)
 have Ta:=T8.same Sj
 have ZA:=Zz.same Sj
 have ZC:=Sj _ _ VO
 have Xj:=TW.same Sj
 have nW:=zv Ho.2 Xj (by rw[cW.1];decide) cW.2
 refine⟨5,rfl,by decide,by decide,fh (n:=5) (λi σ H'=> ∃o7 o8,σ=[some (.ref a),some (.ref B),some (.ref t),some (.int (n:Int)),some (.ref S),some (.ref b),some (.ref w),o7,o8]/\SB B Ha H') ⟨_,_,rfl,SB.refl Ho.2⟩ (λi σ Hs hi hh=> ?_) (λσ H' hh=> ?_)⟩
 rotate_left
 ·obtain⟨o7,o8,rfl,sh⟩:=hh
  exact q H' (fin H' (Ho.trans sh))
 obtain⟨o7,o8,rfl,sh⟩:=hh
 have ZD:=Ho.trans sh
 refine⟨_,rfl,_,rfl,_,rfl,_,rfl,_,rfl,B,t,bs,m,n,S,ls,L,w,ws,W,rfl,sh.2,Ta.sb sh Na Ly,vp,dm,ev,hp,hd,ZA.sb sh nS Tv,by omega,by omega,SV,Xj.sb sh nW.1 nW.2,cW,bW,(fin _ ZD) _ _ (hC _ oS),λx xs U Hb cU bU sb fx TU=> ?_⟩
 have TH:=sh.trans sb
 have Tb:=Ta.sb TH Na Ly
 have Xk:=TH.1 _ _ nb ZC
 refine⟨_,rfl,_,rfl,_,rfl,_,rfl,_,rfl,_,rfl,_,rfl,_,rfl,t,bs,m,n,b,ao r,x,xs,U,rfl,Tb,vp,dm,Xk,TU,cU,bU,bx,by omega,by omega,⟨_,g1,g3⟩,λk2 bo Hc VP VQ KI sc=> ?_⟩
 have LA:=TH.trans (SB.of TH.2 sc)
 refine⟨t,bs,m,n,b,ao r,x,xs,U,bo,rfl,Tb.same sc,vp,dm,ev,ab,le,hp,hd,sc _ _ Xk,L1,hc,TU.same sc,cU,bU,(fin _ (Ho.trans LA)) _ _ (hT _ yf),(fin _ (Ho.trans LA)) _ _ (hT _ tK),(fin _ (Ho.trans LA)) _ _ (hT _ mF),(fin _ (Ho.trans LA)) _ _ (hT _ vN),(fin _ (Ho.trans LA)) _ _ (hT _ yg),(fin _ (Ho.trans LA)) _ _ (hT _ pR),(fin _ (Ho.trans LA)) _ _ (hT _ vO),(fin _ (Ho.trans LA)) _ _ (hT _ oU),⟨k2,VP,VQ,KI⟩,λHd sd=>⟨_,rfl,pK ?_⟩⟩
 exact⟨_,_,rfl,LA.trans (SB.of LA.2 sd)⟩
end
end CM
set_option maxHeartbeats 1000000
namespace CM
open PySem L2
section
variable{P:Program}{w:World}{K:PySem.W.Frag}{mg:Str->Option Value}{base:Heap}
end
theorem all_mk{l:PySem.W.OpenLaw}{q:Program}{loose:List Str}{mean:ExcName->Option Value}{w:World}{K:PySem.W.Frag}{h:Heap}{mg mb:Str->Option Value}{fa pT CV Bg qi vP zC vQ rj t8 vR zD Bh zE Bj zF Bl Bm xj vS xo Nz GC CW Bo vU nV GD Qe yh NB xq rm CY zG Bp rq zH GF sI vV xr vW vX yi Bq pU GG zI vY KP:Addr}(X:K.In h)(Tp:PyProof.Rows.Top q loose mean mg mb h)(ZE:mg "law"=some (.ref fa))
  (lK:FnAt K "_law_stairs" lD pT)
  (qj:FnAt K "_law_bag" qd CV)
  (oW:FnAt K "_law_take" oG Bg)
  (gW:FnAt K "_law_determinant" gU qi)
  (kH:FnAt K "_law_pairing" j9 vP)
  (nq:FnAt K "_law_worth" mX zC)
  (kI:FnAt K "_law_carried" kh vQ)
  (iK:FnAt K "_law_drawn_form" iC rj)
  (jE:FnAt K "_law_is_above" jz t8)
  (kJ:FnAt K "_law_reduced" ki vR)
  (nu:FnAt K "_law_basis" mY zD)
  (oX:FnAt K "_law_form" oJ Bh)
  (nv:FnAt K "_law_prime" m5 zE)
  (oY:FnAt K "_law_rows" oK Bj)
  (nC:FnAt K "_law_lines" m6 zF)
  (oZ:FnAt K "_law_lift" oM Bl)
  (o9:FnAt K "_law_copy" oH Bm)
  (lM:FnAt K "turned_over" lq xj)
  (kK:FnAt K "signed_minor" j7 vS)
  (lN:FnAt K "determinant" lu xo)
  (zJ:FnAt K "cover" yT Nz)
  (sJ:FnAt K "low_row" rV GC)
  (ql:FnAt K "is_whole" p8 CW)
  (vZ:FnAt K "is_row" vd Bo)
  (qm:FnAt K "is_table" p9 vU)
  (jF:FnAt K "is_even_table" jx nV)
  (sL:FnAt K "is_form" rS GD)
  (CZ:FnAt K "half" Cv Qe)
  (sM:FnAt K "pairing" rT yh)
  (zK:FnAt K "worth" yU NB)
  (lO:FnAt K "is_prime_by" ly xq)
  (iL:FnAt K "refuse_no_prime" iy rm)
  (qo:FnAt K "upturned" qc CY)
  (nE:FnAt K "line_under" mU zG)
  (v5:FnAt K "slopes" vh Bp)
  (nF:FnAt K "last_slope" mV rq)
  (nH:FnAt K "first_lift" mW zH)
  (sN:FnAt K "is_line" rW GF)
  (iZ:FnAt K "refuse_no_line" iU sI)
  (kL:FnAt K "_law_product" kg vV)
  (lP:FnAt K "_law_across" lC xr)
  (kM:FnAt K "_law_is_good" kj vW)
  (kN:FnAt K "_law_is_step" ko vX)
  (sO:FnAt K "is_good" rX yi)
  (pe:FnAt K "_law_step" oN Bq)
  (lQ:FnAt K "steps_along" lA pU)
  (sP:FnAt K "is_step" rY GG)
  (nI:FnAt K "_law_asked" m8 zI)
  (kO:FnAt K "_law_spoiled" kq vY)
  {Qg KQ:Option Addr}{Qh:Array (Option Value)}{Qi KR KS KU Dc KW:Value}(EA:PySem.W.nsIn K mainGlobals "law"=some (some (.ref KP)))(KY:K.lookup KP=some ⟨Qi,Qg,.func (PySem.W.fnOf "law" "law" (gQ qV) (eY qV) (aA qV) .none KR KS KU KQ Dc KW),Qh⟩)(KZ:PySem.W.codeIn K Dc "law"=true)(La:PySem.W.keepIn K (.ref KP)=true)
  {xu:DefRec}(lR:(PyProof.Rows.recsOf q).find? (λe=>e.name==("_law_stairs":Str))=some xu)
  {Lb:DefRec}(v7:(PyProof.Rows.recsOf q).find? (λe=>e.name==("is_row":Str))=some Lb)
  {Dd:DefRec}(qp:(PyProof.Rows.recsOf q).find? (λe=>e.name==("is_table":Str))=some Dd)
  {t9:DefRec}(jG:(PyProof.Rows.recsOf q).find? (λe=>e.name==("is_even_table":Str))=some t9)
  {GH:DefRec}(sQ:(PyProof.Rows.recsOf q).find? (λe=>e.name==("pairing":Str))=some GH)
  {Lc:DefRec}(v8:(PyProof.Rows.recsOf q).find? (λe=>e.name==("slopes":Str))=some Lc)
  {zL:DefRec}(nJ:(PyProof.Rows.recsOf q).find? (λe=>e.name==("last_slope":Str))=some zL)
  {GI:DefRec}(sR:(PyProof.Rows.recsOf q).find? (λe=>e.name==("is_good":Str))=some GI)
  {xw:DefRec}(lS:(PyProof.Rows.recsOf q).find? (λe=>e.name==("steps_along":Str))=some xw)
  (De:PySem.W.nsIn K mainGlobals "list"=some none)
  (zM:PySem.W.nsIn K mainGlobals "range"=some none)
  (Ld:PySem.W.nsIn K mainGlobals "len"=some none)
  (v9:PySem.W.nsIn K mainGlobals "sorted"=some none)
  (Le:PySem.W.nsIn K mainGlobals "abs"=some none)
  (Lf:PySem.W.nsIn K mainGlobals "zip"=some none)
  (Lg:PySem.W.nsIn K mainGlobals "int"=some none)
  (Lh:PySem.W.nsIn K mainGlobals "min"=some none)
  (nK:PySem.W.nsIn K mainGlobals "isinstance"=some none)
  (y_bool:PySem.W.nsIn K mainGlobals "bool"=some none)
  (Li:PySem.W.nsIn K mainGlobals "all"=some none)
  {jC:_}(jH:PySem.W.nsIn K mainGlobals "GREATEST_HALF"=some (some (Value.int 200 jC)))
  (Lj:PySem.W.nsIn K mainGlobals "sum"=some none)
  {jj:Addr}{GJ:Option Addr}{Lk:Nat}{GK:Array (Option Value)}{Df Dg Dh Di Dj:_}(wc:PySem.W.nsIn K mainGlobals "PRIMES"=some (some (Value.ref jj)))(sS:K.lookup jj=some ⟨.type "tuple",GJ,.seq #[.int 3 Df,.int 5 Dg,.int 7 Dh,.int 11 Di,.int 13 Dj] Lk,GK⟩)
  (Lm:PySem.W.nsIn K mainGlobals "max"=some none)
  (Ln:PySem.W.nsIn K mainGlobals "any"=some none)
  (ap:Ii K [Bo,vU,nV,yh,Bp,rq,yi,pU] [pT]=true)
  :∃(fd:FuncData) (tabs gT:List Addr),(∀(s:Shared) (v:Value),BindsTo s fd ⟨[v],[]⟩ [("_law_script",v)])/\(∀T∈tabs++gT,isCodeTable h T/\h.get? T=some {cls:= .none,data:= .fields #[]})/\(∀T∈tabs,T∉gT)/\ ∀base:Heap,K.In base->base.Ns mainGlobals mg->BM mg base->qA l.prog w K mg base cC 40 fa fd ["_law_script"] (Ez K tabs gT):=by
 have G:=Tp.g
 have e:=ZE.symm.trans (PySem.W.mg_of X G EA)
 cases e
 have Xl:=PySem.W.mg_of X G EA
 obtain⟨bq,xx,we,wg,dR⟩:=lK.yS (ps:=gO) Tp X lR (λ_ _ _ _ _ _ us hl=>match us,hl with| [_],_=>rfl)
 have Dk:=qj.fun (ps:=j8) Tp X (λ_ _ _ _ _ _ us hl=>match us,hl with| [_,_],_=>rfl)
 have Br:=oW.fun (ps:=dN) Tp X (λ_ _ _ _ _ _ us hl=>match us,hl with| [_,_],_=>rfl)
 have qt:=gW.fun (ps:=b7) Tp X (λ_ _ _ _ _ _ us hl=>match us,hl with| [_],_=>rfl)
 have wj:=kH.fun (ps:=dO) Tp X (λ_ _ _ _ _ _ us hl=>match us,hl with| [_,_,_],_=>rfl)
 have zN:=nq.fun (ps:=gx) Tp X (λ_ _ _ _ _ _ us hl=>match us,hl with| [_,_],_=>rfl)
 have wm:=kI.fun (ps:=gk) Tp X (λ_ _ _ _ _ _ us hl=>match us,hl with| [_,_],_=>rfl)
 have rz:=iK.fun (ps:=eO) Tp X (λ_ _ _ _ _ _ us hl=>match us,hl with| [_,_],_=>rfl)
 have uc:=jE.fun (ps:=fV) Tp X (λ_ _ _ _ _ _ us hl=>match us,hl with| [_],_=>rfl)
 have wo:=kJ.fun (ps:=gm) Tp X (λ_ _ _ _ _ _ us hl=>match us,hl with| [_,_],_=>rfl)
 have zO:=nu.fun (ps:=gy) Tp X (λ_ _ _ _ _ _ us hl=>match us,hl with| [_,_],_=>rfl)
 have Bs:=oX.fun (ps:=jh) Tp X (λ_ _ _ _ _ _ us hl=>match us,hl with| [_,_],_=>rfl)
 have zP:=nv.fun (ps:=iD) Tp X (λ_ _ _ _ _ _ us hl=>match us,hl with| [_,_],_=>rfl)
 have Bt:=oY.fun (ps:=ji) Tp X (λ_ _ _ _ _ _ us hl=>match us,hl with| [_],_=>rfl)
 have zQ:=nC.fun (ps:=iE) Tp X (λ_ _ _ _ _ _ us hl=>match us,hl with| [_,_],_=>rfl)
 have Bu:=oZ.fun (ps:=gZ) Tp X (λ_ _ _ _ _ _ us hl=>match us,hl with| [_,_,_],_=>rfl)
 have Bv:=o9.fun (ps:=gY) Tp X (λ_ _ _ _ _ _ us hl=>match us,hl with| [_],_=>rfl)
 have xy:=lM.fun (ps:=gG) Tp X (λ_ _ _ _ _ _ us hl=>match us,hl with| [_],_=>rfl)
 have wu:=kK.fun (ps:=gi) Tp X (λ_ _ _ _ _ _ us hl=>match us,hl with| [_,_,_],_=>rfl)
 have xA:=lN.fun (ps:=eV) Tp X (λ_ _ _ _ _ _ us hl=>match us,hl with| [_],_=>rfl)
 have NC:=zJ.fun (ps:=qR) Tp X (λ_ _ _ _ _ _ us hl=>match us,hl with| [_],_=>rfl)
 have GL:=sJ.fun (ps:=mj) Tp X (λ_ _ _ _ _ _ us hl=>match us,hl with| [_],_=>rfl)
 have Dl:=ql.fun (ps:=iR) Tp X (λ_ _ _ _ _ _ us hl=>match us,hl with| [_],_=>rfl)
 obtain⟨aU,Lo,GN,GO,GP⟩:=vZ.yS (ps:=l9) Tp X v7 (λ_ _ _ _ _ _ us hl=>match us,hl with| [_],_=>rfl)
 obtain⟨aO,Dm,Bw,Bx,By⟩:=qm.yS (ps:=iS) Tp X qp (λ_ _ _ _ _ _ us hl=>match us,hl with| [_],_=>rfl)
 obtain⟨aD,ud,sU,sV,sW⟩:=jF.yS (ps:=fP) Tp X jG (λ_ _ _ _ _ _ us hl=>match us,hl with| [_],_=>rfl)
 have GQ:=sL.fun (ps:=mh) Tp X (λ_ _ _ _ _ _ us hl=>match us,hl with| [_],_=>rfl)
 have Qj:=CZ.fun (ps:=vf) Tp X (λ_ _ _ _ _ _ us hl=>match us,hl with| [_],_=>rfl)
 obtain⟨aP,GR,Dn,Dp,Dq⟩:=sM.yS (ps:=jS) Tp X sQ (λ_ _ _ _ _ _ us hl=>match us,hl with| [_,_,_],_=>rfl)
 have ND:=zK.fun (ps:=pD) Tp X (λ_ _ _ _ _ _ us hl=>match us,hl with| [_,_],_=>rfl)
 have xB:=lO.fun (ps:=gH) Tp X (λ_ _ _ _ _ _ us hl=>match us,hl with| [_,_],_=>rfl)
 have rA:=iL.fun (ps:=eN) Tp X (λ_ _ _ _ _ _ us hl=>match us,hl with| [_,_],_=>rfl)
 have Dr:=qo.fun (ps:=iT) Tp X (λ_ _ _ _ _ _ us hl=>match us,hl with| [_,_],_=>rfl)
 have zT:=nE.fun (ps:=iz) Tp X (λ_ _ _ _ _ _ us hl=>match us,hl with| [_,_,_],_=>rfl)
 obtain⟨cg,Lp,GS,GU,GV⟩:=v5.yS (ps:=oE) Tp X v8 (λ_ _ _ _ _ _ us hl=>match us,hl with| [_,_,_],_=>rfl)
 obtain⟨aY,zU,xC,xD,xE⟩:=nF.yS (ps:=iA) Tp X nJ (λ_ _ _ _ _ _ us hl=>match us,hl with| [_],_=>rfl)
 have zV:=nH.fun (ps:=iB) Tp X (λ_ _ _ _ _ _ us hl=>match us,hl with| [_,_,_],_=>rfl)
 have GW:=sN.fun (ps:=mq) Tp X (λ_ _ _ _ _ _ us hl=>match us,hl with| [_,_,_],_=>rfl)
 have sX:=iZ.fun (ps:=fC) Tp X (λ_ _ _ _ _ _ us hl=>match us,hl with| [_,_,_],_=>rfl)
 have wz:=kL.fun (ps:=gj) Tp X (λ_ _ _ _ _ _ us hl=>match us,hl with| [_,_],_=>rfl)
 have xF:=lP.fun (ps:=gM) Tp X (λ_ _ _ _ _ _ us hl=>match us,hl with| [_,_,_],_=>rfl)
 have wA:=kM.fun (ps:=gn) Tp X (λ_ _ _ _ _ _ us hl=>match us,hl with| [_,_,_,_,_],_=>rfl)
 have wB:=kN.fun (ps:=gp) Tp X (λ_ _ _ _ _ _ us hl=>match us,hl with| [_,_,_,_],_=>rfl)
 obtain⟨bT,GX,Ds,Dt,Du⟩:=sO.yS (ps:=mw) Tp X sR (λ_ _ _ _ _ _ us hl=>match us,hl with| [_,_,_,_,_],_=>rfl)
 have BA:=pe.fun (ps:=g6) Tp X (λ_ _ _ _ _ _ us hl=>match us,hl with| [_,_,_],_=>rfl)
 obtain⟨bB,xG,wC,wD,wF⟩:=lQ.yS (ps:=gK) Tp X lS (λ_ _ _ _ _ _ us hl=>match us,hl with| [_,_,_,_],_=>rfl)
 have GY:=sP.fun (ps:=mz) Tp X (λ_ _ _ _ _ _ us hl=>match us,hl with| [_,_,_,_],_=>rfl)
 have zW:=nI.fun (ps:=iF) Tp X (λ_ _ _ _ _ _ us hl=>match us,hl with| [_,_,_,_,_],_=>rfl)
 have wG:=kO.fun (ps:=gq) Tp X (λ_ _ _ _ _ _ us hl=>match us,hl with| [_,_,_,_,_],_=>rfl)
 have Sk:=HU (st:=qV) KY KZ La
 have eX:=PySem.W.mg_none_of X G De
 have aJ:=PySem.W.mg_none_of X G zM
 have gB:=PySem.W.mg_none_of X G Ld
 have vI:=PySem.W.mg_none_of X G v9
 have mC:=PySem.W.mg_none_of X G Le
 have nU:=PySem.W.mg_none_of X G Lf
 have oO:=PySem.W.mg_none_of X G Lg
 have Ke:=PySem.W.mg_none_of X G Lh
 have cB:=PySem.W.mg_none_of X G nK
 have r8:=PySem.W.mg_none_of X G y_bool
 have iN:=PySem.W.mg_none_of X G Li
 have jD:=PySem.W.mg_of X G jH
 have qY:=PySem.W.mg_none_of X G Lj
 have vB:=PySem.W.mg_of X G wc
 have vC:∀H:Hp,pN K H jj [.int 3,.int 5,.int 7,.int 11,.int 13]:=λH=> .inr ⟨_,_,_,sS,rfl,rfl,(by show 5<=sizeLine;decide),(.cons ⟨_,rfl⟩ (.cons ⟨_,rfl⟩ (.cons ⟨_,rfl⟩ (.cons ⟨_,rfl⟩ (.cons ⟨_,rfl⟩ .nil)))))⟩
 have Kp:=PySem.W.mg_none_of X G Lm
 have yd:=PySem.W.mg_none_of X G Ln
 refine⟨PySem.W.fnOf "law" "law" (gQ qV) (eY qV) (aA qV) .none KR KS KU KQ Dc KW,[aU,aO,aD,aP,cg,aY,bT,bB],[bq],λs v=> .of_eq rfl,λT hT=> ?_,λT hT hC=> ?_,λbase Ql _ bm=> ?_⟩
 ·simp only[List.mem_append,List.mem_cons,List.not_mem_nil,or_false,or_assoc]at hT
  rcases hT with rfl|rfl|rfl|rfl|rfl|rfl|rfl|rfl|rfl
  ·exact⟨GN,GO⟩
  ·exact⟨Bw,Bx⟩
  ·exact⟨sU,sV⟩
  ·exact⟨Dn,Dp⟩
  ·exact⟨GS,GU⟩
  ·exact⟨xC,xD⟩
  ·exact⟨Ds,Dt⟩
  ·exact⟨wC,wD⟩
  ·exact⟨we,wg⟩
 ·simp only[List.mem_cons,List.not_mem_nil,or_false]at hT hC
  rcases hT with e|e|e|e|e|e|e|e
  ·exact jd ap (by simp) (by simp) GP dR (e.symm.trans hC)
  ·exact jd ap (by simp) (by simp) By dR (e.symm.trans hC)
  ·exact jd ap (by simp) (by simp) sW dR (e.symm.trans hC)
  ·exact jd ap (by simp) (by simp) Dq dR (e.symm.trans hC)
  ·exact jd ap (by simp) (by simp) GV dR (e.symm.trans hC)
  ·exact jd ap (by simp) (by simp) xE dR (e.symm.trans hC)
  ·exact jd ap (by simp) (by simp) Du dR (e.symm.trans hC)
  ·exact jd ap (by simp) (by simp) wF dR (e.symm.trans hC)
 have lJ:=vH (P:=l.prog) (w:=w) (mg:=mg) (base:=base) xx bm eX aJ gB vI mC nU
 have qh:=AG (P:=l.prog) (w:=w) (mg:=mg) (base:=base) Dk gB mC
 have aI:=yW (P:=l.prog) (w:=w) (mg:=mg) (base:=base) Br
 have bw:=pM (P:=l.prog) (w:=w) (mg:=mg) (base:=base) qt
 have bK:=tT (P:=l.prog) (w:=w) (mg:=mg) (base:=base) wj aJ
 have gz:=wU (P:=l.prog) (w:=w) (mg:=mg) (base:=base) zN (bK.mono (by decide))
 have iH:=tU (P:=l.prog) (w:=w) (mg:=mg) (base:=base) wm (bK.mono (by decide))
 have iG:=qe (P:=l.prog) (w:=w) (mg:=mg) (base:=base) rz (aI.mono (by decide))
 have jA:=r6 (P:=l.prog) (w:=w) (mg:=mg) (base:=base) uc (bw.mono (by decide))
 have ku:=tV (P:=l.prog) (w:=w) (mg:=mg) (base:=base) wo aJ (iG.mono (by decide)) (jA.mono (by decide)) (bw.mono (by decide)) (aI.mono (by decide))
 have fK:=wV (P:=l.prog) (w:=w) (mg:=mg) (base:=base) zO aJ nU oO (aI.mono (by decide))
 have oV:=yX (P:=l.prog) (w:=w) (mg:=mg) (base:=base) Bs (ku.mono (by decide)) (aI.mono (by decide)) (iH.mono (by decide)) (fK.mono (by decide))
 have nj:=wW (P:=l.prog) (w:=w) (mg:=mg) (base:=base) zP gB Ke (bw.mono (by decide)) (aI.mono (by decide))
 have oQ:=yY (P:=l.prog) (w:=w) (mg:=mg) (base:=base) Bt aJ
 have nk:=wX (P:=l.prog) (w:=w) (mg:=mg) (base:=base) zQ (oQ.mono (by decide)) (gz.mono (by decide))
 have g9:=y9 (P:=l.prog) (w:=w) (mg:=mg) (base:=base) Bu aJ (gz.mono (by decide))
 have gu:=zc (P:=l.prog) (w:=w) (mg:=mg) (base:=base) Bv eX
 have lF:=vq (P:=l.prog) (w:=w) (mg:=mg) (base:=base) xy aJ
 have kB:=tW (P:=l.prog) (w:=w) (mg:=mg) (base:=base) wu
 have dD:=vt (P:=l.prog) (w:=w) (mg:=mg) (base:=base) xA
 have zd:=Kh (P:=l.prog) (w:=w) (mg:=mg) (base:=base) NC aJ (kB.mono (by decide))
 have sj:=CA (P:=l.prog) (w:=w) (mg:=mg) (base:=base) GL (dD.mono (by decide)) (zd.mono (by decide))
 have iV:=AL (P:=l.prog) (w:=w) (mg:=mg) (base:=base) Dl cB oO r8
 have mD:=Gg (P:=l.prog) (w:=w) (mg:=mg) (base:=base) Lo bm cB eX gB iN (iV.mono (by decide))
 have iW:=AM (P:=l.prog) (w:=w) (mg:=mg) (base:=base) Dm bm cB eX gB iN (mD.mono (by decide))
 have jB:=sf (P:=l.prog) (w:=w) (mg:=mg) (base:=base) ud bm iN aJ (iW.mono (by decide)) (lF.mono (by decide))
 have sq:=CB (P:=l.prog) (w:=w) (mg:=mg) (base:=base) GQ (jB.mono (by decide)) (sj.mono (by decide))
 have CF:=Nc (P:=l.prog) (w:=w) (mg:=mg) (base:=base) Qj jD (sq.mono (by decide)) (dD.mono (by decide))
 have jT:=CD (P:=l.prog) (w:=w) (mg:=mg) (base:=base) GR bm qY nU
 have pG:=Km (P:=l.prog) (w:=w) (mg:=mg) (base:=base) ND (jT.mono (by decide))
 have lG:=vA (P:=l.prog) (w:=w) (mg:=mg) (base:=base) xB vB vC (iV.mono (by decide))
 have iI:=qf (P:=l.prog) (w:=w) (mg:=mg) (base:=base) rA (lG.mono (by decide)) (CF.mono (by decide))
 have iX:=AQ (P:=l.prog) (w:=w) (mg:=mg) (base:=base) Dr aJ
 have nh:=wY (P:=l.prog) (w:=w) (mg:=mg) (base:=base) zT (pG.mono (by decide)) (iX.mono (by decide))
 have vD:=Gi (P:=l.prog) (w:=w) (mg:=mg) (base:=base) Lp bm qY aJ
 have ng:=wZ (P:=l.prog) (w:=w) (mg:=mg) (base:=base) zU bm Kp aJ
 have ni:=w5 (P:=l.prog) (w:=w) (mg:=mg) (base:=base) zV eX (vD.mono (by decide)) (ng.mono (by decide)) (pG.mono (by decide)) (iX.mono (by decide))
 have sr:=CG (P:=l.prog) (w:=w) (mg:=mg) (base:=base) GW (mD.mono (by decide)) (nh.mono (by decide))
 have iY:=qZ (P:=l.prog) (w:=w) (mg:=mg) (base:=base) sX (iI.mono (by decide)) (sr.mono (by decide))
 have kF:=tY (P:=l.prog) (w:=w) (mg:=mg) (base:=base) wz qY aJ
 have lI:=vK (P:=l.prog) (w:=w) (mg:=mg) (base:=base) xF oO aJ (bK.mono (by decide))
 have kE:=t6 (P:=l.prog) (w:=w) (mg:=mg) (base:=base) wA yd iN aJ (bK.mono (by decide))
 have iJ:=t7 (P:=l.prog) (w:=w) (mg:=mg) (base:=base) wB iN mC (g9.mono (by decide)) (bw.mono (by decide)) (kE.mono (by decide))
 have sF:=CS (P:=l.prog) (w:=w) (mg:=mg) (base:=base) GX bm yd nU (jT.mono (by decide))
 have ic:=zA (P:=l.prog) (w:=w) (mg:=mg) (base:=base) BA (g9.mono (by decide)) (lI.mono (by decide)) (lJ.mono (by decide))
 have lH:=vG (P:=l.prog) (w:=w) (mg:=mg) (base:=base) xG bm mC iN (iW.mono (by decide)) (dD.mono (by decide)) (ni.mono (by decide)) (sF.mono (by decide))
 have sH:=CT (P:=l.prog) (w:=w) (mg:=mg) (base:=base) GY (iY.mono (by decide)) (lH.mono (by decide))
 have jP:=xg (P:=l.prog) (w:=w) (mg:=mg) (base:=base) zW eX cB r8 (gu.mono (by decide)) (sH.mono (by decide))
 have kG:=tZ (P:=l.prog) (w:=w) (mg:=mg) (base:=base) wG eX aJ gB (aI.mono (by decide)) (gu.mono (by decide)) (ic.mono (by decide))
 exact(Qd (P:=l.prog) (w:=w) (mg:=mg) (base:=base) (tabs:=[aU,aO,aD,aP,cg,aY,bT,bB]) (gT:=[bq]) (bq:=bq) (by simp) (aU:=aU) (by simp) (aO:=aO) (by simp) (aD:=aD) (by simp) (aP:=aP) (by simp) (cg:=cg) (by simp) (aY:=aY) (by simp) (bT:=bT) (by simp) (bB:=bB) (by simp) Sk aJ gB (qh.mono (by decide)) (oV.mono (by decide)) (nj.mono (by decide)) (nk.mono (by decide)) (aI.mono (by decide)) (kF.mono (by decide)) (fK.mono (by decide)) (ic.mono (by decide)) (iJ.mono (by decide)) (jP.mono (by decide)) (kG.mono (by decide))).mono (by decide)
theorem walk{l:PySem.W.OpenLaw}{q:Program}{loose:List Str}{XP:(Str->Option Value) ->Heap->Prop}{YP:World->Heap->Prop}{d:DefRec}{K:Params->PySem.W.Frag}(hn:l.most=some 63)(hdf:d.params.defaults=[])
  (hY:∀(w:World) (h:Heap),YP w h->(K w.params).In h)(hcl:∀(w:World),PySem.W.kb_classed (K w.params)=true)
  (F:∀(w:World) (mg mb:Str->Option Value) (mean:ExcName->Option Value) (fa:Addr) (h:Heap),(K w.params).In h->PyProof.Rows.Top q (PySem.W.looseW q loose) mean mg mb h->mg d.name=some (.ref fa) ->
   ∃(fd:FuncData) (tabs gT:List Addr),(∀(s:Shared) (u:Value),BindsTo s fd ⟨[u],[]⟩ [("_law_script",u)])/\(∀T∈tabs++gT,isCodeTable h T/\h.get? T=some {cls:= .none,data:= .fields #[]})/\(∀T∈tabs,T∉gT)/\
    ∀base:Heap,(K w.params).In base->base.Ns mainGlobals mg->BM mg base->qA l.prog w (K w.params) mg base cC 40 fa fd ["_law_script"] (Ez (K w.params) tabs gT)):
  PySem.W.WalkO q loose XP YP l.row.toRowW d [] (λf vs=>PySem.call f vs):=
 L2.Ij (n:=63) (k:=40) (x:= "_law_script") (sp:=Ez) hn (by decide) hdf ⟨rfl,by decide,by decide⟩ hY hcl F (λ_ tabs gT H a ns hl hT hC hS Q hQ=>⟨a,ns,rfl,hS,hl,hT,hC,hQ⟩)
theorem ws:PySem.W.OpenLaw.wellSaid PySem.Challenge.rw_conekin_k45_what_is_a_step=true:=by kernel_rfl
end CM
def PySem.W.Fast.tw17283402801249277156 : Nat := 0
def PySem.W.Fast.tw12079763418926285651 : Nat := 0
def PySem.W.Fast.tw9335191566850495574 : Nat := 0
def PySem.W.Fast.tw10064787389204674547 : Nat := 0
def PySem.W.Fast.tw3268804487132672168 : Nat := 0
def PySem.W.Fast.tw5095232515626354766 : Nat := 0
def PySem.W.Fast.tw14824201928668701170 : Nat := 0
def PySem.W.Fast.tw6992223685344292820 : Nat := 0
def PySem.W.Fast.tw14070432578361241131 : Nat := 0
def PySem.W.Fast.tw16695662446095594797 : Nat := 0
def PySem.W.Fast.tw5327234290682391479 : Nat := 0
def PySem.W.Fast.tw1119948387213830889 : Nat := 0
def PySem.W.Fast.tw14436955001903944893 : Nat := 0
def PySem.W.Fast.tw7649701731215812810 : Nat := 0
def PySem.W.Fast.tw5840968342420873852 : Nat := 0
def PySem.W.Fast.tw14982674754985996759 : Nat := 0
def PySem.W.Fast.tw5964264716116646685 : Nat := 0
def PySem.W.Fast.tw17876942615682357720 : Nat := 0
def PySem.W.Fast.tw10128809605970387955 : Nat := 0
def PySem.W.Fast.tw9661464989881431829 : Nat := 0
def PySem.W.Fast.tw16570982479804205608 : Nat := 0
def PySem.W.Fast.tw3322947802274099460 : Nat := 0
def PySem.W.Fast.tw15788727372153530077 : Nat := 0
def PySem.W.Fast.tw7137485660291649047 : Nat := 0
def PySem.W.Fast.tw7681300299567411050 : Nat := 0
def PySem.W.Fast.tw16509209344163364493 : Nat := 0
def PySem.W.Fast.tw15748017168573832853 : Nat := 0
def PySem.W.Fast.tw3157986931444908275 : Nat := 0
def PySem.W.Fast.tw8493488334918261390 : Nat := 0
def PySem.W.Fast.tw2403911834660782894 : Nat := 0
def PySem.W.Fast.tw13965595359676058146 : Nat := 0
def PySem.W.Fast.tw12699744711814753783 : Nat := 0
def PySem.W.Fast.tw4951434384123007775 : Nat := 0
def PySem.W.Fast.tw1890570139055811311 : Nat := 0
def PySem.W.Fast.tw11502734189069108187 : Nat := 0
def PySem.W.Fast.tw8304206628598424879 : Nat := 0
def PySem.W.Fast.tw7872037210630372278 : Nat := 0
def PySem.W.Fast.tw2646331855366569376 : Nat := 0
def PySem.W.Fast.tw17389235987033716508 : Nat := 0
def PySem.W.Fast.tw16554271669644547311 : Nat := 0
def PySem.W.Fast.tw10153169737805870653 : Nat := 0
end
open PySem PySem.W PyProof.Rows
set_option maxRecDepth 100000 in
set_option maxHeartbeats 0 in
theorem PySem.Challenge.cw_conekin_k45_what_is_a_step_holds : PySem.Challenge.rw_conekin_k45_what_is_a_step.Holds := by
 w_on;refine PySem.W.holds_law CM.ws λsaid=> ?_;k_head;(case hw=>w_witness2)
 k_fill
 refine CM.walk (l:=PySem.Challenge.rw_conekin_k45_what_is_a_step) rfl rfl (λw h Y=>by first|exact PySem.W.kIn_of Y|exact PySem.W.km_in_of Y) ?cl ?F
 case cl=>
  intro w
  first|kernel_rfl|(trace_state;k_is)
 case F=>
  intro w mg mb mean fa h KX Tp hmg
  refine' CM.all_mk KX Tp hmg ?lK ?qj ?oW ?gW ?kH ?nq ?kI ?iK ?jE ?kJ ?nu ?oX ?nv ?oY ?nC ?oZ ?o9 ?lM ?kK ?lN ?zJ ?sJ ?ql ?vZ ?qm ?jF ?sL ?CZ ?sM ?zK ?lO ?iL ?qo ?nE ?v5 ?nF ?nH ?sN ?iZ ?kL ?lP ?kM ?kN ?sO ?pe ?lQ ?sP ?nI ?kO ?EA ?KY ?KZ ?La ?lR ?v7 ?qp ?jG ?sQ ?v8 ?nJ ?sR ?lS ?De ?zM ?Ld ?v9 ?Le ?Lf ?Lg ?Lh ?nK ?y_bool ?Li ?jH ?Lj ?wc ?sS ?Lm ?Ln ?ap
  (case lK=>exact L2.fnAt (by k_is) (by k_is) (by k_is) (by k_is))
  (case qj=>exact L2.fnAt (by k_is) (by k_is) (by k_is) (by k_is))
  (case oW=>exact L2.fnAt (by k_is) (by k_is) (by k_is) (by k_is))
  (case gW=>exact L2.fnAt (by k_is) (by k_is) (by k_is) (by k_is))
  (case kH=>exact L2.fnAt (by k_is) (by k_is) (by k_is) (by k_is))
  (case nq=>exact L2.fnAt (by k_is) (by k_is) (by k_is) (by k_is))
  (case kI=>exact L2.fnAt (by k_is) (by k_is) (by k_is) (by k_is))
  (case iK=>exact L2.fnAt (by k_is) (by k_is) (by k_is) (by k_is))
  (case jE=>exact L2.fnAt (by k_is) (by k_is) (by k_is) (by k_is))
  (case kJ=>exact L2.fnAt (by k_is) (by k_is) (by k_is) (by k_is))
  (case nu=>exact L2.fnAt (by k_is) (by k_is) (by k_is) (by k_is))
  (case oX=>exact L2.fnAt (by k_is) (by k_is) (by k_is) (by k_is))
  (case nv=>exact L2.fnAt (by k_is) (by k_is) (by k_is) (by k_is))
  (case oY=>exact L2.fnAt (by k_is) (by k_is) (by k_is) (by k_is))
  (case nC=>exact L2.fnAt (by k_is) (by k_is) (by k_is) (by k_is))
  (case oZ=>exact L2.fnAt (by k_is) (by k_is) (by k_is) (by k_is))
  (case o9=>exact L2.fnAt (by k_is) (by k_is) (by k_is) (by k_is))
  (case lM=>exact L2.fnAt (by k_is) (by k_is) (by k_is) (by k_is))
  (case kK=>exact L2.fnAt (by k_is) (by k_is) (by k_is) (by k_is))
  (case lN=>exact L2.fnAt (by k_is) (by k_is) (by k_is) (by k_is))
  (case zJ=>exact L2.fnAt (by k_is) (by k_is) (by k_is) (by k_is))
  (case sJ=>exact L2.fnAt (by k_is) (by k_is) (by k_is) (by k_is))
  (case ql=>exact L2.fnAt (by k_is) (by k_is) (by k_is) (by k_is))
  (case vZ=>exact L2.fnAt (by k_is) (by k_is) (by k_is) (by k_is))
  (case qm=>exact L2.fnAt (by k_is) (by k_is) (by k_is) (by k_is))
  (case jF=>exact L2.fnAt (by k_is) (by k_is) (by k_is) (by k_is))
  (case sL=>exact L2.fnAt (by k_is) (by k_is) (by k_is) (by k_is))
  (case CZ=>exact L2.fnAt (by k_is) (by k_is) (by k_is) (by k_is))
  (case sM=>exact L2.fnAt (by k_is) (by k_is) (by k_is) (by k_is))
  (case zK=>exact L2.fnAt (by k_is) (by k_is) (by k_is) (by k_is))
  (case lO=>exact L2.fnAt (by k_is) (by k_is) (by k_is) (by k_is))
  (case iL=>exact L2.fnAt (by k_is) (by k_is) (by k_is) (by k_is))
  (case qo=>exact L2.fnAt (by k_is) (by k_is) (by k_is) (by k_is))
  (case nE=>exact L2.fnAt (by k_is) (by k_is) (by k_is) (by k_is))
  (case v5=>exact L2.fnAt (by k_is) (by k_is) (by k_is) (by k_is))
  (case nF=>exact L2.fnAt (by k_is) (by k_is) (by k_is) (by k_is))
  (case nH=>exact L2.fnAt (by k_is) (by k_is) (by k_is) (by k_is))
  (case sN=>exact L2.fnAt (by k_is) (by k_is) (by k_is) (by k_is))
  (case iZ=>exact L2.fnAt (by k_is) (by k_is) (by k_is) (by k_is))
  (case kL=>exact L2.fnAt (by k_is) (by k_is) (by k_is) (by k_is))
  (case lP=>exact L2.fnAt (by k_is) (by k_is) (by k_is) (by k_is))
  (case kM=>exact L2.fnAt (by k_is) (by k_is) (by k_is) (by k_is))
  (case kN=>exact L2.fnAt (by k_is) (by k_is) (by k_is) (by k_is))
  (case sO=>exact L2.fnAt (by k_is) (by k_is) (by k_is) (by k_is))
  (case pe=>exact L2.fnAt (by k_is) (by k_is) (by k_is) (by k_is))
  (case lQ=>exact L2.fnAt (by k_is) (by k_is) (by k_is) (by k_is))
  (case sP=>exact L2.fnAt (by k_is) (by k_is) (by k_is) (by k_is))
  (case nI=>exact L2.fnAt (by k_is) (by k_is) (by k_is) (by k_is))
  (case kO=>exact L2.fnAt (by k_is) (by k_is) (by k_is) (by k_is))
  (case EA=>k_is);(case KY=>k_is);(case KZ=>k_is);(case La=>k_is)
  (case lR=>rfl)
  (case v7=>rfl)
  (case qp=>rfl)
  (case jG=>rfl)
  (case sQ=>rfl)
  (case v8=>rfl)
  (case nJ=>rfl)
  (case sR=>rfl)
  (case lS=>rfl)
  (case De=>k_is)
  (case zM=>k_is)
  (case Ld=>k_is)
  (case v9=>k_is)
  (case Le=>k_is)
  (case Lf=>k_is)
  (case Lg=>k_is)
  (case Lh=>k_is)
  (case nK=>k_is)
  (case y_bool=>k_is)
  (case Li=>k_is)
  (case jH=>k_is)
  (case Lj=>k_is)
  (case wc=>k_is);(case sS=>k_is)
  (case Lm=>k_is)
  (case Ln=>k_is)
  (case ap=>kernel_rfl)
