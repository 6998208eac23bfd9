import PyProof.Rows.All
import Wide.All
import OpenK.AllK
import Wide.FinOn
import Lean
import PyProof.EqAt
import PyProof.EqKinds
import PyProof.TupleCall
import KE.KLam
import KE.KSortTup
import PyProof.Rows.SortRuns
import PyProof.Rows.SumAny
import PyProof.Rows.SeqJoint
import PySem.Challenge.RW_conekin_k46_ways_back
set_option Elab.async false
set_option linter.all false
set_option maxRecDepth 100000
set_option genSizeOf false
noncomputable section
namespace L2
open PySem PySem.Spec PyProof.Rows
abbrev Key:=Sum Int Str
def Px:Key->Value->Bool
 | .inl k,v=>Value.isInt k v
 | .inr x,v=>Value.isStrOf x v
def VN(w:World):Key->Int
 | .inl k=>hashInt k
 | .inr x=>hashStr w x
theorem fF:∀{k:Key} {v:Value},Px k v=true->(∃i t,k=Sum.inl i/\v=Value.int i t)∨(∃x t,k=Sum.inr x/\v=Value.str x t)
 | .inl i,v,h=>by
  obtain⟨t,e⟩:=Value.isInt_shape (k:=i) (v:=v) h
  exact .inl ⟨i,t,rfl,e⟩
 | .inr x,v,h=>by
  obtain⟨t,e⟩:=Value.isStrOf_shape (x:=x) (v:=v) h
  exact .inr ⟨x,t,rfl,e⟩
theorem Qo(a b:Int):decide ((Sum.inl a:Key)=Sum.inl b)=(a==b):=by
 by_cases e:a=b
 ·subst e;simp
 ·have h:¬(Sum.inl a:Key)=Sum.inl b:=λq=>e (Sum.inl.inj q)
  rw[decide_eq_false h]
  exact(beq_eq_false_iff_ne.mpr e).symm
theorem Qp(a b:Str):decide ((Sum.inr a:Key)=Sum.inr b)=decide (a=b):=by
 by_cases e:a=b
 ·subst e;simp
 ·have h:¬(Sum.inr a:Key)=Sum.inr b:=λq=>e (Sum.inr.inj q)
  rw[decide_eq_false h,decide_eq_false e]
theorem Qq(a:Int)(b:Str):decide ((Sum.inl a:Key)=Sum.inr b)=false:=decide_eq_false (λq=>nomatch q)
theorem Qs(a:Str)(b:Int):decide ((Sum.inr a:Key)=Sum.inl b)=false:=decide_eq_false (λq=>nomatch q)
def zI(prog:Program)(w:World):PySem.KeyKind prog w Key where
 is:=Px
 hash:=VN w
 inj:=λv a b ha hb=>by
  rcases fF ha with⟨i,t,rfl,rfl⟩|⟨x,t,rfl,rfl⟩
  ·rcases fF hb with⟨j,u,rfl,e⟩|⟨y,u,rfl,e⟩
   ·injection e with e1 _;rw[e1]
   ·exact nomatch e
  ·rcases fF hb with⟨j,u,rfl,e⟩|⟨y,u,rfl,e⟩
   ·exact nomatch e
   ·injection e with e1 _;rw[e1]
 byValue:=λk v h=>by
  rcases fF h with⟨i,t,rfl,rfl⟩|⟨x,t,rfl,rfl⟩<;>rfl
 pyHash:=λhv h=>by
  rcases fF hv with⟨i,t,rfl,rfl⟩|⟨x,t,rfl,rfl⟩
  ·exact wpAny_pyHash_int h
  ·exact wpAny_pyHash_str h
 eqBool:=λhu hv h=>by
  rcases fF hu with⟨i,t,rfl,rfl⟩|⟨x,t,rfl,rfl⟩
  ·rcases fF hv with⟨j,u,rfl,rfl⟩|⟨y,u,rfl,rfl⟩
   ·rw[Qo]at h;exact wpAny_eqBool_int h
   ·rw[Qq]at h;exact SeqAt.EqAt.int_str i t y u _ _ _ _ h
  ·rcases fF hv with⟨j,u,rfl,rfl⟩|⟨y,u,rfl,rfl⟩
   ·rw[Qs]at h;exact SeqAt.EqAt.str_int x t j u _ _ _ _ h
   ·rw[Qp]at h;exact wpAny_eqBool_str h
 «strs» :=λk x t v h=>by
  rcases fF h with⟨i,u,rfl,e⟩|⟨y,u,rfl,e⟩
  ·exact nomatch e
  ·injection e with e1 _
   subst e1
   cases v<;>rfl
inductive V where
 |gu|bl (b:Bool)|int (i:Int)|str (x:Str)|Gs (b:Array UInt8)|Gu (b:UInt64)|ref (a:Addr)|ty (n:String)
 deriving DecidableEq
def RelV:V->Value->Prop
 | .gu,u=>u=Value.none
 | .bl b,u=>u=Value.bool b
 | .int i,u=> ∃t,u=Value.int i t
 | .str x,u=> ∃t,u=Value.str x t
 | .Gs b,u=> ∃t,u=Value.bytes b t
 | .Gu b,u=> ∃t,u=Value.float b t
 | .ref a,u=>u=Value.ref a
 | .ty n,u=>u=Value.type n
abbrev Vals:List V->List Value->Prop:=Paired RelV
theorem Vals.length{xs:List V}{us:List Value}(r:Vals xs us):xs.length=us.length:=Paired.length r
theorem Vals.get:∀{xs:List V} {us:List Value} {i:Nat} {x:V},Vals xs us->xs[i]?=some x-> ∃u,us[i]?=some u/\RelV x u
 |_,_,_,_,.nil,e=>by simp at e
 |_,_,0,_,.cons r _,e=>by simp at e;subst e;exact⟨_,rfl,r⟩
 |_,_,i+1,x,.cons _ t,e=>by
  obtain⟨u,h1,h2⟩:=Vals.get (i:=i) (x:=x) t (by simpa using e)
  exact⟨u,by simpa using h1,h2⟩
theorem Vals.set{x:V}{u:Value}(r:RelV x u):∀{xs:List V} {us:List Value} (i:Nat),Vals xs us->Vals (xs.set i x) (us.set i u)
 |_,_,_,.nil=> .nil
 |_,_,0,.cons _ t=> .cons r t
 |_,_,i+1,.cons q t=> .cons q (Vals.set r i t)
theorem Vals.append:∀{xs ys:List V} {us ws:List Value},Vals xs us->Vals ys ws->Vals (xs++ys) (us++ws)
 |_,_,_,_,.nil,s=>s
 |_,_,_,_,.cons r t,s=> .cons r (Vals.append t s)
theorem Vals.take:∀{xs:List V} {us:List Value} (n:Nat),Vals xs us->Vals (xs.take n) (us.take n)
 |_,_,0,_=> .nil
 |_,_,_+1,.nil=> .nil
 |_,_,n+1,.cons r t=> .cons r (Vals.take n t)
def Qt:Option V->Option Value->Prop
 |some v,some u=>RelV v u
 |none,none=>True
 |_,_=>False
def KV{κ:Type}:List (κ×V) ->List (κ×Value) ->Prop:=Paired λ (p:κ×V) (q:κ×Value)=>p.1=q.1/\RelV p.2 q.2
def kV:Key->V
 | .inl i=> .int i
 | .inr x=> .str x
inductive HO where
 |lst (xs:List V)
 |tup (xs:List V)
 |dK (kvs:List (Key×V))|dT (kvs:List (List Key×V))
 |set (S:Int->Bool) (n:Nat)
 |ins (C dx:Addr) (fs:List (Str×V))
 |own (x:Addr)
 |xd (fs:List (Str×V))
 |met (f x:Addr)
 |VO (lo hi:Int)
 |zJ (o:Obj) (u:HO)
 |Qu (ps:Array Value)
 |ext (φ:Heap->Prop)
 |EU
abbrev Hp:=Addr->Option HO
def upd(H:Hp)(a:Addr)(o:HO):Hp:=λb=>if b=a then some o else H b
theorem aA{H:Hp}{a:Addr}{o:HO}:upd H a o a=some o:=by unfold upd;rw[if_pos rfl]
theorem aF{H:Hp}{a b:Addr}{o:HO}(h:b≠a):upd H a o b=H b:=by unfold upd;rw[if_neg h]
theorem d8{H:Hp}{a b:Addr}{o:HO}(h:H a=some o)(h':H b=none):a≠b:=by
 intro e;subst e;rw[h]at h';cases h'
section
variable(P:Program)(w:World)
def gb(H:Hp)(h:Heap)(a:Addr):HO->Prop
 | .lst xs=>xs.length<=sizeLine/\ ∃(its:List Value) (n:Nat),Vals xs its/\h.get? a=some {cls:= .type "list",data:= .seq its.toArray n}
 | .tup xs=>xs.length<=sizeLine/\ ∃its:List Value,Vals xs its/\IsTup h a its.toArray
 | .dK kvs=>kvs.length<=sizeLine/\(a==sysModules)=false/\ ∃vs,KV kvs vs/\h.DictOf (zI P w) a vs
 | .dT kvs=>kvs.length<=sizeLine/\(a==sysModules)=false/\ ∃xs:List (List Key×Addr×Value),
   Paired (λ (p:List Key×V) (q:List Key×Addr×Value)=>p.1=q.1/\H q.2.1=some (.tup (p.1.map kV))/\RelV p.2 q.2.2) kvs xs/\
   ∃o es ep,h.get? a=some o/\o.ExactDict/\o.data= .dict es ep/\es.toList=xs.map (entryOfKey (tupleKind (zI P w)))/\(xs.map (·.1)).Nodup
 | .set S n=>h.SetOf (intKind P w) a S n
 | .ins C dx fs=>H dx=some (.own a)/\fs.length<=1000/\dx≠a/\h.get? a=some (PySem.W.instObj C dx)/\
   ∃mA,h.Ns1 dx mA/\(∀f,Qt (fs.lookup f) (mA f))/\PySem.Within mA (fs.map (·.1))
 | .own _=> ∃o,h.get? a=some o
 | .xd fs=> ∃mA,h.Ns1 a mA/\ ∀f,Qt (fs.lookup f) (mA f)
 | .VO lo hi=> ∃t u v,h.get? a=some {cls:= .type "range",data:= .fields #[.int lo t,.int hi u,.int 1 v]}
 | .zJ o u=>h.get? a=some o/\gb H h a u
 | .Qu ps=>h.get? a=some {cls:= .none,data:= .fields ps}
 | .met f x=>h.get? a=some (PySem.W.methodObj (.ref f) (.ref x))
 | .ext φ=>φ h/\(∃o,h.get? a=some o)/\ ∀h1 h2:Heap,φ h1->(∀o,h1.get? a=some o->h2.get? a=some o) ->φ h2
 | .EU=> ∃ps:Array Value,h.get? a=some {cls:= .none,data:= .fields ps}/\TriplesOk ps.toList/\ ∀(pos:Pos) (cv:Value),codeAmong pos ps.toList=some cv->
   ∃(c:Addr) (oc:Obj) (vs:Array Value) (q:Str) (t:Tok),cv= .ref c/\H c=some (.zJ oc (.ext λ_=>True))/\oc.data= .fields vs/\vs[1]?=some (.str q t)
def vj(H:Hp)(h:Heap):Prop:=∀a o,H a=some o->gb P w H h a o
end
section
variable{P:Program}{w:World}{H H':Hp}{h h':Heap}{a:Addr}{o:HO}
theorem gb.lt(x:gb P w H h a o):a<h.objs.size:=by
 cases o with
 |lst xs=>obtain⟨_,_,_,_,e⟩:=x;exact Heap.lt_size e
 |tup xs=>obtain⟨_,_,_,p⟩:=x;exact p.lt
 |dK kvs=>obtain⟨_,_,_,_,o,_,_,e,_⟩:=x;exact Heap.lt_size e
 |dT kvs=>obtain⟨_,_,_,_,o,_,_,e,_⟩:=x;exact Heap.lt_size e
 |set S n=>obtain⟨o,_,_,_,e,_⟩:=x;exact Heap.lt_size e
 |ins C dx fs=>obtain⟨_,_,_,e,_⟩:=x;exact Heap.lt_size e
 |own y=>obtain⟨_,e⟩:=x;exact Heap.lt_size e
 |xd fs=>obtain⟨_,⟨_,_,_,e,_⟩,_⟩:=x;exact Heap.lt_size e
 |VO lo hi=>obtain⟨_,_,_,e⟩:=x;exact Heap.lt_size e
 |zJ ob u=>obtain⟨e,_⟩:=x;exact Heap.lt_size e
 |Qu ps=>exact Heap.lt_size (show h.get? a=some _ from x)
 |met f y=>exact Heap.lt_size (show h.get? a=some _ from x)
 |ext φ=>obtain⟨_,⟨_,e⟩,_⟩:=x;exact Heap.lt_size e
 |EU=>obtain⟨_,e,_⟩:=x;exact Heap.lt_size e
theorem Paired.SE{α β:Type}{F G:α->β->Prop}:∀{l₁:List α} {l₂:List β},Paired F l₁ l₂->(∀a b,F a b->G a b) ->Paired G l₁ l₂
 |_,_,.nil,_=> .nil
 |_,_,.cons r t,f=> .cons (f _ _ r) (Paired.SE t f)
theorem gb.stay(x:gb P w H h a o)(k:∀b u,(b=a∨H b=some (.own a)) ->h.get? b=some u->h'.get? b=some u)
  (ho:∀b,H b=some (.own a) ->H' b=some (.own a))(ht:∀b xs,H b=some (.tup xs) ->H' b=some (.tup xs))(hz:∀b ob u,H b=some (.zJ ob u) ->H' b=some (.zJ ob u):=by first|exact λ_ _ _ q=>q|assumption):gb P w H' h' a o:=by
 induction o with
 |lst xs=>obtain⟨z,its,n,r,e⟩:=x;exact⟨z,its,n,r,k _ _ (.inl rfl) e⟩
 |tup xs=>obtain⟨z,its,r,ob,e,c⟩:=x;exact⟨z,its,r,ob,k _ _ (.inl rfl) e,c⟩
 |dK kvs=>obtain⟨z,y,vs,r,ob,es,ep,e,c⟩:=x;exact⟨z,y,vs,r,ob,es,ep,k _ _ (.inl rfl) e,c⟩
 |dT kvs=>
  obtain⟨z,y,xs,r,ob,es,ep,e,c⟩:=x
  exact⟨z,y,xs,Paired.SE r λp q z=>⟨z.1,ht _ _ z.2.1,z.2.2⟩,ob,es,ep,k _ _ (.inl rfl) e,c⟩
 |set S n=>obtain⟨ob,es,ep,t,e,c⟩:=x;exact⟨ob,es,ep,t,k _ _ (.inl rfl) e,c⟩
 |ins C dx fs=>
  obtain⟨d,z,ne,e,mA,⟨od,es,ep,e2,c⟩,r⟩:=x
  exact⟨ho _ d,z,ne,k _ _ (.inl rfl) e,mA,⟨od,es,ep,k _ _ (.inr d) e2,c⟩,r⟩
 |own y=>obtain⟨ob,e⟩:=x;exact⟨ob,k _ _ (.inl rfl) e⟩
 |xd fs=>obtain⟨mA,⟨od,es,ep,e,c⟩,r⟩:=x;exact⟨mA,⟨od,es,ep,k _ _ (.inl rfl) e,c⟩,r⟩
 |VO lo hi=>obtain⟨t,u,v,e⟩:=x;exact⟨t,u,v,k _ _ (.inl rfl) e⟩
 |zJ ob u ih=>obtain⟨e,q⟩:=x;exact⟨k _ _ (.inl rfl) e,ih q⟩
 |Qu ps=>
  have e:h.get? a=some {cls:= .none,data:= .fields ps}:=x
  show h'.get? a=some {cls:= .none,data:= .fields ps}
  exact k a _ (.inl rfl) e
 |met f y=>
  have e:h.get? a=some (PySem.W.methodObj (.ref f) (.ref y)):=x
  show h'.get? a=some (PySem.W.methodObj (.ref f) (.ref y))
  exact k a _ (.inl rfl) e
 |ext φ=>obtain⟨p,⟨o,e⟩,st⟩:=x;exact⟨st _ _ p λo q=>k _ _ (.inl rfl) q,⟨o,k _ _ (.inl rfl) e⟩,st⟩
 |EU=>obtain⟨ps,e,t,r⟩:=x;exact⟨ps,k _ _ (.inl rfl) e,t,λpos cv q=>let⟨c,oc,vs,q2,t2,e1,e2,e3⟩:=r pos cv q;⟨c,oc,vs,q2,t2,e1,hz _ _ _ e2,e3⟩⟩
theorem vj.lt(x:vj P w H h)(e:H a=some o):a<h.objs.size:=(x a o e).lt
theorem vj.fresh(x:vj P w H h)(e:h.objs.size<=a):H a=none:=by
 cases q:H a with
 |none=>rfl
 |some u=>exact absurd (Nat.lt_of_lt_of_le (x.lt q) e) (Nat.lt_irrefl _)
theorem vj.kept(x:vj P w H h)(k:∀b u,h.get? b=some u->h'.get? b=some u):vj P w H h':=λa o e=>
 (x a o e).stay (λb u _ q=>k b u q) (λ_ q=>q) λ_ _ q=>q
theorem vj.laid(x:vj P w H h)(k:∀b u,h.get? b=some u->h'.get? b=some u)(hp:h.objs.size<=a)(new:gb P w (upd H a o) h' a o):vj P w (upd H a o) h':=λb u e=>by
 have hn:=x.fresh hp
 by_cases hb:b=a
 ·subst hb;rw[aA]at e;cases e;exact new
 ·rw[aF hb]at e
  exact(x b u e).stay (λc v _ q=>k c v q) (λc q=>by rw[aF (d8 q hn)];exact q) (λc xs q=>by rw[aF (d8 q hn)];exact q) λc ob xs q=>by rw[aF (d8 q hn)];exact q
end
def Rd(H:Hp)(a:Addr)(u:HO):Prop:=H a=some u∨ ∃o,H a=some (.zJ o u)
theorem Rd.of{H:Hp}{a:Addr}{u:HO}(h:H a=some u):Rd H a u:= .inl h
theorem Rd.ok{P:Program}{w:World}{H:Hp}{h:Heap}{a:Addr}{u:HO}(r:Rd H a u)(x:vj P w H h):gb P w H h a u:=by
 rcases r with r|⟨o,r⟩
 ·exact x a u r
 ·obtain⟨_,q⟩:=x a _ r
  exact q
def UZ:Option HO->Prop
 |some (.lst _)=>True
 |some (.dK _)=>True
 |some (.dT _)=>True
 |some (.set _ _)=>True
 |some (.ins _ _ _)=>True
 |some (.ext _)=>True
 |some .EU=>True
 |_=>False
section
variable{P:Program}{w:World}{H:Hp}{h h':Heap}{x e:Addr}{o':HO}
theorem vj.write(ok:vj P w H h)(mu:UZ (H x))(he:e=x∨H e=some (.own x))(k:∀b u,b≠e->h.get? b=some u->h'.get? b=some u)(Sd:∃u,h'.get? e=some u)
  (new:gb P w (upd H x o') h' x o'):vj P w (upd H x o') h':=λb u q=>by
 have SG:∀c y,H c=some (.own y) ->c≠x:=λc y r z=>by subst z;rw[r]at mu;exact mu
 have VP:∀c xs,H c=some (.tup xs) ->c≠x:=λc xs r z=>by subst z;rw[r]at mu;exact mu
 by_cases hb:b=x
 ·subst hb;rw[aA]at q;cases q;exact new
 ·rw[aF hb]at q
  by_cases Qv:b=e
  ·have q':H b=some (.own x):=by
    rcases he with z|z
    ·exact absurd (Qv.trans z) hb
    ·rw[Qv];exact z
   rw[q]at q';cases q'
   obtain⟨v,hv⟩:=Sd
   exact⟨v,by rw[Qv];exact hv⟩
  ·refine(ok b u q).stay (λc v hc r=>k c v ?_ r) (λc r=>by rw[aF (SG c b r)];exact r) (λc xs r=>by rw[aF (VP c xs r)];exact r) λc ob xs r=>by rw[aF (λz=>by subst z;rw[r]at mu;exact mu)];exact r
   rcases hc with rfl|hc
   ·exact Qv
   ·rintro rfl
    rcases he with z|z
    ·exact SG c b hc z
    ·rw[hc]at z;cases z;exact hb rfl
end
structure Un(fs ex:List Addr)(H H':Hp)(h h':Heap):Prop where
 keep:∀b o,h.get? b=some o->H b=none->b∉fs->b∉ex->h'.get? b=some o
 slot:∀b o,h.get? b=some o->H b=none->b∈fs->b∉ex-> ∃sl,h'.get? b=some {o with slots:=sl}
 free:∀b o,h.get? b=some o->H b=none->b∉ex->H' b=none
 there:∀b o,h.get? b=some o->b∉ex-> ∃o',h'.get? b=some o'
 tups:∀b xs,H b=some (.tup xs) ->H' b=some (.tup xs)
 uL:∀b o u,H b=some (.zJ o u) ->H' b=some (.zJ o u)
 vH:∀b ps,H b=some (.Qu ps) -> ∃more,H' b=some (.Qu (ps++more))
section
variable{fs fs' ex ex':List Addr}{H H1 H2:Hp}{h h1 h2 h':Heap}{a x e:Addr}{o:HO}
theorem Un.any(u:Un fs ex H H1 h h1){b:Addr}{ob:Obj}(q:h.get? b=some ob)(n:H b=none)(hx:b∉ex):∃sl,h1.get? b=some {ob with slots:=sl}:=by
 by_cases hb:b∈fs
 ·exact u.slot b ob q n hb hx
 ·exact⟨ob.slots,u.keep b ob q n hb hx⟩
theorem Un.trans(a:Un fs ex H H1 h h1)(b:Un fs ex H1 H2 h1 h2):Un fs ex H H2 h h2 where
 keep:=λc ob q n hc hx=>b.keep c ob (a.keep c ob q n hc hx) (a.free c ob q n hx) hc hx
 slot:=λc ob q n hc hx=>by
  obtain⟨sl,e1⟩:=a.slot c ob q n hc hx
  obtain⟨VQ,e2⟩:=b.slot c _ e1 (a.free c ob q n hx) hc hx
  exact⟨VQ,e2⟩
 free:=λc ob q n hx=>by
  obtain⟨o',e1⟩:=a.there c ob q hx
  exact b.free c o' e1 (a.free c ob q n hx) hx
 there:=λc ob q hx=>by
  obtain⟨o',e1⟩:=a.there c ob q hx
  exact b.there c o' e1 hx
 tups:=λc xs q=>b.tups c xs (a.tups c xs q)
 uL:=λc ob xs q=>b.uL c ob xs (a.uL c ob xs q)
 vH:=λc ps q=>by
  obtain⟨m1,e1⟩:=a.vH c ps q
  obtain⟨m2,e2⟩:=b.vH c _ e1
  exact⟨m1++m2,by rw[e2,Array.append_assoc]⟩
theorem Un.kept(k:∀b u,h.get? b=some u->h'.get? b=some u):Un fs ex H H h h':=
 ⟨λb ob q _ _ _=>k b ob q,λb ob q _ _ _=>⟨ob.slots,k b ob q⟩,λ_ _ _ n _=>n,λb ob q _=>⟨ob,k b ob q⟩,λ_ _ q=>q,λ_ _ _ q=>q,λ_ ps q=>⟨#[],by rw[q];simp⟩⟩
theorem Un.refl:Un fs ex H H h h:=Un.kept λ_ _ q=>q
theorem Un.laid(k:∀b u,h.get? b=some u->h'.get? b=some u)(hp:h.objs.size<=a)(hn:H a=none):Un fs ex H (upd H a o) h h' where
 keep:=λb u q _ _ _=>k b u q
 slot:=λb u q _ _ _=>⟨u.slots,k b u q⟩
 free:=λb u q n _=>by rw[aF (Nat.ne_of_lt (Nat.lt_of_lt_of_le (Heap.lt_size q) hp))];exact n
 there:=λb u q _=>⟨u,k b u q⟩
 tups:=λb xs q=>by rw[aF (d8 q hn)];exact q
 uL:=λb u xs q=>by rw[aF (d8 q hn)];exact q
 vH:=λb ps q=>⟨#[],by rw[aF (d8 q hn),q];simp⟩
theorem Un.write(mu:UZ (H x))(he:e=x∨H e=some (.own x))(k:∀b u,b≠e->h.get? b=some u->h'.get? b=some u)(Sd:∃u,h'.get? e=some u):Un fs ex H (upd H x o) h h':=by
 have hx:∀b,H b=none->b≠x:=λb n z=>by subst z;rw[n]at mu;exact mu
 have hb:∀b,H b=none->b≠e:=λb n z=>by
  subst z
  rcases he with r|r
  ·exact hx b n r
  ·rw[n]at r;cases r
 have hm:∀b u,H b=some u-> ¬UZ (some u) ->b≠x:=λb u q nm z=>by subst z;rw[q]at mu;exact nm mu
 refine⟨λb u q n _ _=>k b u (hb b n) q,λb u q n _ _=>⟨u.slots,k b u (hb b n) q⟩,λb u q n _=>by rw[aF (hx b n)];exact n,λb u q _=> ?_,
  λb xs q=>by rw[aF (hm b _ q λz=>z)];exact q,λb u xs q=>by rw[aF (hm b _ q λz=>z)];exact q,λb ps q=>⟨#[],by rw[aF (hm b _ q λz=>z),q];simp⟩⟩
 by_cases Qv:b=e
 ·subst Qv;exact Sd
 ·exact⟨u,k b u Qv q⟩
end
def Va(h:Heap)(H:Hp):List Addr:=(List.range h.objs.size).filter λa=>(H a).isSome
def xS(h:Heap)(H:Hp):Heap:=PySem.W.hideAll h (Va h H)
theorem Gv(h:Heap)(H:Hp):(xS h H).objs.size=h.objs.size:=PySem.W.hideAll_size _ _
theorem Jj{h:Heap}{H:Hp}{b:Addr}{o:Obj}(e:h.get? b=some o)(n:H b=none):(xS h H).get? b=some o:=
 PySem.W.hideAll_get _ e λhm=>by
  have q:(H b).isSome=true:=(List.mem_filter.mp hm).2
  rw[n]at q;simp at q
theorem Nj{h:Heap}{H:Hp}{b:Addr}{o:Obj}(e:(xS h H).get? b=some o):h.get? b=some o/\H b=none:=by
 have e':h.get? b=some o:=PySem.W.of_hideAll (Va h H) e
 refine⟨e',?_⟩
 cases q:H b with
 |none=>rfl
 |some x=>
  have hm:b∈Va h H:=List.mem_filter.mpr ⟨List.mem_range.mpr (Heap.lt_size e'),by simp[q]⟩
  have z:(xS h H).get? b=none:=PySem.W.hideAll_none (Va h H) hm
  rw[z]at e;cases e
def Nk(g h:Heap)(L:Addr):List (Addr×Obj):=(List.range h.objs.size).filterMap λa=>if a=L∨(g.get? a).isSome=true then none else(h.get? a).map λo=>(a,o)
def rest(g h:Heap)(L d:Addr):List (Addr×Obj):=(Nk g h L).filter λp=>decide (p.1≠d)
structure Mod(K:PySem.W.Frag)(mg:Str->Option Value)(base:Heap):Prop where
 Se:K.In base
 glob:base.Ns mainGlobals mg
 blt:∃mb,base.Ns builtinsNs mb/\ ∀x:Str,x≠ "__name__" ->mb x=bootBuiltins x
 nolimit:base.NoLimit
structure Cx where
 prog:Program
 w:World
 K:PySem.W.Frag
 mg:Str->Option Value
 base:Heap
 A:Around
 N:List Str
 s₀:Shared
 H₀:Hp
 env:Env
 outer:List Env
 stack:List Env
 ex:List Addr
 fn:Str->Bool
 calm:Bool
 pn:List (Addr×Obj)
 xe:Value->Shared->Prop
def frs(l:List Env):List Addr:=l.filterMap (·.frame)
abbrev Cx.fs (X:Cx):List Addr:=frs X.outer
def Py(sc:Scope)(x:Str):Prop:=sc.names.lookup x=some .local∨sc.names.lookup x=some .cell∨sc.names.lookup x=some .free
def Loc(sc:Scope)(x:Str):Prop:=sc.names.lookup x=some .local∨sc.names.lookup x=some .cell
def Look(env:Env)(h:Heap)(m:Str->Option Value)(x:Str)(u:Value):Prop:=
 (env.kindOf x=some .local/\m x=some u)∨((env.kindOf x=some .cell∨env.kindOf x=some .free)/\ ∃c,env.cells.lookup x=some c/\h.IsCell c (some u))
structure Cx.Ok(X:Cx):Prop where
 mod:Mod X.K X.mg X.base
 kind:X.env.scope.kind= .function
 glob:X.env.globals=mainGlobals
 blt:X.env.builtins=builtinsNs
 above:X.s₀.heap.objs.size<=X.env.locals
 inj:∀x y c,X.env.cells.lookup x=some c->X.env.cells.lookup y=some c->x=y
 has:∀x,(X.env.kindOf x=some .cell∨X.env.kindOf x=some .free) -> ∃c,X.env.cells.lookup x=some c
 SH:∀x c,X.fn x=true->X.env.cells.lookup x=some c->X.s₀.heap.objs.size<=c
 hd:X.calm=true->X.A.handled=none
 frames:X.A.frames=some X.stack
 stk:X.stack=X.outer∨(X.stack=X.env::X.outer/\X.env.frame=some X.env.locals)
 Pz:∀b∈X.ex,b≠X.env.locals/\ ∀x c,X.env.cells.lookup x=some c->c≠b
 bs:∀b o,X.base.get? b=some o->X.s₀.heap.get? b=some o/\X.H₀ b=none
 Nl:X.base.objs.size<=X.s₀.heap.objs.size
 Gw:∀b o,X.base.get? b=some o->b∉X.ex
 CU:∀b∈X.ex,b∉X.fs
 uM:X.s₀.heap.FunFrames X.base X.outer
 Sf:∀b∈X.fs,X.H₀ b=none
structure Jk(a b:Array GenState):Prop where
 bare:AllBare b
 size:a.size<=b.size
 old:∀k,k<a.size->b[k]?=a[k]?
theorem Jk.refl{a:Array GenState}(h:AllBare a):Jk a a:=⟨h,Nat.le_refl _,λ_ _=>rfl⟩
theorem Jk.trans{a b c:Array GenState}(x:Jk a b)(y:Jk b c):Jk a c:=⟨y.bare,Nat.le_trans x.size y.size,λk h=>(y.old k (Nat.lt_of_lt_of_le h x.size)).trans (x.old k h)⟩
structure Inv(X:Cx)(pins:List (Addr×Obj))(σ:List (Option V))(H:Hp)(s:Shared):Prop where
 ok:X.Ok
 os:s.os=X.s₀.os
 bare:Jk X.s₀.gens s.gens
 base:Un X.fs X.ex X.H₀ H X.s₀.heap s.heap
 loc:∃m,s.heap.Ns X.env.locals m/\ ∀(i:Nat) (x:Str) (v:V),X.N[i]?=some x->σ[i]?=some (some v) ->Py X.env.scope x-> ∃u,RelV v u/\Look X.env s.heap m x u
 cell:∀x c,X.env.cells.lookup x=some c-> ∃v,s.heap.IsCell c v
 free:H X.env.locals=none
 oB:∀x c,X.env.cells.lookup x=some c->H c=none
 pin:∀p∈X.pn++pins,s.heap.get? p.1=some p.2/\H p.1=none/\p.1≠X.env.locals/\p.1∉X.fs/\ ∀v,p.2.data≠ .cell v
 hok:vj X.prog X.w H s.heap
 len:σ.length=X.N.length
section
variable{X:Cx}{pins:List (Addr×Obj)}{σ:List (Option V)}{H H':Hp}{s:Shared}{h':Heap}
theorem Cx.Ok.VR(ok:X.Ok){b:Addr}{o:Obj}(e:X.base.get? b=some o):b∉X.fs:=λhb=>by
 have:=(ok.uM.mem hb).1
 rw[e]at this;cases this
theorem Inv.bs(I:Inv X pins σ H s):∀b o,X.base.get? b=some o->s.heap.get? b=some o/\H b=none:=λb o e=>
 ⟨I.base.keep b o (I.ok.bs b o e).1 (I.ok.bs b o e).2 (I.ok.VR e) (I.ok.Gw b o e),I.base.free b o (I.ok.bs b o e).1 (I.ok.bs b o e).2 (I.ok.Gw b o e)⟩
theorem Inv.bk(I:Inv X pins σ H s):∀b o,X.base.get? b=some o->s.heap.get? b=some o:=λb o e=>(I.bs b o e).1
theorem Inv.mod(I:Inv X pins σ H s):Mod X.K X.mg X.base:=I.ok.mod
theorem Inv.zK(I:Inv X pins σ H s):X.K.In s.heap:=I.ok.mod.Se.keeps I.bk
theorem Inv.nolimit(I:Inv X pins σ H s):s.heap.NoLimit:=I.ok.mod.nolimit.keeps I.bk
theorem Inv.lt(I:Inv X pins σ H s):X.env.locals<s.heap.objs.size:=let⟨_,hn,_⟩:=I.loc;hn.lt
theorem Inv.sz(I:Inv X pins σ H s):X.s₀.heap.objs.size<=s.heap.objs.size:=Nat.le_trans I.ok.above (Nat.le_of_lt I.lt)
theorem Inv.SI(I:Inv X pins σ H s){a:Addr}(h:s.heap.objs.size<=a):a∉X.fs:=λhb=>by
 obtain⟨_,o,ho,_⟩:=I.ok.uM.mem hb
 exact absurd (Nat.lt_of_lt_of_le (Heap.lt_size ho) (Nat.le_trans I.sz h)) (Nat.lt_irrefl _)
theorem Inv.Qw(I:Inv X pins σ H s):∀x c,X.env.cells.lookup x=some c->c≠X.env.locals:=λx c e z=>by
 obtain⟨v,o,ho,hd⟩:=I.cell x c e
 obtain⟨m,⟨o',es,ep,ho',hd',_⟩,_⟩:=I.loc
 rw[z,ho']at ho;cases ho;rw[hd']at hd;cases hd
theorem Inv.uM(I:Inv X pins σ H s):s.heap.FunFrames X.base X.outer:=by
 have all:∀(l:List Env),(∀b∈frs l,b∈X.fs) ->X.s₀.heap.FunFrames X.base l->s.heap.FunFrames X.base l:=by
  intro l
  induction l with
  |nil=>intro _ _;trivial
  |cons env r ih=>
   intro hs hl
   obtain⟨hk,⟨L,o,hf,hn,ho,hd⟩,hr⟩:=hl
   have hL:L∈X.fs:=hs L (by unfold frs;rw[List.filterMap_cons,hf];exact List.mem_cons_self)
   obtain⟨sl,e⟩:=I.base.slot L o ho (I.ok.Sf L hL) hL λz=>I.ok.CU L z hL
   exact⟨hk,⟨L,_,hf,hn,e,hd⟩,ih (λb hb=>hs b (by unfold frs;rw[List.filterMap_cons,hf];exact List.mem_cons_of_mem _ hb)) hr⟩
 exact all X.outer (λ_ hb=>hb) I.ok.uM
theorem Inv.stack(I:Inv X pins σ H s):s.heap.FunFrames X.base X.stack:=by
 rcases I.ok.stk with e|⟨e,hf⟩
 ·rw[e];exact I.uM
 ·rw[e]
  obtain⟨m,hn,_⟩:=I.loc
  refine .cons (by rw[I.ok.kind];decide) hf hn ?_ I.uM
  exact Heap.get?_none_of_le (Nat.le_trans I.ok.Nl I.ok.above)
theorem Inv.vI(I:Inv X pins σ H s):∀b∈frs X.stack,b∈X.env.locals::X.fs:=λb hb=>by
 rcases I.ok.stk with e|⟨e,hf⟩
 ·rw[e]at hb;exact List.mem_cons_of_mem _ hb
 ·rw[e]at hb
  unfold frs at hb
  rw[List.filterMap_cons,hf]at hb
  exact hb
theorem Inv.vm(I:Inv X pins σ H s):∀b∈frs X.stack,H b=none:=λb hb=>by
 rcases List.mem_cons.mp (I.vI b hb)with e|hb
 ·rw[e];exact I.free
 ·obtain⟨_,o,ho,_⟩:=I.ok.uM.mem hb
  exact I.base.free b o ho (I.ok.Sf b hb) λz=>I.ok.CU b z hb
theorem Inv.step{g':Array GenState}{t':Nat}{d':Drawn}{ch:List Addr}(I:Inv X pins σ H s)
  (hch:∀b∈ch,(b∈X.ex∨X.s₀.heap.objs.size<=b)/\b≠X.env.locals/\(∀x c,X.env.cells.lookup x=some c->c≠b)/\ ∀p∈X.pn++pins,p.1≠b)
  (keep:∀b o,b≠X.env.locals->b∉X.fs->b∉ch->s.heap.get? b=some o->H b=none->h'.get? b=some o)
  (slot:∀b o,b≠X.env.locals->b∈X.fs->b∉ch->s.heap.get? b=some o->H b=none-> ∃sl,h'.get? b=some {o with slots:=sl})(free:∀b o,b∉ch->s.heap.get? b=some o->H b=none->H' b=none)
  (there:∀b o,b∉ch->s.heap.get? b=some o-> ∃o',h'.get? b=some o')
  (tups:∀b xs,H b=some (.tup xs) ->H' b=some (.tup xs))(uL:∀b o u,H b=some (.zJ o u) ->H' b=some (.zJ o u))(vH:∀b ps,H b=some (.Qu ps) -> ∃more,H' b=some (.Qu (ps++more)))
  (ns:∀m,s.heap.Ns X.env.locals m->h'.Ns X.env.locals m)(hok:vj X.prog X.w H' h')(hg:Jk s.gens g'):
  Inv X pins σ H' {s with heap:=h',gens:=g',drawn:=d',toks:=t'}:=by
 have Yh:∀b o,X.s₀.heap.get? b=some o->b≠X.env.locals:=λb o e=>Nat.ne_of_lt (Nat.lt_of_lt_of_le (Heap.lt_size e) I.ok.above)
 have PB:∀b o,X.s₀.heap.get? b=some o->b∉X.ex->b∉ch:=λb o e hx hb=>by
  rcases(hch b hb).1 with z|z
  ·exact hx z
  ·exact absurd (Nat.lt_of_lt_of_le (Heap.lt_size e) z) (Nat.lt_irrefl _)
 have cellK:∀x c,X.env.cells.lookup x=some c-> ∀v,s.heap.IsCell c v->h'.IsCell c v:=λx c e v ⟨o,ho,hd⟩=>by
  have SJ:c∉ch:=λz=>(hch c z).2.2.1 x c e rfl
  by_cases hc:c∈X.fs
  ·obtain⟨sl,q⟩:=slot c o (I.Qw x c e) hc SJ ho (I.oB x c e)
   exact⟨_,q,hd⟩
  ·exact⟨o,keep c o (I.Qw x c e) hc SJ ho (I.oB x c e),hd⟩
 refine⟨I.ok,I.os,I.bare.trans hg,⟨λb o e n hb hx=> ?_,λb o e n hb hx=> ?_,λb o e n hx=> ?_,λb o e hx=> ?_,λb xs e=>tups b xs (I.base.tups b xs e),λb o xs e=>uL b o xs (I.base.uL b o xs e),λb ps e=> ?_⟩,?_,λx c e=> ?_,?_,λx c e=> ?_,λp hp=> ?_,hok,I.len⟩
 ·exact keep b o (Yh b o e) hb (PB b o e hx) (I.base.keep b o e n hb hx) (I.base.free b o e n hx)
 ·obtain⟨sl,e1⟩:=I.base.slot b o e n hb hx
  obtain⟨VQ,e2⟩:=slot b _ (Yh b o e) hb (PB b o e hx) e1 (I.base.free b o e n hx)
  exact⟨VQ,e2⟩
 ·obtain⟨o',e1⟩:=I.base.there b o e hx
  exact free b o' (PB b o e hx) e1 (I.base.free b o e n hx)
 ·obtain⟨o',e1⟩:=I.base.there b o e hx
  exact there b o' (PB b o e hx) e1
 ·obtain⟨m1,e1⟩:=I.base.vH b ps e
  obtain⟨m2,e2⟩:=vH b _ e1
  exact⟨m1++m2,by rw[e2,Array.append_assoc]⟩
 ·obtain⟨m,hn,hl⟩:=I.loc
  refine⟨m,ns m hn,λi x v e1 e2 e3=> ?_⟩
  obtain⟨u,r,l⟩:=hl i x v e1 e2 e3
  refine⟨u,r,?_⟩
  rcases l with l|⟨k,c,e,z⟩
  ·exact .inl l
  ·exact .inr ⟨k,c,e,cellK x c e _ z⟩
 ·obtain⟨v,z⟩:=I.cell x c e
  exact⟨v,cellK x c e v z⟩
 ·obtain⟨m,⟨o,_,_,ho,_⟩,_⟩:=I.loc
  exact free _ o (λz=>(hch _ z).2.1 rfl) ho I.free
 ·obtain⟨v,o,ho,hd⟩:=I.cell x c e
  exact free c o (λz=>(hch c z).2.2.1 x c e rfl) ho (I.oB x c e)
 ·obtain⟨e,n,ne,nf,d⟩:=I.pin p hp
  have SJ:p.1∉ch:=λz=>(hch p.1 z).2.2.2 p hp rfl
  exact⟨keep p.1 p.2 ne nf SJ e n,free p.1 p.2 SJ e n,ne,nf,d⟩
theorem Inv.un{t':Nat}(I:Inv X pins σ H s)(u:Un X.fs [] H H' s.heap h')(hok:vj X.prog X.w H' h'):Inv X pins σ H' {s with heap:=h',toks:=t'}:=by
 obtain⟨m,⟨o,es,ep,ho,r⟩,_⟩:=id I.loc
 obtain⟨sl,hL⟩:=u.any ho I.free (by simp)
 exact I.step (g':=s.gens) (d':=s.drawn) (ch:=[]) (λ_ z=>nomatch z) (λb o _ hb _ e n=>u.keep b o e n hb (by simp)) (λb o _ hb _ e n=>u.slot b o e n hb (by simp)) (λb o _ e n=>u.free b o e n (by simp)) (λb o _ e=>u.there b o e (by simp)) u.tups u.uL u.vH (λm' hm=>by
  obtain⟨o',es',VS,ho',r'⟩:=hm
  rw[ho]at ho';cases ho'
  exact⟨_,es',VS,hL,r'⟩) hok (.refl I.bare.bare)
theorem Inv.call{g':Array GenState}{t':Nat}{d':Drawn}{ch:List Addr}(I:Inv X pins σ H s)(u:Un (frs X.stack) ch H H' s.heap h')(hok:vj X.prog X.w H' h')(hg:Jk s.gens g')
  (hch:∀b∈ch,(b∈X.ex∨X.s₀.heap.objs.size<=b)/\b≠X.env.locals/\(∀x c,X.env.cells.lookup x=some c->c≠b)/\ ∀p∈X.pn++pins,p.1≠b):
  Inv X pins σ H' {s with heap:=h',gens:=g',drawn:=d',toks:=t'}:=by
 obtain⟨m,⟨o,es,ep,ho,r⟩,_⟩:=id I.loc
 obtain⟨sl,hL⟩:=u.any ho I.free λz=>(hch _ z).2.1 rfl
 exact I.step (ch:=ch) hch (λb o hL hb hc e n=>u.keep b o e n (λz=>(List.mem_cons.mp (I.vI b z)).elim hL hb) hc) (λb o _ _ hc e n=>u.any e n hc) (λb o hc e n=>u.free b o e n hc) (λb o hc e=>u.there b o e hc) u.tups u.uL u.vH (λm' hm=>by
  obtain⟨o',es',VS,ho',r'⟩:=hm
  rw[ho]at ho';cases ho'
  exact⟨_,es',VS,hL,r'⟩) hok hg
theorem Inv.turned{t':Nat}{it:Addr}(I:Inv X pins σ H s)(k:∀b o,b≠it->s.heap.get? b=some o->h'.get? b=some o)(hn:H it=none)(hL:it≠X.env.locals)
  (h1:it∈X.ex∨X.s₀.heap.objs.size<=it)(h2:∀x c,X.env.cells.lookup x=some c->c≠it)(h3:∀p∈X.pn++pins,p.1≠it):Inv X pins σ H {s with heap:=h',toks:=t'}:=by
 have SK:∀b u,H b=some u->b≠it:=λb u e z=>by rw[z,hn]at e;cases e
 refine I.step (g':=s.gens) (d':=s.drawn) (ch:=[it]) (λb hb=> ?_) (λb o _ _ hc e _=>k b o (λz=>hc (by simp[z])) e) (λb o _ _ hc e _=>⟨o.slots,k b o (λz=>hc (by simp[z])) e⟩) (λ_ _ _ _ n=>n)
  (λb o hc e=>⟨o,k b o (λz=>hc (by simp[z])) e⟩) (λ_ _ e=>e) (λ_ _ _ e=>e) (λb ps e=>⟨#[],by rw[e];simp⟩) (λm hm=> ?_) (λb u e=> ?_) (.refl I.bare.bare)
 ·have e:b=it:=by simpa using hb
  subst e
  exact⟨h1,hL,h2,h3⟩
 ·obtain⟨o,es,ep,ho,r⟩:=hm
  exact⟨o,es,ep,k _ o (Ne.symm hL) ho,r⟩
 ·refine(I.hok b u e).stay (λc v hc q=>k c v ?_ q) (λ_ q=>q) λ_ _ q=>q
  rcases hc with z|z
  ·rw[z];exact SK b u e
  ·exact SK c _ z
theorem Inv.tok(I:Inv X pins σ H s)(t:Nat):Inv X pins σ H {s with toks:=t}:=I.un (h':=s.heap) (t':=t) Un.refl I.hok
theorem Inv.kept{t':Nat}(I:Inv X pins σ H s)(k:∀b u,s.heap.get? b=some u->h'.get? b=some u):Inv X pins σ H {s with heap:=h',toks:=t'}:=I.un (Un.kept k) (I.hok.kept k)
theorem Inv.laid{a:Addr}{o:HO}{t':Nat}(I:Inv X pins σ H s)(k:∀b u,s.heap.get? b=some u->h'.get? b=some u)(hp:s.heap.objs.size<=a)(new:gb X.prog X.w (upd H a o) h' a o):
  Inv X pins σ (upd H a o) {s with heap:=h',toks:=t'}:=I.un (Un.laid k hp (I.hok.fresh hp)) (I.hok.laid k hp new)
theorem Inv.write{x e:Addr}{o:HO}{t':Nat}(I:Inv X pins σ H s)(mu:UZ (H x))(he:e=x∨H e=some (.own x))(k:∀b u,b≠e->s.heap.get? b=some u->h'.get? b=some u)(Sd:∃u,h'.get? e=some u)
  (new:gb X.prog X.w (upd H x o) h' x o):Inv X pins σ (upd H x o) {s with heap:=h',toks:=t'}:=I.un (Un.write mu he k Sd) (I.hok.write mu he k Sd new)
theorem Inv.j9{rq:List (Addr×Obj)}(I:Inv X pins σ H s)(h:∀p∈rq,s.heap.get? p.1=some p.2/\H p.1=none/\p.1≠X.env.locals/\p.1∉X.fs/\ ∀v,p.2.data≠ .cell v):Inv X rq σ H s:=
 ⟨I.ok,I.os,I.bare,I.base,I.loc,I.cell,I.free,I.oB,λp hp=>(List.mem_append.mp hp).elim (λz=>I.pin p (List.mem_append_left _ z)) (h p),I.hok,I.len⟩
theorem Be{N:List Str}(hN:N.Nodup){i j:Nat}{x:Str}(a:N[i]?=some x)(b:N[j]?=some x):i=j:=by
 obtain⟨h1,e1⟩:=List.getElem?_eq_some_iff.mp a
 obtain⟨h2,e2⟩:=List.getElem?_eq_some_iff.mp b
 exact(List.getElem_inj hN).mp (e1.trans e2.symm)
theorem su{M:Model}{A:Around}{E:Value->Shared->Prop}{i:Nat}{x:Str}{v:V}{u:Value}{Q:Unit->Shared->Prop}(I:Inv X pins σ H s)(hN:X.N.Nodup)(hi:X.N[i]?=some x)(hx:Loc X.env.scope x)(r:RelV v u)
  (h:∀s',Inv X pins (σ.set i (some v)) H s'->(∃a,Heap.SameBut a s.heap s'.heap/\(a=X.env.locals∨X.env.cells.lookup x=some a)) ->Q () s')(hf:X.fn x=true∨X.env.scope.names.lookup x=some .local:=by first|exact .inl rfl|exact .inr rfl|assumption):wpAny M A (storeName X.env x u) Q E s:=by
 obtain⟨m,hn,hl⟩:=id I.loc
 have hcls:(X.env.scope.kind== .class||(X.env.scope.kind== .module && X.env.locals !=X.env.globals))=false:=by rw[I.ok.kind];rfl
 have SM:i<σ.length:=by rw[I.len];exact(List.getElem?_eq_some_iff.mp hi).1
 have Qw:=I.Qw
 have tracked:∀{a:Addr} {h':Heap},(∃o,s.heap.get? a=some o/\H a=none) ->Heap.SameBut a s.heap h'->vj X.prog X.w H h':=λ {a h'} ha hs b ob e=>by
  obtain⟨_,_,hfree⟩:=ha
  refine(I.hok b ob e).stay (λc w' hc q=>(hs.2 c ?_).trans q) (λ_ q=>q) λ_ _ q=>q
  rintro rfl
  rcases hc with rfl|hc
  ·rw[hfree]at e;cases e
  ·rw[hfree]at hc;cases hc
 rcases hx with hk|hk
 ·refine wpAny_storeName_local hk hn (λh' hn' hs=> ?_) hcls
  obtain⟨oL,_,_,Vb,_⟩:=id hn
  refine h _ ⟨I.ok,I.os,I.bare,⟨λb o e n hb hx=> ?_,λb o e n hb hx=> ?_,I.base.free,λb o e hx=> ?_,I.base.tups,I.base.uL,I.base.vH⟩,⟨_,hn',λj y v' e1 e2 e3=> ?_⟩,λy c e=> ?_,I.free,I.oB,λp hp=> ?_,tracked ⟨oL,Vb,I.free⟩ hs,by simpa using I.len⟩ ⟨_,hs,.inl rfl⟩
  ·exact(hs.2 b (Nat.ne_of_lt (Nat.lt_of_lt_of_le (Heap.lt_size e) I.ok.above))).trans (I.base.keep b o e n hb hx)
  ·obtain⟨sl,e1⟩:=I.base.slot b o e n hb hx
   exact⟨sl,(hs.2 b (Nat.ne_of_lt (Nat.lt_of_lt_of_le (Heap.lt_size e) I.ok.above))).trans e1⟩
  ·obtain⟨o',e1⟩:=I.base.there b o e hx
   exact⟨o',(hs.2 b (Nat.ne_of_lt (Nat.lt_of_lt_of_le (Heap.lt_size e) I.ok.above))).trans e1⟩
  ·by_cases hj:j=i
   ·subst hj
    rw[hi]at e1;cases e1
    rw[List.getElem?_set_self SM]at e2
    cases e2
    exact⟨u,r,.inl ⟨hk,by simp⟩⟩
   ·rw[List.getElem?_set_ne (Ne.symm hj)]at e2
    obtain⟨u',r',q⟩:=hl j y v' e1 e2 e3
    refine⟨u',r',?_⟩
    rcases q with⟨k,e⟩|⟨k,c,e,z⟩
    ·refine .inl ⟨k,?_⟩
     have:y≠x:=λe=>hj (Be hN e1 (e▸hi))
     simp[this,e]
    ·exact .inr ⟨k,c,e,z.sameBut hs (Qw y c e)⟩
  ·obtain⟨w',z⟩:=I.cell y c e
   exact⟨w',z.sameBut hs (Qw y c e)⟩
  ·obtain⟨e,n,ne,nf,d⟩:=I.pin p hp
   exact⟨(hs.2 p.1 ne).trans e,n,ne,nf,d⟩
 ·have hfn:X.fn x=true:=by
   rcases hf with z|z
   ·exact z
   ·rw[z]at hk;cases hk
  obtain⟨c,hc⟩:=I.ok.has x (.inl hk)
  obtain⟨w',z⟩:=I.cell x c hc
  refine wpAny_storeName_cell I.ok.kind hk hc z (λh' hc' hs=> ?_)
  obtain⟨oc,hoc,VT⟩:=id z
  refine h {s with heap:=h'} ⟨I.ok,I.os,I.bare,⟨λb o e n hb hx=> ?_,λb o e n hb hx=> ?_,I.base.free,λb o e hx=> ?_,I.base.tups,I.base.uL,I.base.vH⟩,⟨m,hn.sameBut hs (Ne.symm (Qw x c hc)),λj y v' e1 e2 e3=> ?_⟩,λy c' e=> ?_,I.free,I.oB,λp hp=> ?_,tracked ⟨oc,hoc,I.oB x c hc⟩ hs,by simpa using I.len⟩ ⟨c,hs,.inr hc⟩
  ·exact(hs.2 b (Nat.ne_of_lt (Nat.lt_of_lt_of_le (Heap.lt_size e) (I.ok.SH x c hfn hc)))).trans (I.base.keep b o e n hb hx)
  ·obtain⟨sl,e1⟩:=I.base.slot b o e n hb hx
   exact⟨sl,(hs.2 b (Nat.ne_of_lt (Nat.lt_of_lt_of_le (Heap.lt_size e) (I.ok.SH x c hfn hc)))).trans e1⟩
  ·obtain⟨o',e1⟩:=I.base.there b o e hx
   exact⟨o',(hs.2 b (Nat.ne_of_lt (Nat.lt_of_lt_of_le (Heap.lt_size e) (I.ok.SH x c hfn hc)))).trans e1⟩
  ·by_cases hj:j=i
   ·subst hj
    rw[hi]at e1;cases e1
    rw[List.getElem?_set_self SM]at e2
    cases e2
    exact⟨u,r,.inr ⟨.inl hk,c,hc,hc'⟩⟩
   ·rw[List.getElem?_set_ne (Ne.symm hj)]at e2
    obtain⟨u',r',q⟩:=hl j y v' e1 e2 e3
    refine⟨u',r',?_⟩
    rcases q with q|⟨k,c',e,z'⟩
    ·exact .inl q
    ·refine .inr ⟨k,c',e,z'.sameBut hs ?_⟩
     rintro rfl
     exact hj (Be hN e1 (I.ok.inj _ _ _ e hc▸hi))
  ·by_cases hcc:c'=c
   ·subst hcc;exact⟨_,hc'⟩
   ·obtain⟨w2,z2⟩:=I.cell y c' e
    exact⟨w2,z2.sameBut hs hcc⟩
  ·obtain⟨e,n,ne,nf,d⟩:=I.pin p hp
   refine⟨(hs.2 p.1 ?_).trans e,n,ne,nf,d⟩
   intro q
   rw[q,hoc]at e
   have q':oc=p.2:=Option.some.inj e
   exact d w' (by rw[<-q'];exact VT)
theorem rz{M:Model}{A:Around}{E:Value->Shared->Prop}{i:Nat}{x:Str}{v:V}{u:Value}{Q:Unit->Shared->Prop}(I:Inv X pins σ H s)(hN:X.N.Nodup)(hi:X.N[i]?=some x)(hx:Loc X.env.scope x)(r:RelV v u)
  (h:∀s',Inv X pins (σ.set i (some v)) H s'->Q () s')(hf:X.fn x=true∨X.env.scope.names.lookup x=some .local:=by first|exact .inl rfl|exact .inr rfl|assumption):wpAny M A (storeName X.env x u) Q E s:=
 su I hN hi hx r (λs' I' _=>h s' I') hf
theorem Inv.Jl{s':Shared}{ch:List Addr}(I:Inv X pins σ H s)(ho:s'.os=s.os)(u:Un (frs X.stack) ch H H' s.heap s'.heap)(hok:vj X.prog X.w H' s'.heap)(hg:Jk s.gens s'.gens)
  (hch:∀b∈ch,(b∈X.ex∨X.s₀.heap.objs.size<=b)/\b≠X.env.locals/\(∀x c,X.env.cells.lookup x=some c->c≠b)/\ ∀p∈X.pn++pins,p.1≠b):Inv X pins σ H' s':=by
 obtain⟨h',g',d',t',o'⟩:=s'
 have e:o'=s.os:=ho
 subst e
 exact I.call (g':=g') (t':=t') (d':=d') u hok hg hch
end
abbrev XK:=Value->Option Addr->Hp->Prop
abbrev St:=List (Option V)
abbrev VK:=V->Hp->Prop
abbrev TE:=St->Hp->VK->Prop
abbrev TT:=St->Hp->(Bool->Hp->Prop) ->Prop
abbrev TA:=St->Hp->(List V->Hp->Prop) ->Prop
structure Ends where
 nx:St->Hp->Prop
 rt:VK
 bk:St->Hp->Prop:=λ_ _=>False
 ct:St->Hp->Prop:=λ_ _=>False
abbrev TS:=Ends->St->Hp->Prop
def EP(X:Cx)(pins:List (Addr×Obj))(σ:St)(Q:VK)(u:Value)(s':Shared):Prop:=∃v H',Inv X pins σ H' s'/\RelV v u/\Q v H'
def TP(X:Cx)(pins:List (Addr×Obj))(σ:St)(Q:Bool->Hp->Prop)(b:Bool)(s':Shared):Prop:=∃H',Inv X pins σ H' s'/\Q b H'
def AP(X:Cx)(pins:List (Addr×Obj))(σ:St)(Q:List V->Hp->Prop)(us:List Value)(s':Shared):Prop:=∃vs H',Inv X pins σ H' s'/\Vals vs us/\Q vs H'
def SP(X:Cx)(pins:List (Addr×Obj))(D:Ends)(f:Flow)(s':Shared):Prop:=
 match f with
 | .next=> ∃σ' H',Inv X pins σ' H' s'/\D.nx σ' H'
 | .brk=> ∃σ' H',Inv X pins σ' H' s'/\D.bk σ' H'
 | .cont=> ∃σ' H',Inv X pins σ' H' s'/\D.ct σ' H'
 | .ret u=> ∃v σ' H',Inv X pins σ' H' s'/\RelV v u/\D.rt v H'
def PE(X:Cx)(e:Expr)(t:TE):Prop:=
 ∀(pins:List (Addr×Obj)) (s:Shared) (σ:St) (H:Hp) (Q:VK),Inv X pins σ H s->t σ H Q->wpAny (model X.prog X.w) X.A (eval e X.env) (EP X pins σ Q) X.xe s
def PT(X:Cx)(e:Expr)(t:TT):Prop:=
 ∀(pins:List (Addr×Obj)) (s:Shared) (σ:St) (H:Hp) (Q:Bool->Hp->Prop),Inv X pins σ H s->t σ H Q->wpAny (model X.prog X.w) X.A (isTrue e X.env (eval e X.env)) (TP X pins σ Q) X.xe s
def PW(X:Cx)(e:Expr)(t:TT):Prop:=
 ∀(whole:Sem Value) (pins:List (Addr×Obj)) (s:Shared) (σ:St) (H:Hp) (Q:Bool->Hp->Prop),Inv X pins σ H s->t σ H Q->wpAny (model X.prog X.w) X.A (isTrue e X.env whole) (TP X pins σ Q) X.xe s
theorem PW.pt{X:Cx}{e:Expr}{t:TT}(h:PW X e t):PT X e t:=h _
def PA(X:Cx)(es:List Expr)(t:TA):Prop:=
 ∀(pos:Pos) (pins:List (Addr×Obj)) (s:Shared) (σ:St) (H:Hp) (Q:List V->Hp->Prop),Inv X pins σ H s->t σ H Q->wpAny (model X.prog X.w) X.A (spliced (backTo pos (starEach es X.env))) (AP X pins σ Q) X.xe s
def PS(X:Cx)(st:Stmt)(t:TS):Prop:=
 ∀(pins:List (Addr×Obj)) (s:Shared) (σ:St) (H:Hp) (D:Ends),Inv X pins σ H s->t D σ H->wpAny (model X.prog X.w) X.A (exec st X.env) (SP X pins D) X.xe s
def zL(X:Cx)(st:List Stmt)(t:TS):Prop:=
 ∀(pins:List (Addr×Obj)) (s:Shared) (σ:St) (H:Hp) (D:Ends),Inv X pins σ H s->t D σ H->wpAny (model X.prog X.w) X.A (execs st X.env) (SP X pins D) X.xe s
theorem fZ{α:Type}{t:Sem α}{Q Q':α->Shared->Prop}{M:Model}{A:Around}{E:Value->Shared->Prop}{s:Shared}(h:wpAny M A t Q E s)(hQ:∀a s,Q a s->Q' a s):wpAny M A t Q' E s:=wpAny_mono h hQ λ_ _ x=>x
section
variable{X:Cx}
def aD(i:Nat):TE:=λσ H Q=> ∃v,σ[i]?=some (some v)/\Q v H
def tC(v:V):TE:=λ_ H Q=>Q v H
theorem Qx{i:Nat}{x:Str}{pos:Pos}(hN:X.N[i]?=some x)(hv:Py X.env.scope x)(hd:(x==("__debug__":Str))=false:=by decide)(hcd:(x==("__classdict__":Str))=false:=by decide):PE X (.Name x pos) (aD i):=by
 intro pins s σ H Q I h
 obtain⟨v,e,h⟩:=h
 obtain⟨m,hn,hl⟩:=I.loc
 obtain⟨u,r,l⟩:=hl i x v hN e hv
 have fin:EP X pins σ Q u s:=⟨v,H,I,r,h⟩
 rcases l with⟨hk,hm⟩|⟨hk,c,hc,hcell⟩
 ·exact wpAny_Name (wpAny_loadName_local I.ok.kind hk hn hm fin) hd
 ·rcases hk with hk|hk
  ·exact wpAny_Name (wpAny_loadName_cell I.ok.kind hk hc hcell fin) hd
  ·exact wpAny_Name (wpAny_loadName_free I.ok.kind hk hc hcell fin hcd) hd
theorem ah{i j pos}:PE X (.Constant (.int i) j pos) (tC (.int i)):=λ_ _ _ H _ I h=>wpAny_Constant_int ⟨.int i,H,I.tok _,⟨_,rfl⟩,h⟩
theorem jt{b j pos}:PE X (.Constant (.bool b) j pos) (tC (.bl b)):=λ_ _ _ H _ I h=>Constant_bool ⟨.bl b,H,I,rfl,h⟩
theorem vJ{j pos}:PE X (.Constant .none j pos) (tC .gu):=λ_ _ _ H _ I h=>Constant_none ⟨.gu,H,I,rfl,h⟩
def Gl(X:Cx)(x:Str):Prop:=X.env.kindOf x=some .globalImplicit
theorem EV{E:Value->Shared->Prop}{pins:List (Addr×Obj)}{s:Shared}{σ:St}{H:Hp}{x:Str}{u:Value}{pos:Pos}{Q:Value->Shared->Prop}(I:Inv X pins σ H s)(hg:Gl X x)(hm:X.mg x=some u)(h:Q u s)
  (hd:(x==("__debug__":Str))=false:=by decide):wpAny (model X.prog X.w) X.A (eval (.Name x pos) X.env) Q E s:=
 Calls.Name_function_global I.ok.kind hg (Calls.loadGlobal_global (by rw[I.ok.glob];exact I.mod.glob.keeps I.bk) hm h) hd
theorem kG{E:Value->Shared->Prop}{pins:List (Addr×Obj)}{s:Shared}{σ:St}{H:Hp}{x:Str}{u:Value}{pos:Pos}{Q:Value->Shared->Prop}(I:Inv X pins σ H s)(hg:Gl X x)(hm:X.mg x=none)(hv:bootBuiltins x=some u)(h:Q u s)
  (hn:x≠ "__name__":=by decide)(hd:(x==("__debug__":Str))=false:=by decide):wpAny (model X.prog X.w) X.A (eval (.Name x pos) X.env) Q E s:=by
 obtain⟨mb,h1,h2⟩:=I.mod.blt
 exact Calls.Name_function_global I.ok.kind hg (Calls.loadGlobal_builtin (by rw[I.ok.glob];exact I.mod.glob.keeps I.bk) hm (by rw[I.ok.blt];exact h1.keeps I.bk) ((h2 x hn).trans hv) h) hd
theorem EW{x:Str}{v:V}{u:Value}{pos:Pos}(hg:Gl X x)(hm:X.mg x=some u)(r:RelV v u)(hd:(x==("__debug__":Str))=false:=by decide):PE X (.Name x pos) (tC v):=
 λ_ _ _ H _ I h=>EV I hg hm ⟨v,H,I,r,h⟩ hd
theorem jn{x:Str}{v:V}{u:Value}{pos:Pos}(hg:Gl X x)(hm:X.mg x=none)(hv:bootBuiltins x=some u)(r:RelV v u)(hn:x≠ "__name__":=by decide)(hd:(x==("__debug__":Str))=false:=by decide):PE X (.Name x pos) (tC v):=
 λ_ _ _ H _ I h=>kG I hg hm hv ⟨v,H,I,r,h⟩ hn hd
variable{a b:Expr}{ta tb:TE}{pos:Pos}
def tB(t:TE):TT:=λσ H Q=>t σ H λx H1=> ∃c,x= .bl c/\Q c H1
theorem gv{e:Expr}{t:TE}(h:PE X e t)(he:∀whole,isTrue e X.env whole=(do let v<-whole;standAt e.pos;holding [v] (truthy v)):=by intro _;rfl):PT X e (tB t):=by
 intro pins s σ H Q I hw
 refine isTrue_plain (fZ (h pins s σ H _ I hw) λv s1 ⟨x,H1,I1,r1,q1⟩=> ?_) (he _)
 obtain⟨d,rfl,q⟩:=q1
 cases r1
 exact wpAny_truthy_bool ⟨H1,I1,q⟩
variable{tA Vc:TT}{rest:List Expr}
def VU(t u:TT):TT:=λσ H Q=>t σ H λc H1=>if c=true then u σ H1 Q else Q false H1
def Yi(t u:TT):TT:=λσ H Q=>t σ H λc H1=>if c=true then Q true H1 else u σ H1 Q
def SN(t:TT):TT:=λσ H Q=>t σ H λc H1=>Q (!c) H1
theorem Nm(ha:PT X a tA):PW X (.BoolOp .And [a] pos) tA:=by
 intro wh pins s σ H Q I h
 refine isTrue_and (fZ (ha pins s σ H Q I h) λc s1 e=> ?_)
 cases c with
 |true=>exact isTrue_and_nil e
 |false=>exact e
theorem lV(ha:PT X a tA):PW X (.BoolOp .Or [a] pos) tA:=by
 intro wh pins s σ H Q I h
 refine isTrue_or (fZ (ha pins s σ H Q I h) λc s1 e=> ?_)
 cases c with
 |false=>exact isTrue_or_nil e
 |true=>exact e
theorem Qy(ha:PT X a tA)(hb:PW X (.BoolOp .And (b::rest) pos) Vc):PW X (.BoolOp .And (a::b::rest) pos) (VU tA Vc):=by
 intro wh pins s σ H Q I h
 refine isTrue_and (fZ (ha pins s σ H _ I h) λc s1 ⟨H1,I1,q1⟩=> ?_)
 cases c with
 |true=>exact hb wh pins s1 σ H1 Q I1 q1
 |false=>exact⟨H1,I1,q1⟩
theorem oE(ha:PT X a tA)(hb:PW X (.BoolOp .Or (b::rest) pos) Vc):PW X (.BoolOp .Or (a::b::rest) pos) (Yi tA Vc):=by
 intro wh pins s σ H Q I h
 refine isTrue_or (fZ (ha pins s σ H _ I h) λc s1 ⟨H1,I1,q1⟩=> ?_)
 cases c with
 |true=>exact⟨H1,I1,q1⟩
 |false=>exact hb wh pins s1 σ H1 Q I1 q1
theorem gW(ha:PT X a tA):PT X (.UnaryOp .Not a pos) (SN tA):=by
 intro pins s σ H Q I h
 exact isTrue_not (ha pins s σ H (λc H1=>Q (!c) H1) I h)
def SO(ta tb:TE):TE:=λσ H Q=>ta σ H λx H1=> ∃c,x= .bl c/\if c=true then tb σ H1 Q else Q (.bl false) H1
def SQ(ta:TE):TE:=λσ H Q=>ta σ H λx H1=> ∃c,x= .bl c/\Q (.bl (!c)) H1
theorem sD{op}{t:TE}(h:PE X a t):PE X (.BoolOp op [a] pos) t:=λpins s σ H Q I hw=>BoolOp_one (h pins s σ H Q I hw)
theorem qy(ha:PE X a ta)(hb:PE X (.BoolOp .And (b::rest) pos) tb):PE X (.BoolOp .And (a::b::rest) pos) (SO ta tb):=by
 intro pins s σ H Q I h
 refine BoolOp_and (fZ (ha pins s σ H _ I h) λv s1 ⟨x,H1,I1,r1,q1⟩=> ?_)
 obtain⟨c,rfl,q1⟩:=q1
 cases r1
 refine wpAny_truthy_bool ?_
 cases c with
 |true=>exact hb pins s1 σ H1 Q I1 q1
 |false=>exact⟨.bl false,H1,I1,rfl,q1⟩
theorem Qz(ha:PE X a ta):PE X (.UnaryOp .Not a pos) (SQ ta):=by
 intro pins s σ H Q I h
 refine UnaryOp_ (fZ (ha pins s σ H _ I h) λv s1 ⟨x,H1,I1,r1,q1⟩=> ?_)
 obtain⟨c,rfl,q1⟩:=q1
 cases r1
 exact not_of (wpAny_truthy_bool ⟨.bl (!c),H1,I1,rfl,q1⟩)
end
def aN(K:PySem.W.Frag)(H:Hp)(a:Addr)(xs:List V):Prop:=
 Rd H a (.lst xs)∨
  ∃(o:Obj) (its:Array Value) (n:Nat),K.lookup a=some o/\o.cls= .type "list"/\o.dict=none/\o.data= .seq its n/\its.size<=sizeLine/\Vals xs its.toList
def p6(K:PySem.W.Frag)(H:Hp)(a:Addr)(xs:List V):Prop:=
 Rd H a (.tup xs)∨
  ∃(o:Obj) (its:Array Value) (n:Nat),K.lookup a=some o/\o.cls= .type "tuple"/\o.data= .seq its n/\its.size<=sizeLine/\Vals xs its.toList
def VV:Value->Option V
 | .none=>some .gu
 | .bool b=>some (.bl b)
 | .int i _=>some (.int i)
 | .str x _=>some (.str x)
 | .bytes b _=>some (.Gs b)
 | .float b _=>some (.Gu b)
 | .ref a=>some (.ref a)
 | .type n=>some (.ty n)
 |_=>none
theorem RelV.abs{x:V}{u:Value}(r:RelV x u):VV u=some x:=by
 cases x with
 |gu=>cases r;rfl
 |bl _=>cases r;rfl
 |int _=>obtain⟨t,rfl⟩:=r;rfl
 |str _=>obtain⟨t,rfl⟩:=r;rfl
 |Gs _=>obtain⟨t,rfl⟩:=r;rfl
 |Gu _=>obtain⟨t,rfl⟩:=r;rfl
 |ref _=>cases r;rfl
 |ty _=>cases r;rfl
theorem RelV.inj{x y:V}{u:Value}(r:RelV x u)(q:RelV y u):x=y:=Option.some.inj (r.abs.symm.trans q.abs)
theorem Vals.inj:∀{xs ys:List V} {us:List Value},Vals xs us->Vals ys us->xs=ys
 |_,_,_,.nil,.nil=>rfl
 |_,_,_,.cons r t,.cons r' t'=>by rw[r.inj r',Vals.inj t t']
section
variable{X:Cx}{pins:List (Addr×Obj)}{σ:St}{H:Hp}{s:Shared}{a:Addr}{xs ys:List V}
theorem aN.of{K:PySem.W.Frag}(h:H a=some (.lst xs)):aN K H a xs:= .inl (.inl h)
theorem p6.of{K:PySem.W.Frag}(h:H a=some (.tup xs)):p6 K H a xs:= .inl (.inl h)
theorem Inv.list(I:Inv X pins σ H s)(h:aN X.K H a xs):∃its:List Value,Vals xs its/\PlainL s.heap a its.toArray/\xs.length<=sizeLine:=by
 rcases h with h|⟨o,its,n,hk,hc,hd,hs,hz,r⟩
 ·obtain⟨z,its,n,r,e⟩:=h.ok I.hok
  exact⟨its,r,⟨_,n,e,rfl,rfl,rfl⟩,z⟩
 ·refine⟨its.toList,r,⟨o,n,I.zK a o hk,hc,hd,by simpa using hs⟩,?_⟩
  have e:=r.length
  simp only[Array.length_toList]at e
  omega
theorem Inv.tuple(I:Inv X pins σ H s)(h:p6 X.K H a xs):∃its:List Value,Vals xs its/\IsTup s.heap a its.toArray/\xs.length<=sizeLine:=by
 rcases h with h|⟨o,its,n,hk,hc,hs,hz,r⟩
 ·obtain⟨z,its,r,p⟩:=h.ok I.hok
  exact⟨its,r,p,z⟩
 ·refine⟨its.toList,r,⟨o,I.zK a o hk,hc,n,by simpa using hs⟩,?_⟩
  have e:=r.length
  simp only[Array.length_toList]at e
  omega
theorem Inv.vK(I:Inv X pins σ H s)(h:aN X.K H a xs)(h':aN X.K H a ys):xs=ys:=by
 obtain⟨its,r,⟨o,n,e,_,_,d⟩,_⟩:=I.list h
 obtain⟨its',r',⟨o',n',e',_,_,d'⟩,_⟩:=I.list h'
 rw[e]at e';cases e'
 rw[d]at d'
 injection d' with d1 _
 have:its=its':=by simpa using congrArg Array.toList d1
 subst this
 exact r.inj r'
theorem Inv.Gx(I:Inv X pins σ H s)(h:p6 X.K H a xs)(h':p6 X.K H a ys):xs=ys:=by
 obtain⟨its,r,⟨o,e,_,n,d⟩,_⟩:=I.tuple h
 obtain⟨its',r',⟨o',e',_,n',d'⟩,_⟩:=I.tuple h'
 rw[e]at e';cases e'
 rw[d]at d'
 injection d' with d1 _
 have:its=its':=by simpa using congrArg Array.toList d1
 subst this
 exact r.inj r'
end
abbrev Cx.xT (X:Cx) (E:Value->Shared->Prop):Cx:={X with xe:=E}
abbrev Cx.Jf (X:Cx):Cx:=X.xT λ_ _=>False
theorem Cx.Ok.xT{X:Cx}(ok:X.Ok)(E:Value->Shared->Prop):(X.xT E).Ok:=
 ⟨ok.mod,ok.kind,ok.glob,ok.blt,ok.above,ok.inj,ok.has,ok.SH,ok.hd,ok.frames,ok.stk,ok.Pz,ok.bs,ok.Nl,ok.Gw,ok.CU,ok.uM,ok.Sf⟩
theorem Cx.Ok.oN{X:Cx}{E:Value->Shared->Prop}(ok:(X.xT E).Ok):X.Ok:=
 ⟨ok.mod,ok.kind,ok.glob,ok.blt,ok.above,ok.inj,ok.has,ok.SH,ok.hd,ok.frames,ok.stk,ok.Pz,ok.bs,ok.Nl,ok.Gw,ok.CU,ok.uM,ok.Sf⟩
section
variable{X:Cx}{pins:List (Addr×Obj)}{σ:St}{H:Hp}{s:Shared}{E:Value->Shared->Prop}
theorem Inv.xT(I:Inv X pins σ H s)(E:Value->Shared->Prop):Inv (X.xT E) pins σ H s:=⟨I.ok.xT E,I.os,I.bare,I.base,I.loc,I.cell,I.free,I.oB,I.pin,I.hok,I.len⟩
theorem Inv.oN(I:Inv (X.xT E) pins σ H s):Inv X pins σ H s:=⟨I.ok.oN,I.os,I.bare,I.base,I.loc,I.cell,I.free,I.oB,I.pin,I.hok,I.len⟩
theorem SP.oN{D:Ends}{f:Flow}{s':Shared}(h:SP (X.xT E) pins D f s'):SP X pins D f s':=by
 cases f with
 |next=>obtain⟨σ',H',I,q⟩:=h;exact⟨σ',H',I.oN,q⟩
 |brk=>obtain⟨σ',H',I,q⟩:=h;exact⟨σ',H',I.oN,q⟩
 |cont=>obtain⟨σ',H',I,q⟩:=h;exact⟨σ',H',I.oN,q⟩
 |ret u=>obtain⟨v,σ',H',I,r,q⟩:=h;exact⟨v,σ',H',I.oN,r,q⟩
theorem zL.Jf{st:List Stmt}{t:TS}(h:zL X.Jf st t):zL X st t:=λpins s σ H D I hw=>
 wpAny_mono (h pins s σ H D (I.xT _) hw) (λ_ _ q=>q.oN) λ_ _ z=>False.elim z
end
section
variable{X:Cx}{st:Stmt}{rest:List Stmt}{t u:TS}{e:Expr}{te:TE}{pos:Pos}
def PC:TS:=λD σ H=>D.nx σ H
def QA(t u:TS):TS:=λD σ H=>t {D with nx:=u D} σ H
theorem Nn:zL X [] PC:=λ_ _ σ H _ I h=>wpAny_execs_nil ⟨σ,H,I,h⟩
theorem Jm(h1:PS X st t)(h2:zL X rest u):zL X (st::rest) (QA t u):=by
 intro pins s σ H D I h
 refine wpAny_execs_cons (fZ (h1 pins s σ H {D with nx:=u D} I h) λf s1 q=> ?_)
 cases f with
 |next=>
  obtain⟨σ',H',I',q⟩:=q
  exact h2 pins s1 σ' H' D I' q
 |ret v=>exact q
 |brk=>exact q
 |cont=>exact q
theorem c6(h1:PS X st t):zL X [st] t:=by
 intro pins s σ H D I h
 refine wpAny_execs_cons (fZ (h1 pins s σ H D I h) λf s1 q=> ?_)
 cases f with
 |next=>exact wpAny_execs_nil q
 |ret v=>exact q
 |brk=>exact q
 |cont=>exact q
theorem Inv.quiet{pins:List (Addr×Obj)}{σ:St}{H:Hp}{s:Shared}(I:Inv X pins σ H s):interactive X.env=false:=by simp[interactive,I.ok.kind]
def SR(te:TE):TS:=λD σ H=>te σ H λ_ H1=>D.nx σ H1
theorem jo(he:PE X e te)(hs:swapsWith e none pos.line X.env=pure false:=by rfl):PS X (.Expr e pos) (SR te):=by
 intro pins s σ H D I h
 exact wpAny_Expr_any (fZ (he pins s σ H _ I h) λv s1 ⟨x,H1,I1,r1,q1⟩=>⟨σ,H1,I1,q1⟩) I.quiet hs
def SS(te:TE):TS:=λD σ H=>te σ H D.rt
theorem aO(he:PE X e te):PS X (.Return (some e) pos) (SS te):=by
 intro pins s σ H D I h
 exact wpAny_Return_some (fZ (he pins s σ H _ I h) λv s1 ⟨x,H1,I1,r1,q1⟩=>⟨x,σ,H1,I1,r1,q1⟩)
def SV(c:TT)(t u:TS):TS:=λD σ H=>c σ H λb H1=>if b=true then t D σ H1 else u D σ H1
theorem SW{c:Expr}{a b:List Stmt}{tc:TT}(hc:PT X c tc)(ha:zL X a t)(hb:zL X b u):PS X (.If c a b pos) (SV tc t u):=by
 intro pins s σ H D I h
 refine wpAny_If (fZ (hc pins s σ H _ I h) λd s1 ⟨H1,I1,q1⟩=> ?_)
 cases d with
 |true=>exact ha pins s1 σ H1 D I1 q1
 |false=>exact hb pins s1 σ H1 D I1 q1
def QB:TS:=λ_ _ _=>False
theorem oO:PS X st QB:=λ_ _ _ _ _ _ h=>h.elim
end
abbrev TG:=V->St->Hp->(St->Hp->Prop) ->Prop
abbrev Np:=List V->St->Hp->(St->Hp->Prop) ->Prop
def PG(X:Cx)(target:Expr)(t:TG):Prop:=
 ∀(pins:List (Addr×Obj)) (s:Shared) (σ:St) (H:Hp) (v:V) (u:Value) (Q:St->Hp->Prop),Inv X pins σ H s->RelV v u->t v σ H Q->
  wpAny (model X.prog X.w) X.A (assign target X.env u) (λ_ s'=> ∃σ' H',Inv X pins σ' H' s'/\Q σ' H') X.xe s
def SX(X:Cx)(ts:List Expr)(t:Np):Prop:=
 ∀(pins:List (Addr×Obj)) (s:Shared) (σ:St) (H:Hp) (vs:List V) (us:List Value) (Q:St->Hp->Prop),Inv X pins σ H s->Vals vs us->t vs σ H Q->
  wpAny (model X.prog X.w) X.A (assignInOrder ((assignEach ts X.env).map (·.2)) us) (λ_ s'=> ∃σ' H',Inv X pins σ' H' s'/\Q σ' H') X.xe s
abbrev Jo:=V->V->V->Hp->(Hp->Prop) ->Prop
def QC(X:Cx)(t:Jo):Prop:=
 ∀(pins:List (Addr×Obj)) (s:Shared) (σ:St) (H:Hp) (o i v:V) (ov iv u:Value) (Q:Hp->Prop),Inv X pins σ H s->RelV o ov->RelV i iv->RelV v u->t o i v H Q->
  wpAny (model X.prog X.w) X.A (setItem ov iv u) (λ_ s'=> ∃H',Inv X pins σ H' s'/\Q H') X.xe s
abbrev Vd:=V->V->Hp->VK->Prop
def Yj(X:Cx)(op:Operator)(t:Vd):Prop:=
 ∀(pins:List (Addr×Obj)) (s:Shared) (σ:St) (H:Hp) (x y:V) (v u:Value) (Q:VK),Inv X pins σ H s->RelV x v->RelV y u->t x y H Q->
  wpAny (model X.prog X.w) X.A (inplaceOp op v u) (EP X pins σ Q) X.xe s
section
variable{X:Cx}{pos:Pos}
def cg(i:Nat):TG:=λv σ H Q=>Q (σ.set i (some v)) H
theorem bL{i:Nat}{x:Str}(hN:X.N.Nodup)(hi:X.N[i]?=some x)(hx:Loc X.env.scope x)(hf:X.fn x=true∨X.env.scope.names.lookup x=some .local:=by first|exact .inl rfl|exact .inr rfl|assumption):PG X (.Name x pos) (cg i):=by
 intro pins s σ H v u Q I r h
 exact wpAny_assign_Name (rz I hN hi hx r (λs' I'=>⟨_,H,I',h⟩) hf)
def SY:Np:=λvs σ H Q=>vs=[]/\Q σ H
def Jp(t:TG)(u:Np):Np:=λvs σ H Q=> ∃v r,vs=v::r/\t v σ H λσ' H'=>u r σ' H' Q
theorem kg:SX X [] SY:=by
 intro pins s σ H vs us Q I r h
 obtain⟨e,h⟩:=h
 subst e
 cases r
 exact assignInOrder_nil ⟨σ,H,I,h⟩
theorem cz{e:Expr}{es:List Expr}{t:TG}{u:Np}(h1:PG X e t)(h2:SX X es u)
  (hs:(assignEach (e::es) X.env).map (·.2)=assign e X.env::(assignEach es X.env).map (·.2):=by rfl):SX X (e::es) (Jp t u):=by
 intro pins s σ H vs us Q I r h
 obtain⟨v,vr,e1,h⟩:=h
 subst e1
 cases r with
 |cons r rr=>
  rw[hs]
  refine assignInOrder_cons (fZ (h1 pins s σ H _ _ _ I r h) λ_ s1 ⟨σ1,H1,I1,q1⟩=> ?_)
  exact h2 pins s1 σ1 H1 _ _ Q I1 rr q1
def Tc(K:PySem.W.Frag)(n:Nat)(t:Np):TG:=λv σ H Q=> ∃a xs,v= .ref a/\p6 K H a xs/\xs.length=n/\t xs σ H Q
theorem zM{es:List Expr}{k:Nat}{t:Np}{n:Nat}(hc:X.calm=true)(h:SX X es t)
  (hn:(assignEach es X.env).length=n:=by rfl)(hst:(assignEach es X.env).findIdx? (·.1)=none:=by rfl):PG X (.Tuple es k pos) (Tc X.K n t):=by
 intro pins s σ H v u Q I r hw
 obtain⟨a,xs,e1,hq,hl,hw⟩:=hw
 subst e1
 cases r
 obtain⟨its,rv,ht,hz⟩:=I.tuple hq
 refine assign_Tuple_tuple (I.ok.hd hc) ht (by simp[hn,<-hl,rv.length]) hst λh' hx=> ?_
 have I1:Inv X pins σ H {s with heap:=h'}:=I.kept (t':=s.toks) λb o e=>hx b o (Nat.ne_of_lt (Heap.lt_size e)) e
 exact h pins _ σ H xs _ Q I1 (by simpa using rv) hw
def VW(to ti:TE)(t:Jo):TG:=λv σ H Q=>to σ H λo H1=>ti σ H1 λi H2=>t o i v H2 λH3=>Q σ H3
theorem qz{o i:Expr}{to ti:TE}{t:Jo}(ho:PE X o to)(hi:PE X i ti)(hs:QC X t)
  (ha:∀v,assign (.Subscript o i pos) X.env v=(do
   let ov<-holding [v] (eval o X.env)
   let iv<-holding [v,ov] (eval i X.env)
   standAt pos
   holding [v,ov,iv] (setItem ov iv v)
   release [v,ov,iv] []):=by intro _;rfl):PG X (.Subscript o i pos) (VW to ti t):=by
 intro pins s σ H v u Q I r h
 rw[ha]
 refine wpAny_bind (wpAny_holding (fZ (ho pins s σ H _ I h) λov s1 ⟨x,H1,I1,r1,q1⟩=> ?_))
 refine wpAny_bind (wpAny_holding (fZ (hi pins s1 σ H1 _ I1 q1) λiv s2 ⟨y,H2,I2,r2,q2⟩=> ?_))
 refine wpAny_bind (wpAny_standAt (wpAny_bind (wpAny_holding (fZ (hs pins s2 σ H2 x y v ov iv u _ I2 r1 r2 r q2) λ_ s3 ⟨H3,I3,q3⟩=> ?_))))
 exact wpAny_release ⟨σ,H3,I3,q3⟩
def CV(te:TE)(g:TG):TS:=λD σ H=>te σ H λx H1=>g x σ H1 D.nx
theorem nA{tg e:Expr}{te:TE}{g:TG}(he:PE X e te)(hg:PG X tg g)(hs:swapsWithSole [tg] e pos.line X.env=pure false:=by rfl)(hw:swappedStores [tg] e X.env=pure none:=by rfl)
  (h1:(assignEach [tg] X.env).map (·.2)=[assign tg X.env]:=by rfl):PS X (.Assign [tg] e pos) (CV te g):=by
 intro pins s σ H D I h
 refine wpAny_Assign_stores (fZ (he pins s σ H _ I h) λv s1 ⟨x,H1,I1,r1,q1⟩=> ?_) hs hw
 rw[h1]
 exact fZ (hg pins s1 σ H1 x v _ I1 r1 q1) λ_ s2 q=>q
theorem aX{i:Nat}{x:Str}{e:Expr}{te:TE}{pos':Pos}(hN:X.N.Nodup)(hi:X.N[i]?=some x)(hx:Loc X.env.scope x)(he:PE X e te)(hs:swapsWith e (some (.Name x pos')) pos.line X.env=pure false:=by rfl)(hf:X.fn x=true∨X.env.scope.names.lookup x=some .local:=by first|exact .inl rfl|exact .inr rfl|assumption):
  PS X (.Assign [.Name x pos'] e pos) (CV te (cg i)):=by
 intro pins s σ H D I h
 refine wpAny_Assign_Name (fZ (he pins s σ H _ I h) λv s1 ⟨y,H1,I1,r1,q1⟩=> ?_) hs
 exact rz I1 hN hi hx r1 (λs2 I2=>⟨_,H1,I2,q1⟩) hf
def VX(i j:Nat)(ta:TA):TS:=λD σ H=>ta σ H λvs H1=> ∃v w,vs=[v,w]/\D.nx ((σ.set i (some v)).set j (some w)) H1
theorem Jq{i j:Nat}{x y:Str}{a b:Expr}{ta:TA}{px py pt:Pos}{kt k2 VY}(hc:X.calm=true)(hN:X.N.Nodup)(hi:X.N[i]?=some x)(hj:X.N[j]?=some y)(hij:i≠j)
  (hx:X.env.scope.names.lookup x=some .local)(hy:X.env.scope.names.lookup y=some .local)(ha:PA X [a,b] ta)
  (hw:swappedStores [.Tuple [.Name x px,.Name y py] kt pt] (.Tuple [a,b] k2 VY) X.env=pure (some [x,y]))
  (hs:swapsWithSole [.Tuple [.Name x px,.Name y py] kt pt] (.Tuple [a,b] k2 VY) pos.line X.env=pure false:=by rfl):
  PS X (.Assign [.Tuple [.Name x px,.Name y py] kt pt] (.Tuple [a,b] k2 VY) pos) (VX i j ta):=by
 intro pins s σ H D I h
 rw[exec_Assign_arm]
 refine wpAny_bind (wpAny_standAt ?_)
 rw[hs]
 refine wpAny_bind (wpAny_pure ?_)
 rw[if_neg (by decide)]
 refine wpAny_bind (Tuple_ (fZ (ha _ pins s σ H _ I h) λus s1 ⟨vs,H1,I1,r1,q1⟩=> ?_))
 obtain⟨v,w,e1,q1⟩:=q1
 subst e1
 obtain⟨u1,u2,rfl,rv,rw'⟩:∃u1 u2,us=[u1,u2]/\RelV v u1/\RelV w u2:=by
  cases r1 with
  |cons p q=>
   cases q with
   |cons p' q'=>
    cases q'
    exact⟨_,_,rfl,p,p'⟩
 refine wpAny_newObj_type ?_ (by show 2<=sizeLine;decide)
 have I2:Inv X pins σ H1 {s1 with heap:=s1.heap.push {cls:= .type "tuple",data:= .seq [u1,u2].toArray}}:=I1.kept (t':=s1.toks) λb o e=>Heap.get?_push_of_some _ e
 rw[hw]
 refine wpAny_bind (wpAny_pure ?_)
 show wpAny (model X.prog X.w) X.A (do rule "assign.swapped-stores";let items<-unpackItems (.ref s1.heap.objs.size) 2 none;assignInOrder [λv=>bindName X.env y v,λv=>bindName X.env x v] items.reverse;pure Flow.next) _ _ _
 refine wpAny_bind (wpAny_rule (wpAny_bind (unpackItems_tuple (items:= #[u1,u2]) (I.ok.hd hc) (IsTup.new s1.heap _) λh' hx'=> ?_)))
 have I3:=I2.kept (h':=h') (t':=s1.toks) λb o e=>hx' b o (Nat.ne_of_lt (Heap.lt_size e)) e
 show wpAny _ _ (assignInOrder [λv=>bindName X.env y v,λv=>bindName X.env x v] [u2,u1]>>=λ_=>pure Flow.next) _ _ _
 refine wpAny_bind (assignInOrder_cons (wpAny_bindName (rz I3 hN hj (.inl hy) rw' (λs2 I4=> ?_) (.inr hy))))
 refine assignInOrder_cons (wpAny_bindName (rz I4 hN hi (.inl hx) rv (λs3 I5=>assignInOrder_nil (wpAny_pure ?_)) (.inr hx)))
 rw[List.set_comm _ _ (Ne.symm hij)]at I5
 exact⟨_,H1,I5,q1⟩
def Td(to ti te:TE)(Nq:V->V->Hp->VK->Prop)(Ve:Vd)(Nr:Jo):TS:=λD σ H=>to σ H λo H1=>ti σ H1 λi H2=>Nq o i H2 λx H3=>te σ H3 λy H4=>Ve x y H4 λz H5=>Nr o i z H5 λH6=>D.nx σ H6
def Te(X:Cx)(t:V->V->Hp->VK->Prop):Prop:=
 ∀(pins:List (Addr×Obj)) (s:Shared) (σ:St) (H:Hp) (o i:V) (ov iv:Value) (Q:VK),Inv X pins σ H s->RelV o ov->RelV i iv->t o i H Q->
  wpAny (model X.prog X.w) X.A (getItem ov iv) (EP X pins σ Q) X.xe s
theorem Nt{o i e:Expr}{to ti te:TE}{Nq:V->V->Hp->VK->Prop}{Ve:Vd}{Nr:Jo}{op:Operator}{tpos:Pos}(ho:PE X o to)(hi:PE X i ti)(hg:Te X Nq)(he:PE X e te)(hp:Yj X op Ve)(hs:QC X Nr)
  (ha:∀ov iv new,augStore i ov iv new=(do holding [new,ov,iv] (setItem ov iv new);release [new,ov,iv] [];pure .next):=by intros;rfl):PS X (.AugAssign (.Subscript o i tpos) op e pos) (Td to ti te Nq Ve Nr):=by
 intro pins s σ H D I h
 refine wpAny_AugAssign_SubscriptAny (fZ (ho pins s σ H _ I h) λov s1 ⟨x1,H1,I1,r1,q1⟩=> ?_) ha
 refine fZ (hi pins s1 σ H1 _ I1 q1) λiv s2 ⟨x2,H2,I2,r2,q2⟩=> ?_
 refine fZ (hg pins s2 σ H2 x1 x2 ov iv _ I2 r1 r2 q2) λold s3 ⟨x3,H3,I3,r3,q3⟩=> ?_
 refine fZ (he pins s3 σ H3 _ I3 q3) λv s4 ⟨x4,H4,I4,r4,q4⟩=> ?_
 refine fZ (hp pins s4 σ H4 x3 x4 old v _ I4 r3 r4 q4) λnew s5 ⟨x5,H5,I5,r5,q5⟩=> ?_
 exact fZ (hs pins s5 σ H5 x1 x2 x5 ov iv new _ I5 r1 r2 r5 q5) λ_ s6 ⟨H6,I6,q6⟩=>⟨σ,H6,I6,q6⟩
def Zx(f:Int->Int->Int):Vd:=λx y H Q=> ∃i j,x= .int i/\y= .int j/\Q (.int (f i j)) H
theorem QD:Yj X .Add (Zx λi j=>i+j):=by
 intro pins s σ H x y v u Q I r1 r2 h
 obtain⟨i,j,e1,e2,q⟩:=h
 subst e1;subst e2
 obtain⟨t,rfl⟩:=r1
 obtain⟨t',rfl⟩:=r2
 exact iadd_int ⟨.int _,H,I.tok _,⟨_,rfl⟩,q⟩
end
section
variable{X:Cx}{pos:Pos}
def Jr(c:TT)(tb:TS):TS:=λD σ H=> ∃W:Nat->St->Hp->Prop,(∃m,W m σ H)/\ ∀m σ H,W m σ H->
 c σ H λb H1=>if b=true then ∃N:St->Hp->Prop,(∀σ' H',N σ' H'-> ∃m',m'<m/\W m' σ' H')/\tb {D with nx:=N,ct:=N,bk:=D.nx} σ H1 else D.nx σ H1
theorem Js{c:Expr}{body:List Stmt}{tc:TT}{tb:TS}(hp:PassesOwn (model X.prog X.w) X.A X.env X.xe)(hc:PT X c tc)(hb:zL X body tb):PS X (.While c body [] pos) (Jr tc tb):=by
 intro pins s σ H D I h
 obtain⟨W,⟨m0,w0⟩,turn⟩:=h
 refine wpAny_While (codeAny_whileLoop (λn s'=> ∃σ' H',Inv X pins σ' H' s'/\W n σ' H') ?_ m0 ⟨σ,H,I,w0⟩)
 rintro n s1 ⟨σ1,H1,I1,w1⟩
 refine wpAny_passesOwn hp (fZ (hc pins s1 σ1 H1 _ I1 (turn n σ1 H1 w1)) λb s2 ⟨H2,I2,q2⟩=> ?_)
 cases b with
 |true=>
  obtain⟨N,hN,q2⟩:=q2
  rw[if_pos rfl]
  refine wpAny_passesOwn hp (fZ (hb pins s2 σ1 H2 _ I2 q2) λf s3 q3=> ?_)
  cases f with
  |next=>
   obtain⟨σ3,H3,I3,n3⟩:=q3
   obtain⟨m',hm,w3⟩:=hN σ3 H3 n3
   exact⟨m',hm,σ3,H3,I3,w3⟩
  |cont=>
   obtain⟨σ3,H3,I3,n3⟩:=q3
   obtain⟨m',hm,w3⟩:=hN σ3 H3 n3
   exact⟨m',hm,σ3,H3,I3,w3⟩
  |brk=>exact q3
  |ret v=>exact q3
 |false=>
  rw[if_neg Bool.false_ne_true]
  exact wpAny_execs_nil ⟨σ1,H2,I2,q2⟩
end
structure It where
 go:Nat->Hp->Prop
 xU:Nat->Hp->V->Hp->Prop
 stop:Nat->Hp->Prop
def fO(X:Cx)(pins:List (Addr×Obj))(H:Hp)(b:Addr):Prop:=
 H b=none/\b≠X.env.locals/\b∉X.fs/\(b∈X.ex∨X.s₀.heap.objs.size<=b)/\(∀x c,X.env.cells.lookup x=some c->c≠b)/\ ∀p∈X.pn++pins,p.1≠b
theorem Inv.CW{X:Cx}{pins:List (Addr×Obj)}{σ:St}{H H':Hp}{s:Shared}{b:Addr}(I:Inv X pins σ H s)(hb:s.heap.objs.size<=b)(hn:H' b=none):fO X pins H' b:=by
 refine⟨hn,Nat.ne_of_gt (Nat.lt_of_lt_of_le I.lt hb),I.SI hb,.inr (Nat.le_trans I.sz hb),λx c e z=> ?_,λp hp z=> ?_⟩
 ·obtain⟨v,q⟩:=I.cell x c e
  exact absurd (Nat.lt_of_lt_of_le q.lt (by rw[z];exact hb)) (Nat.lt_irrefl _)
 ·exact absurd (Nat.lt_of_lt_of_le (Heap.lt_size (I.pin p hp).1) (by rw[z];exact hb)) (Nat.lt_irrefl _)
structure Turn(P:Program)(w:World)(K:PySem.W.Frag)(tg:Expr)(J:It)(fp:List Addr)(it:Addr)(tn:Nat->Heap->Prop):Prop where
 mem:it∈fp
 obj:∀i h,tn i h-> ∀b∈fp,∃o,h.get? b=some o/\ ∀v,o.data≠ .cell v
 keep:∀i h h',tn i h->(∀b∈fp,∀o,h.get? b=some o->h'.get? b=some o) ->tn i h'
 item:∀(X:Cx),X.prog=P->X.w=w->X.K=K->X.calm=true-> ∀(i:Nat) (pins:List (Addr×Obj)) (s:Shared) (σ:St) (H:Hp) (E:Value->Shared->Prop),Inv X pins σ H s->(∀b∈fp,fO X pins H b) ->tn i s.heap->J.go i H->
  wpAny (model P w) X.A (pyNext (.ref it)) (λr s1=> ∃u,r=some u/\
   wpAny (model P w) X.A (letOwnedTupleGo tg (.ref it) u) (λ_ s2=> ∃x H',Inv X pins σ H' s2/\RelV x u/\J.xU i H x H'/\tn (i+1) s2.heap/\ ∀b∈fp,H' b=none) E s1) E s
 done:∀(X:Cx),X.prog=P->X.w=w->X.K=K->X.calm=true-> ∀(i:Nat) (pins:List (Addr×Obj)) (s:Shared) (σ:St) (H:Hp) (E:Value->Shared->Prop),Inv X pins σ H s->(∀b∈fp,fO X pins H b) ->tn i s.heap->J.stop i H->
  wpAny (model P w) X.A (pyNext (.ref it)) (λr s1=>r=none/\Inv X pins σ H s1) E s
 self:∀(A:Around) (i:Nat) (s:Shared) (Q:Value->Shared->Prop) (E:Value->Shared->Prop),tn i s.heap->Q (.ref it) s->wpAny (model P w) A (pyIter (.ref it)) Q E s
abbrev TI:=St->Hp->(It->Hp->Prop) ->Prop
def Yk(X:Cx)(pins:List (Addr×Obj))(σ:St)(tg:Expr)(R:It->Hp->Prop)(itv:Value)(s2:Shared):Prop:=
 ∃(it:Addr) (fp:List Addr) (tn:Nat->Heap->Prop) (J:It) (H':Hp),itv= .ref it/\Inv X pins σ H' s2/\Turn X.prog X.w X.K tg J fp it tn/\tn 0 s2.heap/\(∀b∈fp,fO X pins H' b)/\R J H'
def PI(X:Cx)(tg iter:Expr)(wi:TI):Prop:=
 ∀(pins:List (Addr×Obj)) (s:Shared) (σ:St) (H:Hp) (R:It->Hp->Prop),Inv X pins σ H s->wi σ H R->
  wpAny (model X.prog X.w) X.A (eval iter X.env) (λv s1=>wpAny (model X.prog X.w) X.A (pyIter v) (Yk X pins σ tg R) X.xe s1) X.xe s
theorem Jt{M:Model}{A:Around}{E:Value->Shared->Prop}{s:Shared}{tg:Expr}{it:Addr}{u:Value}{o:Obj}{n:String}{vs:Array Value}{Q:Unit->Shared->Prop}(ho:s.heap.get? it=some o)(hc:o.cls= .type n)(hd:o.data= .fields vs)
  (hn: ["enumerate","zip","dict_itemiterator","dict_reverseitemiterator","odict_iterator","itertools.zip_longest","itertools.pairwise"].contains n=false)(hQ:Q () s):wpAny M A (letOwnedTupleGo tg (.ref it) u) Q E s:=by
 unfold letOwnedTupleGo
 cases tg<;>first
  |exact wpAny_pure hQ
  |(cases u<;>first
    |exact wpAny_pure hQ
    |(refine wpAny_bind (wpAny_load ho ?_)
      rw[hc,hd]
      show wpAny M A (if(["enumerate","zip","dict_itemiterator","dict_reverseitemiterator","odict_iterator","itertools.zip_longest","itertools.pairwise"].contains n && vs[0]?==some (rawInt _))=true then _ else _) Q E s
      rw[if_neg (by intro h;rw[hn,Bool.false_and]at h;cases h)]
      exact wpAny_pure hQ))
def QE(K:PySem.W.Frag)(a:Addr):It:=
 ⟨λi H=> ∃xs x,aN K H a xs/\xs[i]?=some x,λi H x H'=>H'=H/\ ∀xs,aN K H a xs->xs[i]?=some x,λi H=> ∃xs,aN K H a xs/\xs.length<=i⟩
def VZ(K:PySem.W.Frag)(a:Addr):It:=
 ⟨λi H=> ∃xs x,p6 K H a xs/\xs[i]?=some x,λi H x H'=>H'=H/\ ∀xs,p6 K H a xs->xs[i]?=some x,λi H=> ∃xs,p6 K H a xs/\xs.length<=i⟩
def Jg(lo:Int)(n:Nat):It:=⟨λi _=>i<n,λi H x H'=>H'=H/\x= .int (lo+i),λi _=>n<=i⟩
theorem Gy{P:Program}{w:World}{K:PySem.W.Frag}{tg:Expr}(a it:Addr):Turn P w K tg (QE K a) [it] it (λi h=>h.IsListIter it a i) where
 mem:=by simp
 obj:=λi h st b hb=>by
  have e:b=it:=by simpa using hb
  subst e
  obtain⟨o,e,c,d⟩:=st
  exact⟨o,e,λv z=>by rw[d]at z;cases z⟩
 keep:=λi h h' st k=>st.at λo e=>k it (by simp) o e
 item:=by
  intro X hP hw hK hc i pins s σ H E I hf st hg
  subst hP hw hK
  obtain⟨xs,x,hq,hx⟩:=hg
  obtain⟨its,rv,p,hz⟩:=I.list hq
  obtain⟨u,hu,ru⟩:=rv.get hx
  obtain⟨f0,f1,f2,f3,f4,f5⟩:=hf it (by simp)
  refine wpAny_pyNext_list_item st p.isList (x:=u) (by simpa using hu) λh' st' sb=> ?_
  have I1:Inv X pins σ H {s with heap:=h'}:=I.turned (t':=s.toks) (λb o hb e=>(sb.2 b hb).trans e) f0 f1 f3 f4 f5
  obtain⟨o,e,c,d⟩:=id st'
  exact⟨u,rfl,Jt (s:={s with heap:=h'}) e c d (by decide) ⟨x,H,I1,ru,⟨rfl,λys hy=>by rw[I.vK hy hq];exact hx⟩,st',λb hb=>(hf b hb).1⟩⟩
 done:=by
  intro X hP hw hK hc i pins s σ H E I hf st hg
  subst hP hw hK
  obtain⟨xs,hq,hx⟩:=hg
  obtain⟨its,rv,p,hz⟩:=I.list hq
  obtain⟨f0,f1,f2,f3,f4,f5⟩:=hf it (by simp)
  have hl:=rv.length
  exact wpAny_pyNext_list_end (I.ok.hd hc) st p.isList (by simp;omega) λh' eb=>⟨rfl,I.turned (t':=s.toks) (λb o hb e=>eb b o hb e) f0 f1 f3 f4 f5⟩
 self:=λ_ _ _ _ _ st h=>wpAny_pyIter_listiter st h
theorem CY{P:Program}{w:World}{K:PySem.W.Frag}{tg:Expr}(a it:Addr):Turn P w K tg (VZ K a) [it] it (λi h=>h.IsTupleIter it a i) where
 mem:=by simp
 obj:=λi h st b hb=>by
  have e:b=it:=by simpa using hb
  subst e
  obtain⟨o,e,c,d⟩:=st
  exact⟨o,e,λv z=>by rw[d]at z;cases z⟩
 keep:=λi h h' st k=>st.at λo e=>k it (by simp) o e
 item:=by
  intro X hP hw hK hc i pins s σ H E I hf st hg
  subst hP hw hK
  obtain⟨xs,x,hq,hx⟩:=hg
  obtain⟨its,rv,p,hz⟩:=I.tuple hq
  obtain⟨u,hu,ru⟩:=rv.get hx
  obtain⟨f0,f1,f2,f3,f4,f5⟩:=hf it (by simp)
  refine wpAny_pyNext_tuple_item st (show s.heap.IsTuple a its.toArray from p) (x:=u) (by simpa using hu) λh' st' sb=> ?_
  have I1:Inv X pins σ H {s with heap:=h'}:=I.turned (t':=s.toks) (λb o hb e=>(sb.2 b hb).trans e) f0 f1 f3 f4 f5
  obtain⟨o,e,c,d⟩:=id st'
  exact⟨u,rfl,Jt (s:={s with heap:=h'}) e c d (by decide) ⟨x,H,I1,ru,⟨rfl,λys hy=>by rw[I.Gx hy hq];exact hx⟩,st',λb hb=>(hf b hb).1⟩⟩
 done:=by
  intro X hP hw hK hc i pins s σ H E I hf st hg
  subst hP hw hK
  obtain⟨xs,hq,hx⟩:=hg
  obtain⟨its,rv,p,hz⟩:=I.tuple hq
  obtain⟨f0,f1,f2,f3,f4,f5⟩:=hf it (by simp)
  have hl:=rv.length
  exact wpAny_pyNext_tuple_end (I.ok.hd hc) st (show s.heap.IsTuple a its.toArray from p) (by simp;omega) λh' eb=>⟨rfl,I.turned (t':=s.toks) (λb o hb e=>eb b o hb e) f0 f1 f3 f4 f5⟩
 self:=λ_ _ _ _ _ st h=>wpAny_pyIter_tupleiter st h
theorem CZ{P:Program}{w:World}{K:PySem.W.Frag}{tg:Expr}(it:Addr)(lo:Int)(n:Nat):Turn P w K tg (Jg lo n) [it] it (λi h=>IsRangeIter h it (lo+(i:Nat)*1) ((n:Int) - (i:Nat)) 1) where
 mem:=by simp
 obj:=λi h st b hb=>by
  have e:b=it:=by simpa using hb
  subst e
  exact⟨_,st,λv z=>by
   have z':Data.fields _=Data.cell v:=z
   cases z'⟩
 keep:=λi h h' st k=>k it (by simp) _ st
 item:=by
  intro X hP hw hK hc i pins s σ H E I hf st hg
  subst hP hw hK
  obtain⟨f0,f1,f2,f3,f4,f5⟩:=hf it (by simp)
  have W:=Walks.range (prog:=X.prog) (w:=X.w) (I.ok.hd hc) it lo 1 n
  refine W.item i s _ _ hg st λv h' tk hv st' kk=> ?_
  obtain⟨t,rfl⟩:=hv
  have I1:Inv X pins σ H {s with heap:=h',toks:=tk}:=I.turned (λb o hb e=>kk b o (by simpa using hb) e) f0 f1 f3 f4 f5
  refine⟨_,rfl,Jt (s:={s with heap:=h',toks:=tk}) (n:= "range_iterator") st' rfl rfl (by decide) ⟨.int (lo+i),H,I1,⟨t,?_⟩,⟨rfl,rfl⟩,st',λb hb=>(hf b hb).1⟩⟩
  rw[Int.mul_one]
 done:=by
  intro X hP hw hK hc i pins s σ H E I hf st hg
  subst hP hw hK
  obtain⟨f0,f1,f2,f3,f4,f5⟩:=hf it (by simp)
  exact wpAny_pyNext_range_end (I.ok.hd hc) st (by have:n<=i:=hg;omega) λh' eb=>⟨rfl,I.turned (t':=s.toks) (λb o hb e=>eb b o hb e) f0 f1 f3 f4 f5⟩
 self:=λ_ _ _ _ _ st h=>wpAny_pyIter_rangeiter st h
section
variable{X:Cx}{tg:Expr}
def vL(K:PySem.W.Frag)(tl:TE):TI:=λσ H R=>tl σ H λx H1=> ∃a,x= .ref a/\(∃xs,aN K H1 a xs)/\R (QE K a) H1
def Wa(K:PySem.W.Frag)(tl:TE):TI:=λσ H R=>tl σ H λx H1=> ∃a,x= .ref a/\(∃xs,p6 K H1 a xs)/\R (VZ K a) H1
theorem bN{l:Expr}{tl:TE}(hl:PE X l tl):PI X tg l (vL X.K tl):=by
 intro pins s σ H R I h
 refine fZ (hl pins s σ H _ I h) λv s1 ⟨x,H1,I1,r1,q1⟩=> ?_
 obtain⟨a,e,⟨xs,hq⟩,q⟩:=q1
 subst e
 cases r1
 obtain⟨its,rv,p,hz⟩:=I1.list hq
 refine wpAny_pyIter_list p.isList ?_
 refine⟨s1.heap.objs.size,[s1.heap.objs.size],_,_,H1,rfl,I1.kept (t':=s1.toks) λb o e=>Heap.get?_push_of_some _ e,Gy a _,⟨_,Heap.get?_push_size _ rfl,rfl,rfl⟩,λb hb=> ?_,q⟩
 have e:b=s1.heap.objs.size:=by simpa using hb
 subst e
 exact I1.CW (Nat.le_refl _) (I1.hok.fresh (Nat.le_refl _))
theorem QF{l:Expr}{tl:TE}(hl:PE X l tl):PI X tg l (Wa X.K tl):=by
 intro pins s σ H R I h
 refine fZ (hl pins s σ H _ I h) λv s1 ⟨x,H1,I1,r1,q1⟩=> ?_
 obtain⟨a,e,⟨xs,hq⟩,q⟩:=q1
 subst e
 cases r1
 obtain⟨its,rv,p,hz⟩:=I1.tuple hq
 refine wpAny_pyIter_tuple (show s1.heap.IsTuple a its.toArray from p) ?_
 refine⟨s1.heap.objs.size,[s1.heap.objs.size],_,_,H1,rfl,I1.kept (t':=s1.toks) λb o e=>Heap.get?_push_of_some _ e,CY a _,⟨_,Heap.get?_push_size _ rfl,rfl,rfl⟩,λb hb=> ?_,q⟩
 have e:b=s1.heap.objs.size:=by simpa using hb
 subst e
 exact I1.CW (Nat.le_refl _) (I1.hok.fresh (Nat.le_refl _))
theorem Bf{pins:List (Addr×Obj)}{σ:St}{H:Hp}{s:Shared}{R:It->Hp->Prop}{E:Value->Shared->Prop}{lo hi:Int}{t u v:Tok}{tk:Nat}(I:Inv X pins σ H s)(h1: -(2^62)<=lo)(h2:lo<2^62)(h3: -(2^62)<=hi)(h4:hi<2^62)
  (q:R (Jg lo (hi-lo).toNat) H):wpAny (model X.prog X.w) X.A (pyIter (.ref s.heap.objs.size)) (Yk X pins σ tg R) E {s with heap:=s.heap.push {cls:= .type "range",data:= .fields #[.int lo t,.int hi u,.int 1 v]},toks:=tk}:=by
 refine wpAny_pyIter_range (IsRange.new ..) (small_one h1 h2 h3 h4) ?_
 have I1:Inv X pins σ H {s with heap:=s.heap.push {cls:= .type "range",data:= .fields #[.int lo t,.int hi u,.int 1 v]},toks:=tk}:=I.kept λb o e=>Heap.get?_push_of_some _ e
 refine⟨(s.heap.push {cls:= .type "range",data:= .fields #[.int lo t,.int hi u,.int 1 v]}).objs.size,[(s.heap.push {cls:= .type "range",data:= .fields #[.int lo t,.int hi u,.int 1 v]}).objs.size],_,_,H,rfl,
  I1.kept (t':=tk) λb o e=>Heap.get?_push_of_some _ e,CZ _ lo (hi-lo).toNat,?_,λb hb=> ?_,q⟩
 ·have e1:lo+((0:Nat):Int)*1=lo:=by simp
  have e2:(((hi-lo).toNat:Nat):Int) - ((0:Nat):Int)=Builtin.Range.rangeSize lo hi 1:=by rw[rangeSize_one];split<;>omega
  show IsRangeIter _ _ (lo+((0:Nat):Int)*1) ((((hi-lo).toNat:Nat):Int) - ((0:Nat):Int)) 1
  rw[e1,e2]
  exact Heap.get?_push_size _ rfl
 ·have e:b=(s.heap.push {cls:= .type "range",data:= .fields #[.int lo t,.int hi u,.int 1 v]}).objs.size:=by simpa using hb
  subst e
  exact I1.CW (Nat.le_refl _) (I1.hok.fresh (Nat.le_refl _))
def qp(ta:TA):TI:=λσ H R=>ta σ H λvs H1=> ∃j:Int,vs=[.int j]/\ -(2^62)<=j/\j<2^62/\R (Jg 0 j.toNat) H1
def Tg(ta:TA):TI:=λσ H R=>ta σ H λvs H1=> ∃i j:Int,vs=[.int i,.int j]/\(-(2^62)<=i/\i<2^62/\ -(2^62)<=j/\j<2^62)/\R (Jg i (j-i).toNat) H1
theorem aZ{a:Expr}{ta:TA}{p pos:Pos}(hg:Gl X "range")(hm:X.mg "range"=none)(ha:PA X [a] ta)(hs:starEach [a] X.env=[(false,eval a X.env)]:=by rfl):PI X tg (.Call (.Name "range" p) [a] [] pos) (qp ta):=by
 intro pins s σ H R I h
 refine Call_ (kG I hg hm boot_range (PyProof.Rows.callWith_type1 (fZ (ha pos pins s σ H _ I h) λus s1 ⟨vs,H1,I1,r1,q1⟩=> ?_) hs rfl))
 obtain⟨j,e,q1,q2,q⟩:=q1
 subst e
 cases r1 with
 |cons r rr=>
  cases rr
  obtain⟨t,rfl⟩:=r
  exact call_range_1 (Bf I1 (by omega) (by omega) q1 q2 (by simpa using q))
theorem yH{a b:Expr}{ta:TA}{p pos:Pos}(hg:Gl X "range")(hm:X.mg "range"=none)(ha:PA X [a,b] ta)(hs:starEach [a,b] X.env=[(false,eval a X.env),(false,eval b X.env)]:=by rfl)(hs2:starEach [b] X.env=[(false,eval b X.env)]:=by rfl):
  PI X tg (.Call (.Name "range" p) [a,b] [] pos) (Tg ta):=by
 intro pins s σ H R I h
 refine Call_ (kG I hg hm boot_range (PyProof.Rows.callWith_type1 (fZ (ha pos pins s σ H _ I h) λus s1 ⟨vs,H1,I1,r1,q1⟩=> ?_) (by rw[hs,hs2]) (by rw[hs2];rfl)))
 obtain⟨i,j,e,⟨q1,q2,q3,q4⟩,q⟩:=q1
 subst e
 cases r1 with
 |cons r rr=>
  cases rr with
  |cons r' rr=>
   cases rr
   obtain⟨t,rfl⟩:=r
   obtain⟨t',rfl⟩:=r'
   exact call_range_2 (Bf I1 q1 q2 q3 q4 q)
def Wb(wi:TI)(g:TG)(tb:TS):TS:=λD σ H=>wi σ H λJ H1=> ∃W:Nat->Nat->St->Hp->Prop,(∃m,W 0 m σ H1)/\ ∀i m σ H,W i m σ H->
 (J.stop i H/\D.nx σ H)∨(J.go i H/\ ∃N:St->Hp->Prop,(∀σ' H',N σ' H'-> ∃m',m'<m/\W (i+1) m' σ' H')/\ ∀x H',J.xU i H x H'->g x σ H' λσ2 H2=>tb {D with nx:=N,ct:=N,bk:=D.nx} σ2 H2)
def cC(fp:List Addr)(h:Heap):List (Addr×Obj):=fp.filterMap λb=>(h.get? b).map λo=>(b,o)
theorem bE{fp:List Addr}{h:Heap}{b:Addr}{o:Obj}(hb:b∈fp)(e:h.get? b=some o):(b,o)∈cC fp h:=List.mem_filterMap.mpr ⟨b,hb,by rw[e];rfl⟩
theorem kB{fp:List Addr}{h:Heap}{p:Addr×Obj}(hp:p∈cC fp h):p.1∈fp/\h.get? p.1=some p.2:=by
 obtain⟨b,hb,e⟩:=List.mem_filterMap.mp hp
 cases q:h.get? b with
 |none=>rw[q]at e;cases e
 |some o=>
  rw[q]at e
  have e':(b,o)=p:=Option.some.inj e
  subst e'
  exact⟨hb,q⟩
theorem Inv.pinned{pins:List (Addr×Obj)}{σ:St}{H:Hp}{s:Shared}{fp:List Addr}(I:Inv X pins σ H s)(hf:∀b∈fp,fO X pins H b)(ho:∀b∈fp,∃o,s.heap.get? b=some o/\ ∀v,o.data≠ .cell v):Inv X (pins++cC fp s.heap) σ H s:=
 I.j9 λp hp=>(List.mem_append.mp hp).elim (λz=>I.pin p (List.mem_append_right _ z)) λz=>by
  obtain⟨hb,e⟩:=kB z
  obtain⟨f0,f1,f2,_⟩:=hf p.1 hb
  obtain⟨o,e',d⟩:=ho p.1 hb
  rw[e]at e';cases e'
  exact⟨e,f0,f1,f2,d⟩
theorem Inv.iE{pins pl:List (Addr×Obj)}{σ:St}{H:Hp}{s:Shared}(I:Inv X (pins++pl) σ H s):Inv X pins σ H s:=I.j9 λp hp=>I.pin p (List.mem_append_right _ (List.mem_append_left _ hp))
theorem iX{iter:Expr}{body:List Stmt}{wi:TI}{g:TG}{tb:TS}{pos:Pos}(hp:PassesOwn (model X.prog X.w) X.A X.env X.xe)(hc:X.calm=true)(hi:PI X tg iter wi)(hg:PG X tg g)(hb:zL X body tb)
  (hs:∀x,foldedSetIterable iter X.env x=pure x:=by intro _;rfl):PS X (.For tg iter body [] pos) (Wb wi g tb):=by
 intro pins s σ H D I h
 refine wpAny_For (fZ (hi pins s σ H _ I h) λv s1 h1=>fZ h1 λitv s2 h2=> ?_) hs
 obtain⟨it,fp,tn,J,H2,e,I2,T,st2,f2,W,⟨m0,w0⟩,turn⟩:=h2
 subst e
 have QG:∀{H':Hp},(∀b∈fp,H' b=none) -> ∀b∈fp,fO X pins H' b:=λhn b hb=>⟨hn b hb,(f2 b hb).2⟩
 refine codeAny_forLoop_any (λn s'=> ∃i σ' H',Inv X pins σ' H' s'/\tn i s'.heap/\(∀b∈fp,H' b=none)/\W i n σ' H') ?_ m0 ⟨0,σ,H2,I2,st2,λb hb=>(f2 b hb).1,w0⟩
 rintro n s3 ⟨i,σ3,H3,I3,st3,Nf,w3⟩
 rcases turn i n σ3 H3 w3 with⟨stop,qn⟩|⟨go,N,hN,step⟩
 ·refine wpAny_passesOwn hp (fZ (T.done X rfl rfl rfl hc i pins s3 σ3 H3 X.xe I3 (QG Nf) st3 stop) λr s4 ⟨hr,I4⟩=> ?_)
  subst hr
  exact wpAny_execs_nil ⟨σ3,H3,I4,qn⟩
 ·refine wpAny_passesOwn hp (fZ (T.item X rfl rfl rfl hc i pins s3 σ3 H3 X.xe I3 (QG Nf) st3 go) λr s4 ⟨u,hr,h4⟩=> ?_)
  subst hr
  refine wpAny_passesOwn hp (fZ h4 λ_ s5 ⟨x,H5,I5,r5,y5,Gz,Ti⟩=> ?_)
  have Tj:=I5.pinned (QG Ti) (T.obj _ _ Gz)
  refine wpAny_passesOwn hp (fZ (hg _ s5 σ3 H5 x u _ Tj r5 (step x H5 y5)) λ_ s6 ⟨Ju,H6,I6,q6⟩=> ?_)
  refine wpAny_passesOwn hp (fZ (hb _ s6 Ju H6 _ I6 q6) λf s7 q7=> ?_)
  have again:∀{Jv:St} {H7:Hp},Inv X (pins++cC fp s5.heap) Jv H7 s7->N Jv H7-> ∃m,m<n/\ ∃i σ' H',Inv X pins σ' H' s7/\tn i s7.heap/\(∀b∈fp,H' b=none)/\W i m σ' H':=λ {Jv H7} I7 n7=>by
   obtain⟨m',hm,w7⟩:=hN Jv H7 n7
   refine⟨m',hm,i+1,Jv,H7,I7.iE,T.keep _ _ _ Gz λb hb o e=>(I7.pin (b,o) (List.mem_append_right _ (List.mem_append_right _ (bE hb e)))).1,λb hb=> ?_,w7⟩
   obtain⟨o,e,d⟩:=T.obj _ _ Gz b hb
   exact(I7.pin (b,o) (List.mem_append_right _ (List.mem_append_right _ (bE hb e)))).2.1
  cases f with
  |next=>obtain⟨Jv,H7,I7,n7⟩:=q7;exact again I7 n7
  |cont=>obtain⟨Jv,H7,I7,n7⟩:=q7;exact again I7 n7
  |brk=>obtain⟨Jv,H7,I7,q7⟩:=q7;exact⟨Jv,H7,I7.iE,q7⟩
  |ret v=>obtain⟨x7,Jv,H7,I7,r7,q7⟩:=q7;exact⟨x7,Jv,H7,I7.iE,r7,q7⟩
end
theorem Bg{K:PySem.W.Frag}{a:Addr}{xs:List V}{g:TG}{tb:TS}{D:Ends}{σ:St}{H:Hp}(Pv:Nat->St->Hp->Prop)(h0:Pv 0 σ H)(hl:∀i σ H,i<=xs.length->Pv i σ H->aN K H a xs)
  (hs:∀i x σ H,xs[i]?=some x->Pv i σ H->g x σ H λσ2 H2=>tb {D with nx:=Pv (i+1),ct:=Pv (i+1),bk:=D.nx} σ2 H2)(hd:∀σ H,Pv xs.length σ H->D.nx σ H):
  ∃W:Nat->Nat->St->Hp->Prop,(∃m,W 0 m σ H)/\ ∀i m σ H,W i m σ H->
   ((QE K a).stop i H/\D.nx σ H)∨((QE K a).go i H/\ ∃N:St->Hp->Prop,(∀σ' H',N σ' H'-> ∃m',m'<m/\W (i+1) m' σ' H')/\ ∀x H',(QE K a).xU i H x H'->g x σ H' λσ2 H2=>tb {D with nx:=N,ct:=N,bk:=D.nx} σ2 H2):=by
 refine⟨λi m σ H=>m=xs.length-i/\i<=xs.length/\Pv i σ H,⟨xs.length,by simp,Nat.zero_le _,h0⟩,?_⟩
 rintro i m σ H ⟨rfl,hi,p⟩
 have q:=hl i σ H hi p
 by_cases hlt:i<xs.length
 ·refine .inr ⟨⟨xs,xs[i],q,by simp[hlt]⟩,Pv (i+1),λσ' H' p'=>⟨xs.length- (i+1),by omega,rfl,hlt,p'⟩,λx H' y=> ?_⟩
  obtain⟨e,y⟩:=y
  subst e
  exact hs i x σ _ (y xs q) p
 ·have e:i=xs.length:=by omega
  subst e
  exact .inl ⟨⟨xs,q,Nat.le_refl _⟩,hd σ H p⟩
theorem fP{lo:Int}{n:Nat}{g:TG}{tb:TS}{D:Ends}{σ:St}{H:Hp}(Pv:Nat->St->Hp->Prop)(h0:Pv 0 σ H)
  (hs:∀i σ H,i<n->Pv i σ H->g (.int (lo+i)) σ H λσ2 H2=>tb {D with nx:=Pv (i+1),ct:=Pv (i+1),bk:=D.nx} σ2 H2)(hd:∀σ H,Pv n σ H->D.nx σ H):
  ∃W:Nat->Nat->St->Hp->Prop,(∃m,W 0 m σ H)/\ ∀i m σ H,W i m σ H->
   ((Jg lo n).stop i H/\D.nx σ H)∨((Jg lo n).go i H/\ ∃N:St->Hp->Prop,(∀σ' H',N σ' H'-> ∃m',m'<m/\W (i+1) m' σ' H')/\ ∀x H',(Jg lo n).xU i H x H'->g x σ H' λσ2 H2=>tb {D with nx:=N,ct:=N,bk:=D.nx} σ2 H2):=by
 refine⟨λi m σ H=>m=n-i/\i<=n/\Pv i σ H,⟨n,by simp,Nat.zero_le _,h0⟩,?_⟩
 rintro i m σ H ⟨rfl,hi,p⟩
 by_cases hlt:i<n
 ·refine .inr ⟨hlt,Pv (i+1),λσ' H' p'=>⟨n- (i+1),by omega,rfl,hlt,p'⟩,λx H' y=> ?_⟩
  obtain⟨e,y⟩:=y
  subst e y
  exact hs i σ _ hlt p
 ·have e:i=n:=by omega
  subst e
  exact .inl ⟨Nat.le_refl _,hd σ H p⟩
theorem Jw{c:TT}{tb:TS}{D:Ends}{σ:St}{H:Hp}(Pv:St->Hp->Prop)(μ:St->Hp->Nat)(h0:Pv σ H)
  (hs:∀σ H,Pv σ H->c σ H λb H1=>if b=true then tb {D with nx:=λσ' H'=>Pv σ' H'/\μ σ' H'<μ σ H,ct:=λσ' H'=>Pv σ' H'/\μ σ' H'<μ σ H,bk:=D.nx} σ H1 else D.nx σ H1)
  (mono:∀σ H Q Q',(∀b H1,Q b H1->Q' b H1) ->c σ H Q->c σ H Q'):Jr c tb D σ H:=by
 refine⟨λm σ H=>m=μ σ H/\Pv σ H,⟨_,rfl,h0⟩,?_⟩
 rintro m σ H ⟨rfl,p⟩
 refine mono σ H _ _ (λb H1 q=> ?_) (hs σ H p)
 cases b with
 |true=>exact⟨_,λσ' H' ⟨p',l⟩=>⟨_,l,rfl,p'⟩,q⟩
 |false=>exact q
abbrev R2:=V->V->Hp->VK->Prop
def sr(X:Cx)(f:Value->Value->Sem Value)(r:R2):Prop:=
 ∀(pins:List (Addr×Obj)) (s:Shared) (σ:St) (H:Hp) (x y:V) (v u:Value) (Q:VK),Inv X pins σ H s->RelV x v->RelV y u->r x y H Q->
  wpAny (model X.prog X.w) X.A (f v u) (EP X pins σ Q) X.xe s
def Wc(X:Cx)(f:Value->Sem Value)(r:V->Hp->VK->Prop):Prop:=
 ∀(pins:List (Addr×Obj)) (s:Shared) (σ:St) (H:Hp) (x:V) (v:Value) (Q:VK),Inv X pins σ H s->RelV x v->r x H Q->
  wpAny (model X.prog X.w) X.A (f v) (EP X pins σ Q) X.xe s
def oQ(X:Cx)(f:Value)(r:List V->Hp->VK->Prop):Prop:=
 ∀(pins:List (Addr×Obj)) (s:Shared) (σ:St) (H:Hp) (xs:List V) (us:List Value) (Q:VK),Inv X pins σ H s->Vals xs us->r xs H Q->
  wpAny (model X.prog X.w) X.A (call f us) (EP X pins σ Q) X.xe s
def Wd(X:Cx)(r:V->Hp->(Bool->Hp->Prop) ->Prop):Prop:=
 ∀(pins:List (Addr×Obj)) (s:Shared) (σ:St) (H:Hp) (x:V) (v:Value) (Q:Bool->Hp->Prop),Inv X pins σ H s->RelV x v->r x H Q->
  wpAny (model X.prog X.w) X.A (truthy v) (TP X pins σ Q) X.xe s
def c7(r:R2)(ta tb:TE):TE:=λσ H Q=>ta σ H λx H1=>tb σ H1 λy H2=>r x y H2 Q
def Zy(r:V->Hp->VK->Prop)(ta:TE):TE:=λσ H Q=>ta σ H λx H1=>r x H1 Q
def rI(C:Int->Int->Prop)(g:Int->Int->V):R2:=λx y H Q=> ∃i j,x= .int i/\y= .int j/\C i j/\Q (g i j) H
def CO(g:Int->Int->V):R2:=λx y H Q=> ∃i j,x= .int i/\y= .int j/\Q (g i j) H
def rU(g:Int->V):V->Hp->VK->Prop:=λx H Q=> ∃i,x= .int i/\Q (g i) H
section
variable{X:Cx}{a b c:Expr}{ta tb tc:TE}{pos:Pos}
theorem QH(ha:PE X a ta)(hb:PE X b tb){pins:List (Addr×Obj)}{s:Shared}{σ:St}{H:Hp}{R:V->V->Hp->Prop}(I:Inv X pins σ H s)
  (h:ta σ H λx H1=>tb σ H1 λy H2=>R x y H2){Q:Value->Shared->Prop}{f:Value->Value->Sem Value}
  (hf:∀v u s2 x y H2,Inv X pins σ H2 s2->RelV x v->RelV y u->R x y H2->wpAny (model X.prog X.w) X.A (f v u) Q X.xe s2):
  wpAny (model X.prog X.w) X.A (eval a X.env) (λv s₁=>wpAny (model X.prog X.w) X.A (eval b X.env) (λu s₂=>wpAny (model X.prog X.w) X.A (f v u) Q X.xe s₂) X.xe s₁) X.xe s:=by
 refine fZ (ha pins s σ H _ I h) λv s1 ⟨x,H1,I1,r1,q1⟩=> ?_
 refine fZ (hb pins s1 σ H1 _ I1 q1) λu s2 ⟨y,H2,I2,r2,q2⟩=> ?_
 exact hf v u s2 x y H2 I2 r1 r2 q2
theorem ay{op:Operator}{r:R2}(ho:sr X (binaryOp op) r)(ha:PE X a ta)(hb:PE X b tb):PE X (.BinOp a op b pos) (c7 r ta tb):=by
 intro pins s σ H Q I h
 exact wpAny_BinOp (QH ha hb I h λv u s2 x y H2 I2 rx ry q=>ho pins s2 σ H2 x y v u Q I2 rx ry q)
theorem PD{op:UnaryOp}{r:V->Hp->VK->Prop}(ho:Wc X (unaryOp op) r)(ha:PE X a ta):PE X (.UnaryOp op a pos) (Zy r ta):=by
 intro pins s σ H Q I h
 exact UnaryOp_ (fZ (ha pins s σ H _ I h) λv s1 ⟨x,H1,I1,r1,q1⟩=>ho pins s1 σ H1 x v Q I1 r1 q1)
theorem QI{f:Value->Value->Sem Value}{C:Int->Int->Prop}{g:Int->Int->Int}
  (rule:∀(i j:Int) (t u:Tok) (s:Shared) (Q:Value->Shared->Prop) (E:Value->Shared->Prop),C i j->Q (.int (g i j) s.toks) {s with toks:=s.toks+1} ->wpAny (model X.prog X.w) X.A (f (.int i t) (.int j u)) Q E s):
  sr X f (rI C λi j=> .int (g i j)):=by
 intro pins s σ H x y v u Q I rx ry h
 obtain⟨i,j,rfl,rfl,hc,q⟩:=h
 obtain⟨t,rfl⟩:=rx
 obtain⟨t',rfl⟩:=ry
 exact rule i j t t' s _ _ hc ⟨.int (g i j),H,I.tok _,⟨_,rfl⟩,q⟩
theorem Tn{f:Value->Value->Sem Value}{g:Int->Int->Int}
  (rule:∀(i j:Int) (t u:Tok) (s:Shared) (Q:Value->Shared->Prop) (E:Value->Shared->Prop),Q (.int (g i j) s.toks) {s with toks:=s.toks+1} ->wpAny (model X.prog X.w) X.A (f (.int i t) (.int j u)) Q E s):
  sr X f (CO λi j=> .int (g i j)):=by
 intro pins s σ H x y v u Q I rx ry h
 obtain⟨i,j,rfl,rfl,q⟩:=h
 obtain⟨t,rfl⟩:=rx
 obtain⟨t',rfl⟩:=ry
 exact rule i j t t' s _ _ ⟨.int (g i j),H,I.tok _,⟨_,rfl⟩,q⟩
theorem Nu{f:Value->Value->Sem Value}{g:Int->Int->Bool}
  (rule:∀(i j:Int) (t u:Tok) (s:Shared) (Q:Value->Shared->Prop) (E:Value->Shared->Prop),Q (.bool (g i j)) s->wpAny (model X.prog X.w) X.A (f (.int i t) (.int j u)) Q E s):
  sr X f (CO λi j=> .bl (g i j)):=by
 intro pins s σ H x y v u Q I rx ry h
 obtain⟨i,j,rfl,rfl,q⟩:=h
 obtain⟨t,rfl⟩:=rx
 obtain⟨t',rfl⟩:=ry
 exact rule i j t t' s _ _ ⟨.bl (g i j),H,I,rfl,q⟩
def Jx(i j:Int):Prop:=0<j/\j<1073741824
def We(i j:Int):Prop:=0<=j/\j<=1000000/\i.natAbs<2^64
def qA(i j:Int):Prop:=(-(2^64)<i/\i<2^64)∨(-(2^64)<j/\j<2^64)
theorem qA.ok{i j:Int}(h:qA i j):IntMulOk i j:=by
 rcases h with⟨h1,h2⟩|⟨h1,h2⟩
 ·exact .of_left (intBits_le_64 h1 h2)
 ·exact .of_right (intBits_le_64 h1 h2)
theorem dI:sr X (binaryOp .Add) (CO λi j=> .int (i+j)):=Tn λ_ _ _ _ _ _ _ q=>add_int q
theorem f6:sr X (binaryOp .Sub) (CO λi j=> .int (i-j)):=Tn λ_ _ _ _ _ _ _ q=>sub_int q
theorem bO:sr X (binaryOp .Mult) (rI qA λi j=> .int (i*j)):=QI λ_ _ _ _ _ _ _ hc q=>mul_int q hc.ok
theorem fm:sr X (binaryOp .FloorDiv) (rI Jx λi j=> .int (i/j)):=QI λi j _ _ _ _ _ hc q=>by
 have h1:(0:Int)<j:=hc.1
 have h2:j<1073741824:=hc.2
 exact floordiv_int (by omega) (by rw[Int.fdiv_eq_ediv_of_nonneg i (by omega)];exact q) (.inl (PyProof.noPylong_small (by omega)))
theorem cR:sr X (binaryOp .Mod) (rI (λ_ j=>0<j) λi j=> .int (i%j)):=QI λi j _ _ _ _ _ hc q=>by
 have h1:(0:Int)<j:=hc
 exact mod_int' (by omega) (by rw[Int.fmod_eq_emod_of_nonneg i (by omega)];exact q)
theorem Jy:sr X (binaryOp .Pow) (rI We λi j=> .int (i^j.toNat)):=QI λ_ _ _ _ _ _ _ hc q=>pow_int_small hc.1 hc.2.1 hc.2.2 q
theorem Zz{f:Value->Sem Value}{g:Int->Int}
  (rule:∀(i:Int) (t:Tok) (s:Shared) (Q:Value->Shared->Prop) (E:Value->Shared->Prop),Q (.int (g i) s.toks) {s with toks:=s.toks+1} ->wpAny (model X.prog X.w) X.A (f (.int i t)) Q E s):
  Wc X f (rU λi=> .int (g i)):=by
 intro pins s σ H x v Q I rx h
 obtain⟨i,rfl,q⟩:=h
 obtain⟨t,rfl⟩:=rx
 exact rule i t s _ _ ⟨.int (g i),H,I.tok _,⟨_,rfl⟩,q⟩
theorem Jz:Wc X (unaryOp .USub) (rU λi=> .int (-i)):=Zz λ_ _ _ _ _ q=>neg_int q
end
def To:V->V->Bool
 | .gu,.gu=>true| .gu,.int _=>true| .int _,.gu=>true| .gu,.bl _=>true| .bl _,.gu=>true| .gu,.str _=>true| .str _,.gu=>true
 | .int _,.int _=>true| .bl _,.bl _=>true| .str _,.str _=>true| .Gs _,.Gs _=>true
 | .int _,.str _=>true| .str _,.int _=>true| .bl _,.str _=>true| .str _,.bl _=>true
 |_,_=>false
def EX:R2:=λx y H Q=>To x y=true/\Q (.bl (decide (x=y))) H
def PF:R2:=λx y H Q=>To x y=true/\Q (.bl (!decide (x=y))) H
theorem EY{i j:Int}:decide (V.int i=V.int j)=(i==j):=by
 rw[Bool.eq_iff_iff]
 simp
theorem JA{i j:Bool}:decide (V.bl i=V.bl j)=(i==j):=by
 rw[Bool.eq_iff_iff]
 simp
theorem EZ{i j:Str}:decide (V.str i=V.str j)=(i==j):=by
 rw[Bool.eq_iff_iff]
 simp
theorem Fb{i j:Array UInt8}:decide (V.Gs i=V.Gs j)=(i.toList==j.toList):=by
 rw[Bool.eq_iff_iff]
 cases i
 cases j
 simp
section
variable{X:Cx}{a b c:Expr}{ta tb tc:TE}{pos:Pos}
theorem cX{pins:List (Addr×Obj)}{σ:St}{H:Hp}{s:Shared}{Q:VK}{k k':Bool}(I:Inv X pins σ H s)(q:Q (.bl k) H)(e:k=k'):EP X pins σ Q (.bool k') s:=by
 subst e
 exact⟨.bl k,H,I,rfl,q⟩
theorem j7:sr X (compareOp .Eq) EX:=by
 intro pins s σ H x y v u Q I rx ry h
 obtain⟨hs,q⟩:=h
 cases x with
 |gu=>
  cases rx
  cases y with
  |gu=>cases ry;exact PySem.EqNone.eq_none_none (cX I q (by simp))
  |bl j=>cases ry;exact PySem.EqNone.eq_none_bool (cX I q (by simp))
  |int j=>obtain⟨t',rfl⟩:=ry;exact PySem.EqNone.eq_none_int (cX I q (by simp))
  |str j=>obtain⟨t',rfl⟩:=ry;exact PySem.EqNone.eq_none_str (cX I q (by simp))
  |_=>exact absurd (show false=true from hs) Bool.false_ne_true
 |bl i=>
  cases rx
  cases y with
  |gu=>cases ry;exact PySem.EqNone.eq_bool_none (cX I q (by simp))
  |bl j=>cases ry;exact eq_bool (cX I q JA)
  |str j=>obtain⟨t',rfl⟩:=ry;exact PySem.EqMixed.eq_bool_str (cX I q (by simp))
  |_=>exact absurd (show false=true from hs) Bool.false_ne_true
 |int i=>
  obtain⟨t,rfl⟩:=rx
  cases y with
  |gu=>cases ry;exact PySem.EqNone.eq_int_none (cX I q (by simp))
  |int j=>obtain⟨t',rfl⟩:=ry;exact eq_int (cX I q EY)
  |str j=>obtain⟨t',rfl⟩:=ry;exact PySem.EqMixed.eq_int_str (cX I q (by simp))
  |_=>exact absurd (show false=true from hs) Bool.false_ne_true
 |str i=>
  obtain⟨t,rfl⟩:=rx
  cases y with
  |gu=>cases ry;exact PySem.EqNone.eq_str_none (cX I q (by simp))
  |bl j=>cases ry;exact PySem.EqMixed.eq_str_bool (cX I q (by simp))
  |int j=>obtain⟨t',rfl⟩:=ry;exact PySem.EqMixed.eq_str_int (cX I q (by simp))
  |str j=>obtain⟨t',rfl⟩:=ry;exact eq_str (cX I q EZ)
  |_=>exact absurd (show false=true from hs) Bool.false_ne_true
 |Gs i=>
  obtain⟨t,rfl⟩:=rx
  cases y with
  |Gs j=>obtain⟨t',rfl⟩:=ry;exact PySem.W.eq_bytes (cX I q Fb)
  |_=>exact absurd (show false=true from hs) Bool.false_ne_true
 |_=>cases y<;>exact absurd (show false=true from hs) Bool.false_ne_true
theorem ju:sr X (compareOp .NotEq) PF:=by
 intro pins s σ H x y v u Q I rx ry h
 obtain⟨hs,q⟩:=h
 cases x with
 |gu=>
  cases rx
  cases y with
  |gu=>cases ry;exact PySem.EqNone.ne_none_none (cX I q (by simp))
  |bl j=>cases ry;exact PySem.EqNone.ne_none_bool (cX I q (by simp))
  |int j=>obtain⟨t',rfl⟩:=ry;exact PySem.EqNone.ne_none_int (cX I q (by simp))
  |str j=>obtain⟨t',rfl⟩:=ry;exact PySem.EqNone.ne_none_str (cX I q (by simp))
  |_=>exact absurd (show false=true from hs) Bool.false_ne_true
 |bl i=>
  cases rx
  cases y with
  |gu=>cases ry;exact PySem.EqNone.ne_bool_none (cX I q (by simp))
  |bl j=>cases ry;exact ne_bool (cX I q (congrArg not JA))
  |str j=>obtain⟨t',rfl⟩:=ry;exact PySem.EqMixed.ne_bool_str (cX I q (by simp))
  |_=>exact absurd (show false=true from hs) Bool.false_ne_true
 |int i=>
  obtain⟨t,rfl⟩:=rx
  cases y with
  |gu=>cases ry;exact PySem.EqNone.ne_int_none (cX I q (by simp))
  |int j=>obtain⟨t',rfl⟩:=ry;exact ne_int (cX I q (congrArg not EY))
  |str j=>obtain⟨t',rfl⟩:=ry;exact PySem.EqMixed.ne_int_str (cX I q (by simp))
  |_=>exact absurd (show false=true from hs) Bool.false_ne_true
 |str i=>
  obtain⟨t,rfl⟩:=rx
  cases y with
  |gu=>cases ry;exact PySem.EqNone.ne_str_none (cX I q (by simp))
  |bl j=>cases ry;exact PySem.EqMixed.ne_str_bool (cX I q (by simp))
  |int j=>obtain⟨t',rfl⟩:=ry;exact PySem.EqMixed.ne_str_int (cX I q (by simp))
  |str j=>obtain⟨t',rfl⟩:=ry;exact ne_str (cX I q (congrArg not EZ))
  |_=>exact absurd (show false=true from hs) Bool.false_ne_true
 |Gs i=>
  obtain⟨t,rfl⟩:=rx
  cases y with
  |Gs j=>obtain⟨t',rfl⟩:=ry;exact PySem.W.ne_bytes (cX I q (congrArg not Fb))
  |_=>exact absurd (show false=true from hs) Bool.false_ne_true
 |_=>cases y<;>exact absurd (show false=true from hs) Bool.false_ne_true
theorem PJ:sr X (compareOp .Lt) (CO λi j=> .bl (decide (i<j))):=Nu λ_ _ _ _ _ _ _ q=>lt_int q
theorem Fc:sr X (compareOp .LtE) (CO λi j=> .bl (decide (i<=j))):=Nu λ_ _ _ _ _ _ _ q=>le_int q
theorem yI:sr X (compareOp .Gt) (CO λi j=> .bl (decide (j<i))):=Nu λ_ _ _ _ _ _ _ q=>gt_int q
theorem Tq:sr X (compareOp .GtE) (CO λi j=> .bl (decide (j<=i))):=Nu λ_ _ _ _ _ _ _ q=>ge_int q
theorem QJ:sr X (compareOp .Is) (λx y H Q=>y= .gu/\Q (.bl (decide (x= .gu))) H):=by
 intro pins s σ H x y v u Q I rx ry h
 obtain⟨rfl,q⟩:=h
 cases ry
 refine is_none_gen (cX I q ?_)
 cases x<;>first
  |(cases rx;rfl)
  |(obtain⟨t,rfl⟩:=rx;rfl)
theorem Nv:sr X (compareOp .IsNot) (λx y H Q=>y= .gu/\Q (.bl (!decide (x= .gu))) H):=by
 intro pins s σ H x y v u Q I rx ry h
 obtain⟨rfl,q⟩:=h
 cases ry
 refine isnot_none_gen (cX I q ?_)
 cases x<;>first
  |(cases rx;rfl)
  |(obtain⟨t,rfl⟩:=rx;rfl)
theorem bf(b:Expr){op:CmpOp}(h:op≠ .In:=by decide)(h2:op≠ .NotIn:=by decide):behindInMarks op b=false:=by
 have e1:(op==CmpOp.In)=false:=by cases op<;>first|rfl|exact absurd rfl h
 have e2:(op==CmpOp.NotIn)=false:=by cases op<;>first|rfl|exact absurd rfl h2
 cases b<;>simp[behindInMarks,e1,e2]
theorem f7{op:CmpOp}{r:R2}(ho:sr X (compareOp op) r)(ha:PE X a ta)(hb:PE X b tb)(hm:behindInMarks op b=false):PE X (.Compare a [op] [b] pos) (c7 r ta tb):=by
 intro pins s σ H Q I h
 exact wpAny_Compare1 (QH ha hb I h λv u s2 x y H2 I2 rx ry q=>ho pins s2 σ H2 x y v u Q I2 rx ry q) hm
def lN(t:TE):TT:=λσ H Q=>t σ H λx H'=> ∃k,x= .bl k/\Q k H'
theorem bg{op:CmpOp}{r:R2}(ho:sr X (compareOp op) r)(ha:PE X a ta)(hb:PE X b tb)(hm:behindInMarks op b=false):PT X (.Compare a [op] [b] pos) (lN (c7 r ta tb)):=by
 intro pins s σ H Q I h
 refine wpAny_isTrue_Compare1 (fZ (ha pins s σ H _ I h) λv s1 ⟨x,H1,I1,r1,q1⟩=>fZ (hb pins s1 σ H1 _ I1 q1) λu s2 ⟨y,H2,I2,r2,q2⟩=>
  fZ (ho pins s2 σ H2 x y v u _ I2 r1 r2 q2) λc s3 ⟨z,H3,I3,r3,k,e,q3⟩=> ?_) hm
 subst e
 cases r3
 exact wpAny_truthy_bool ⟨H3,I3,q3⟩
def Tt(K:PySem.W.Frag)(x:V)(H:Hp)(k:Bool):Prop:=
 match x with
 | .gu=>k=false
 | .bl b=>k=b
 | .int i=>k=(i !=0)
 | .str y=>y.length<=sizeLine/\k=((y.length:Int) !=0)
 | .Gs y=>y.size<=sizeLine/\k=((y.size:Int) !=0)
 | .ref p=>(∃xs,aN K H p xs/\k= !xs.isEmpty)∨(∃xs,p6 K H p xs/\k= !xs.isEmpty)∨ ∃kvs,H p=some (.dK kvs)/\k= !kvs.isEmpty
 |_=>False
theorem Dc{κ:Type}{kvs:List (κ×V)}{vs:List (κ×Value)}(r:KV kvs vs):(!vs.isEmpty)= !kvs.isEmpty:=by
 cases r<;>rfl
theorem vM{xs:List V}{its:List Value}(r:Vals xs its):(!its.toArray.isEmpty)= !xs.isEmpty:=by
 cases r<;>simp
theorem sF:(sizeLine:Nat)<2^63:=by rw[sizeLine_eq];decide
theorem QK:Wd X (λx H Q=> ∃k,Tt X.K x H k/\Q k H):=by
 intro pins s σ H x v Q I rx h
 obtain⟨k,e,q⟩:=h
 have hl:=sF
 have hs:sizeLine=16777216:=sizeLine_eq
 cases x with
 |gu=>
  cases rx
  have e':k=false:=e
  subst e'
  exact truthy_none ⟨H,I,q⟩
 |bl b=>
  cases rx
  have e':k=b:=e
  subst e'
  exact wpAny_truthy_bool ⟨H,I,q⟩
 |int i=>
  obtain⟨t,rfl⟩:=rx
  have e':k=(i !=0):=e
  subst e'
  exact PySem.P.truthy_int ⟨H,I,q⟩
 |str y=>
  obtain⟨t,rfl⟩:=rx
  obtain⟨hy,e'⟩:y.length<=sizeLine/\k=((y.length:Int) !=0):=e
  subst e'
  exact PySem.P.truthy_str (by omega) ⟨H,I.tok _,q⟩
 |Gs y=>
  obtain⟨t,rfl⟩:=rx
  obtain⟨hy,e'⟩:y.size<=sizeLine/\k=((y.size:Int) !=0):=e
  subst e'
  exact PySem.W.truthy_bytes (by omega) ⟨H,I.tok _,q⟩
 |ref p=>
  cases rx
  have e':(∃xs,aN X.K H p xs/\k= !xs.isEmpty)∨(∃xs,p6 X.K H p xs/\k= !xs.isEmpty)∨ ∃kvs,H p=some (.dK kvs)/\k= !kvs.isEmpty:=e
  rcases e' with⟨xs,hx,e'⟩|⟨xs,hx,e'⟩|⟨kvs,hx,e'⟩
  ·subst e'
   obtain⟨its,r,pl,hz⟩:=I.list hx
   have hlen:=r.length
   exact wpAny_truthy_list pl.isList (by simp only[List.size_toArray];omega) ⟨H,I.tok _,by rw[vM r];exact q⟩
  ·subst e'
   obtain⟨its,r,pl,hz⟩:=I.tuple hx
   have hlen:=r.length
   exact truthy_tuple pl (by simp only[List.size_toArray];omega) ⟨H,I.tok _,by rw[vM r];exact q⟩
  ·subst e'
   obtain⟨hz,hS,vs,r,m⟩:kvs.length<=sizeLine/\(p==sysModules)=false/\ ∃vs,KV kvs vs/\s.heap.DictOf (zI X.prog X.w) p vs:=I.hok p _ hx
   have hlen:kvs.length=vs.length:=Paired.length r
   exact wpAny_truthy_dict hS m (by omega) ⟨H,I.tok _,by rw[Dc r];exact q⟩
 |_=>exact(show False from e).elim
theorem JC(ha:PE X a ta)(he:∀whole,isTrue a X.env whole=(do let v<-whole;standAt a.pos;holding [v] (truthy v))):
  PT X a (λσ H Q=>ta σ H λx H'=> ∃k,Tt X.K x H' k/\Q k H'):=by
 intro pins s σ H Q I h
 exact isTrue_plain (fZ (ha pins s σ H _ I h) λv s1 ⟨x,H1,I1,r1,q1⟩=>QK pins s1 σ H1 x v Q I1 r1 q1) (he _)
theorem vals1{x:V}{us:List Value}(r:Vals [x] us):∃u,us=[u]/\RelV x u:=by
 cases r with
 |cons r1 r2=>cases r2;exact⟨_,rfl,r1⟩
theorem oR:oQ X (.builtin "abs") (λxs H Q=> ∃i,xs=[.int i]/\Q (.int (if i<0 then-i else i)) H):=by
 intro pins s σ H xs us Q I r h
 obtain⟨i,rfl,q⟩:=h
 obtain⟨u,rfl,t,rfl⟩:=vals1 r
 exact call_abs_int λu tk=>⟨.int (if i<0 then-i else i),H,I.tok _,⟨_,rfl⟩,q⟩
theorem p7:oQ X (.type "int") (λxs H Q=>(∃i,xs=[.int i]/\Q (.int i) H)∨ ∃k,xs=[.bl k]/\Q (.int (if k then 1 else 0)) H):=by
 intro pins s σ H xs us Q I r h
 rcases h with⟨i,rfl,q⟩|⟨k,rfl,q⟩
 ·obtain⟨u,rfl,t,rfl⟩:=vals1 r
  exact call_int_int ⟨.int i,H,I,⟨_,rfl⟩,q⟩
 ·obtain⟨u,rfl,r1⟩:=vals1 r
  cases r1
  exact call_int_bool ⟨.int (if k then 1 else 0),H,I.tok _,⟨_,rfl⟩,q⟩
end
structure QL(h:Heap)(x dx C:Addr)(mA:Str->Option Value):Prop where
 obj:h.get? x=some (PySem.W.instObj C dx)
 ns:h.Ns1 dx mA
 ne:dx≠x
theorem GA{h:Heap}{dx:Addr}{mA:Str->Option Value}(n:h.Ns1 dx mA):∃od,h.get? dx=some od/\ ∀name,PySem.W.lookIn name od=some (mA name):=by
 obtain⟨o,es,ep,ho,hd,hk,_,hm⟩:=n
 refine⟨o,ho,λname=> ?_⟩
 have e:=hm name
 unfold nsFind findBy at e
 rw[<-Array.find?_toList]at e
 unfold PySem.W.lookIn
 rw[hd]
 dsimp only
 split
 ·rename_i y q
  rw[q]at e
  exact congrArg some e
 ·rename_i q
  rw[q]at e
  have a:es.toList.any (·.refKey)=false:=by
   rw[List.any_eq_false]
   intro y hy
   obtain⟨z,t,hkey⟩:=hk y (Array.mem_toList_iff.mp hy)
   simp[DictEntry.refKey,hkey]
  have a':¬es.toList.any (·.refKey)=true:=by rw[a];exact Bool.false_ne_true
  rw[if_neg a']
  exact congrArg some e
theorem QL.look{h:Heap}{x dx C:Addr}{mA:Str->Option Value}(I:QL h x dx C mA):∃od,PySem.W.InstAt h x (PySem.W.instObj C dx) C (some od)/\ ∀name,PySem.W.lookIn name od=some (mA name):=
 let⟨od,ho,hl⟩:=GA I.ns
 ⟨od,⟨I.obj,rfl,rfl,ho⟩,hl⟩
section
variable{prog:Program}{w:World}{A:Around}{E:Value->Shared->Prop}{s:Shared}{K:PySem.W.Frag}{x dx C f:Addr}{mA:Str->Option Value}{name:Str}{v:Value}
end
section
variable{P:Program}{w:World}{H H':Hp}{h h':Heap}{a C dx:Addr}{fs fs':List (Str×V)}
theorem Nx(hok:vj P w H h)(e:H a=some (.ins C dx fs)):∃mA,QL h a dx C mA/\(∀f,Qt (fs.lookup f) (mA f))/\PySem.Within mA (fs.map (·.1))/\fs.length<=1000/\H dx=some (.own a):=by
 obtain⟨d,z,ne,ob,mA,n,r,q⟩:=(show gb P w H h a (.ins C dx fs)from hok a _ e)
 exact⟨mA,⟨ob,n,ne⟩,r,q,z,d⟩
end
structure Wf(K:PySem.W.Frag)(C:Addr):Prop where
 pg:PySem.W.plainGet K C Str.empty=true
 hd:PySem.W.hasDictIn K C=true
 po:PySem.W.plainOver K C=true
 sa:PySem.W.findIn K (.ref C) "__setattr__"=some (some (.builtin "object.__setattr__"))
theorem Wf.get{K:PySem.W.Frag}{C:Addr}(c:Wf K C)(f:Str):PySem.W.plainGet K C f=true:=c.pg
structure Con(K:PySem.W.Frag)(C:Addr)(f:Str)(v:V)(u:Value):Prop where
 at_:PySem.W.findIn K (.ref C) f=some (some u)
 rel:RelV v u
 get:PySem.W.specialIn K u "__get__"=some none
 cp:PySem.W.copiedNames.contains f=false
structure Meth(K:PySem.W.Frag)(C:Addr)(m:Str)(f:Addr):Prop where
 at_:PySem.W.findIn K (.ref C) m=some (some (.ref f))
 fn:PySem.W.isFn K (.ref f)=true
 kp:PySem.W.keepIn K (.ref f)=true
section
variable{X:Cx}{pins:List (Addr×Obj)}{σ:St}{H:Hp}{s:Shared}{a C dx:Addr}{fs:List (Str×V)}{f:Str}{v:V}{A:Around}{E:Value->Shared->Prop}
end
section
variable{X:Cx}{o e value:Expr}{f:Str}{pos pos' tpos:Pos}{ta tv:TE}
end
section
variable{X:Cx}{pins:List (Addr×Obj)}{σ:St}{H:Hp}{s:Shared}{A:Around}{E:Value->Shared->Prop}{Q:Value->Shared->Prop}{c:Value}{b:Bool}
inductive rA (K:PySem.W.Frag) (H:Hp):V->Value->Prop where
 |gu:rA K H .gu (.type "NoneType")
 |bl (x:Bool):rA K H (.bl x) (.type "bool")
 |int (i:Int):rA K H (.int i) (.type "int")
 |str (x:Str):rA K H (.str x) (.type "str")
 |Gu (x:UInt64):rA K H (.Gu x) (.type "float")
 |lst {a:Addr} {xs:List V} (e:H a=some (.lst xs)):rA K H (.ref a) (.type "list")
 |zJ {a:Addr} {o:Obj} {xs:List V} (e:H a=some (.zJ o (.lst xs))):rA K H (.ref a) (.type "list")
 |tup {a:Addr} {xs:List V} (e:H a=some (.tup xs)):rA K H (.ref a) (.type "tuple")
 |dK {a:Addr} {kvs:List (Key×V)} (e:H a=some (.dK kvs)):rA K H (.ref a) (.type "dict")
 |dT {a:Addr} {kvs:List (List Key×V)} (e:H a=some (.dT kvs)):rA K H (.ref a) (.type "dict")
 |ins {a C dx:Addr} {fs:List (Str×V)} (e:H a=some (.ins C dx fs)) (cl:Wf K C) (ha:PySem.W.findIn K (.ref C) "__class__"=some (some (.builtin "object.__class__")))
   (hn:PySem.W.specialIn K (.builtin "object.__class__") "__get__"=some (some (.builtin "getset_descriptor.__get__"))) (htk:PySem.W.takesIn K (.builtin "object.__class__")=some true)
   (hm:PySem.W.mroIn K C (.type "object")=some true):rA K H (.ref a) (.ref C)
theorem GB{x:V}{u t:Value}(I:Inv X pins σ H s)(rx:RelV x u)(ty:rA X.K H x t)(e:PySem.W.kitOne X.K t c=some b)(h:∀tk,Q (.bool b) {s with toks:=tk}):
  wpAny (model X.prog X.w) A (call (.builtin "isinstance") [u,c]) Q E s:=by
 cases ty with
 |gu=>cases(show u=Value.none from rx);exact PySem.W.kia_one PySem.W.kitx_none I.zK True.intro e (λz=>nomatch z) h
 |bl y=>cases(show u=Value.bool y from rx);exact PySem.W.kia_one PySem.W.kitx_bool I.zK True.intro e (λz=>nomatch z) h
 |int i=>obtain⟨t,q⟩:=(show ∃t,u=Value.int i t from rx);cases q;exact PySem.W.kia_one PySem.W.kitx_int I.zK True.intro e (λz=>nomatch z) h
 |str y=>obtain⟨t,q⟩:=(show ∃t,u=Value.str y t from rx);cases q;exact PySem.W.kia_one PySem.W.kitx_str I.zK True.intro e (λz=>nomatch z) h
 |Gu y=>obtain⟨t,q⟩:=(show ∃t,u=Value.float y t from rx);cases q;exact PySem.W.kia_one PySem.W.kitx_float I.zK True.intro e (λz=>nomatch z) h
 | @lst a xs ea=>
  cases(show u=Value.ref a from rx)
  obtain⟨_,_,n,_,h1⟩:=(show gb X.prog X.w H s.heap a (.lst xs)from I.hok a _ ea)
  exact PySem.W.kia_one PySem.W.kitx_list I.zK ⟨_,h1,rfl⟩ e (λz=>nomatch z) h
 | @zJ a ob xs ea=>
  cases(show u=Value.ref a from rx)
  obtain⟨_,_,_,n,_,h1⟩:=(show gb X.prog X.w H s.heap a (.zJ ob (.lst xs))from I.hok a _ ea)
  exact PySem.W.kia_one PySem.W.kitx_list I.zK ⟨_,h1,rfl⟩ e (λz=>nomatch z) h
 | @tup a xs ea=>
  cases(show u=Value.ref a from rx)
  obtain⟨_,_,_,p⟩:=(show gb X.prog X.w H s.heap a (.tup xs)from I.hok a _ ea)
  obtain⟨o,h1,h2,_⟩:=p
  exact PySem.W.kia_one PySem.W.kitx_tuple I.zK ⟨o,h1,h2⟩ e (λz=>nomatch z) h
 | @dK a kvs ea=>
  cases(show u=Value.ref a from rx)
  obtain⟨_,_,vs,_,p⟩:=(show gb X.prog X.w H s.heap a (.dK kvs)from I.hok a _ ea)
  obtain⟨o,es,ep,h1,h2,_⟩:=p
  exact PySem.W.kia_one PySem.W.kitx_dict I.zK ⟨o,h1,h2.1⟩ e (λz=>nomatch z) h
 | @dT a kvs ea=>
  cases(show u=Value.ref a from rx)
  obtain⟨_,_,xs,_,o,es,ep,h1,h2,_⟩:=(show gb X.prog X.w H s.heap a (.dT kvs)from I.hok a _ ea)
  exact PySem.W.kia_one PySem.W.kitx_dict I.zK ⟨o,h1,h2.1⟩ e (λz=>nomatch z) h
 | @ins a C dx fs ea cl ha hn htk hm=>
  cases(show u=Value.ref a from rx)
  obtain⟨mA,O,_⟩:=Nx I.hok ea
  obtain⟨od,J,_⟩:=O.look
  exact PySem.W.kia_one (PySem.W.kitx_own (cl.get _) cl.hd ha hn htk hm) I.zK J e (λz=>nomatch z) h
end
structure gw(k:Nat)(A:Around):Prop where
 hd:A.handled=none
 dp:A.depth+3*k+5<recursionLimit
 un:A.units+16*k+200<cLine
theorem gw.mono{j k:Nat}{A:Around}(r:gw k A)(h:j<=k):gw j A:=⟨r.hd,by have:=r.dp;omega,by have:=r.un;omega⟩
theorem gw.deeper{k:Nat}{A:Around}(r:gw (k+1) A)(env:Env):gw k (A.deeper env):=
 ⟨r.hd,by have:=r.dp;show A.depth+1+3*k+5<_;omega,by have:=r.un;show A.units+3+16*k+200<_;omega⟩
theorem gw.depth{k:Nat}{A:Around}(r:gw k A):A.depth<recursionLimit:=by have:=r.dp;omega
theorem gw.units{k:Nat}{A:Around}(r:gw k A):A.units+64<cLine:=by have:=r.un;omega
def gM:TA:=λ_ H Q=>Q [] H
def bK(ta:TE)(tr:TA):TA:=λσ H Q=>ta σ H λx H1=>tr σ H1 λxs H2=>Q (x::xs) H2
section
variable{X:Cx}{e:Expr}{es:List Expr}{te:TE}{t:TA}{pos:Pos}
theorem ak:PA X [] gM:=λ_ _ _ _ H Q I h=>Calls.spliced_nil ⟨[],H,I,.nil,h⟩
theorem af(ha:PE X e te)(hr:PA X es t)(hs:starEach (e::es) X.env=(false,eval e X.env)::starEach es X.env:=by rfl):PA X (e::es) (bK te t):=by
 intro pos pins s σ H Q I h
 rw[hs]
 show wpAny _ _ (spliced ((false,eval e X.env)::backTo pos (starEach es X.env))) _ _ s
 refine Calls.spliced_cons (fZ (ha pins s σ H _ I h) λu s1 ⟨x,H1,I1,r1,q1⟩=> ?_)
 exact fZ (hr pos pins s1 σ H1 _ I1 q1) λus s2 ⟨xs,H2,I2,r2,q2⟩=>⟨x::xs,H2,I2,.cons r1 r2,q2⟩
def Wg(t:TA):TE:=λσ H Q=>t σ H λxs H1=>xs.length<=sizeLine/\ ∀p,H1 p=none->Q (.ref p) (upd H1 p (.tup xs))
def TH(t:TA):TE:=λσ H Q=>t σ H λxs H1=>xs.length<=sizeLine/\ ∀p,H1 p=none->Q (.ref p) (upd H1 p (.lst xs))
theorem sH{x1}(h:PA X es t):PE X (.Tuple es x1 pos) (Wg t):=by
 intro pins s σ H Q I hq
 refine wpAny_Tuple_spliced (fZ (h pos pins s σ H _ I hq) λus s1 ⟨xs,H1,I1,r,z,q⟩=>⟨by rw[<-r.length];exact z,?_⟩)
 have hf:H1 s1.heap.objs.size=none:=I1.hok.fresh (Nat.le_refl _)
 refine⟨.ref s1.heap.objs.size,upd H1 s1.heap.objs.size (.tup xs),I1.laid (t':=s1.toks) (λb u e=>Heap.get?_push_of_some _ e) (Nat.le_refl _) ?_,rfl,q _ hf⟩
 exact⟨z,us,r,⟨_,Heap.get?_push_size _ rfl,rfl,_,rfl⟩⟩
theorem fQ(h:PA X es t):PE X (.List es pos) (TH t):=by
 intro pins s σ H Q I hq
 refine wpAny_List_spliced (fZ (h pos pins s σ H _ I hq) λus s1 ⟨xs,H1,I1,r,z,q⟩=>⟨by rw[<-r.length];exact z,?_⟩)
 have hf:H1 s1.heap.objs.size=none:=I1.hok.fresh (Nat.le_refl _)
 refine⟨.ref s1.heap.objs.size,upd H1 s1.heap.objs.size (.lst xs),I1.laid (t':=s1.toks) (λb u e=>Heap.get?_push_of_some _ e) (Nat.le_refl _) ?_,rfl,q _ hf⟩
 exact⟨z,us,0,r,Heap.get?_push_size _ rfl⟩
end
abbrev Sp:=List V->Hp->VK->XK->Prop
abbrev GC:=List Env->Hp->Shared->XK->Value->Shared->Prop
structure JD(P:Program)(w:World)(K:PySem.W.Frag)(mg:Str->Option Value)(base:Heap)(A:Around)(outer:List Env)(s:Shared)(H:Hp):Prop where
 frames:A.frames=some outer
 mod:Mod K mg base
 bs:∀b o,base.get? b=some o->s.heap.get? b=some o/\H b=none
 Nl:base.objs.size<=s.heap.objs.size
 uM:s.heap.FunFrames base outer
 Sf:∀b∈frs outer,H b=none
 hok:vj P w H s.heap
 bare:AllBare s.gens
def CE(outer:List Env)(P:Program)(w:World)(H:Hp)(s:Shared)(Q:VK)(u:Value)(s':Shared):Prop:=
 ∃v H',s'.os=s.os/\Jk s.gens s'.gens/\Un (frs outer) [] H H' s.heap s'.heap/\vj P w H' s'.heap/\RelV v u/\Q v H'
def CR(CX:GC)(outer:List Env)(P:Program)(w:World)(H:Hp)(s:Shared)(Q:VK)(E:XK)(r:Result)(s':Shared):Prop:=
 match r with
 | .ok (.ret u)=>CE outer P w H s Q u s'
 | .ok _=>False
 | .error e=>CX outer H s E e s'
structure rB(P:Program)(w:World)(K:PySem.W.Frag)(mg:Str->Option Value)(base:Heap)(CX:GC)(k:Nat)(f:Addr)(fd:FuncData)(ps:List Str)(sp:Sp):Prop where
 len:∀vs H Q E,sp vs H Q E->vs.length=ps.length
 run:∀(A:Around) (outer:List Env) (s:Shared) (H:Hp) (args:Args) (us:List Value) (vs:List V) (Q:VK) (E:XK),gw k A->JD P w K mg base A outer s H->BindsTo s fd args (ps.zip us) ->Vals vs us->sp vs H Q E->
  codeAny (model P w) A (.call (.ref f) args) (CR CX outer P w H s Q E) s
theorem rB.mono{P:Program}{w:World}{K:PySem.W.Frag}{mg:Str->Option Value}{base:Heap}{CX:GC}{j k:Nat}{f:Addr}{fd:FuncData}{ps:List Str}{sp:Sp}(F:rB P w K mg base CX j f fd ps sp)(h:j<=k):
  rB P w K mg base CX k f fd ps sp:=⟨F.len,λA outer s H args us vs Q E hr=>F.run A outer s H args us vs Q E (hr.mono h)⟩
section
variable{X:Cx}{pins:List (Addr×Obj)}{σ:St}{H:Hp}{s s':Shared}
theorem Inv.Wh(I:Inv X pins σ H s):JD X.prog X.w X.K X.mg X.base X.A X.stack s H:=
 ⟨I.ok.frames,I.ok.mod,I.bs,Nat.le_trans I.ok.Nl I.sz,I.stack,I.vm,I.hok,I.bare.bare⟩
theorem Inv.after{Q:VK}{u:Value}(I:Inv X pins σ H s)(h:CE X.stack X.prog X.w H s Q u s'):EP X pins σ Q u s':=by
 obtain⟨v,H',os,bare,un,hok,r,q⟩:=h
 obtain⟨hh,g,d,t,os'⟩:=s'
 obtain rfl:os'=s.os:=os
 exact⟨v,H',I.call (h':=hh) (g':=g) (d':=d) (t':=t) (ch:=[]) un hok bare (λb z=>absurd z (by simp)),r,q⟩
end
def mQ(sp:Sp)(PK:List V)(E:XK)(t:TA):TE:=λσ H Q=>t σ H λvs H1=>sp (vs++PK) H1 Q E
def Binds(K:PySem.W.Frag)(fd:FuncData)(ps:List Str)(ds:List Value):Prop:=
 ∀(s:Shared) (us:List Value),K.In s.heap->(us++ds).length=ps.length->BindsTo s fd ⟨us,[]⟩ (ps.zip (us++ds))
theorem Binds.all{K:PySem.W.Frag}{fd:FuncData}{ps:List Str}(h:∀us:List Value,us.length=ps.length->bindArgs fd ⟨us,[]⟩=pure (ps.zip us)):Binds K fd ps []:=λs us _ hl=>by
 rw[List.append_nil]at hl ⊢
 exact .of_eq (h us hl)
def Passes(CX:GC)(X:Cx)(E:XK):Prop:=∀(pins:List (Addr×Obj)) (σ:St) (H:Hp) (s:Shared) (e:Value) (s':Shared),Inv X pins σ H s->CX X.stack H s E e s'->X.xe e s'
section
variable{X:Cx}{CX:GC}{k:Nat}{f C:Addr}{fd:FuncData}{ps:List Str}{sp:Sp}{PK:List V}{ds:List Value}{E:XK}{x m:Str}{p pos apos:Pos}{e o:Expr}{es:List Expr}{ta:TE}{t:TA}
theorem QM{pins:List (Addr×Obj)}{σ:St}{H:Hp}{s:Shared}{Q:VK}{us:List Value}{vs:List V}(F:rB X.prog X.w X.K X.mg X.base CX k f fd ps sp)(hr:gw k X.A)(hb:Binds X.K fd ps ds)(hd:Vals PK ds)(hx:Passes CX X E)
  (I:Inv X pins σ H s)(r:Vals vs us)(h:sp (vs++PK) H Q E):wpAny (model X.prog X.w) X.A (call (.ref f) us) (EP X pins σ Q) X.xe s:=by
 have r2:Vals (vs++PK) (us++ds):=r.append hd
 have hl:(us++ds).length=ps.length:=by rw[<-r2.length];exact F.len _ _ _ _ h
 refine wpAny_call (codeAny_mono (F.run X.A X.stack s H ⟨us,[]⟩ (us++ds) (vs++PK) Q E hr I.Wh (hb s us I.zK hl) r2 h) λr s' hq=> ?_)
 cases r with
 |error e=>exact hx pins σ H s e s' I hq
 |ok fl=>
  cases fl with
  |ret u=>exact I.after hq
  |next=>exact False.elim hq
  |brk=>exact False.elim hq
  |cont=>exact False.elim hq
theorem Ny(F:rB X.prog X.w X.K X.mg X.base CX k f fd ps sp)(hr:gw k X.A)(hg:Gl X x)(hm:X.mg x=some (.ref f))(hk:PySem.W.keepIn X.K (.ref f)=true)(hb:Binds X.K fd ps ds)(hd:Vals PK ds)(hx:Passes CX X E)
  (ha:PA X (e::es) t)(hdb:(x==("__debug__":Str))=false:=by decide)(he:starEach (e::es) X.env=(false,eval e X.env)::starEach es X.env:=by rfl)(hpl:(backTo pos (starEach es X.env)).any (·.1)=false:=by rfl):
  PE X (.Call (.Name x p) (e::es) [] pos) (mQ sp PK E t):=by
 intro pins s σ H Q I h
 refine wpAny_Call_Name_kw (EV I hg hm ?_ hdb)
 refine PySem.W.callWith_K (h₀:=X.base) I.ok.mod.Se hk (fZ (ha pos pins s σ H _ I h) λus s1 ⟨vs,H1,I1,r,q⟩=>⟨I1.zK,?_⟩) he hpl
 exact QM F hr hb hd hx I1 r q
structure Mk(K:PySem.W.Frag)(C f:Addr):Prop where
 makes:PySem.W.makesIn K C=true
 init:PySem.W.findIn K (.ref C) "__init__"=some (some (.ref f))
 fn:PySem.W.isFn K (.ref f)=true
 kp:PySem.W.keepIn K (.ref C)=true
end
section
variable{X:Cx}{CX:GC}{k:Nat}{f C:Addr}{fd:FuncData}{ps ks:List Str}{sp:Sp}{E:XK}{x m:Str}{p pos apos kpos:Pos}{e o:Expr}{es:List Expr}{kws:List Keyword}{te ta:TE}{t tk:TA}{nm:Option Str}
structure Wi(K:PySem.W.Frag)(fd:FuncData)(ps ks:List Str)(g:List Value->List Value->List Value)(gV:List V->List V->List V):Prop where
 to:∀(s:Shared) (us ws:List Value),K.In s.heap->(g us ws).length=ps.length->BindsTo s fd ⟨us,ks.zip ws⟩ (ps.zip (g us ws))
 rel:∀{vs:List V} {us:List Value} {zs:List V} {ws:List Value},Vals vs us->Vals zs ws->Vals (gV vs zs) (g us ws)
variable{g:List Value->List Value->List Value}{gV:List V->List V->List V}
end
structure aP(N P:List Str)(sc:Scope):Prop where
 kind:sc.kind= .function
 co:sc.isCoroutine=false
 gen:sc.isGenerator=false
 nd:N.Nodup
 pre:N.take P.length=P
 par:∀x∈P,sc.names.lookup x=some .local∨sc.names.lookup x=some .cell
 QN:∀y∈sc.names,y.2≠ .free
theorem yJ{kindOf:Str->Option NameKind}{x:Str}:∀{binds:List (Str×Value)} {m:Str->Option Value},(∀v,(x,v)∉binds) ->bindL kindOf binds m x=m x
 | [],_,_=>rfl
 |(n,v)::r,m,h=>by
  unfold bindL
  rw[yJ λw hw=>h w (List.mem_cons_of_mem _ hw)]
  split
  ·have:x≠n:=by rintro rfl;exact h v List.mem_cons_self
   simp[this]
  ·rfl
theorem yK{kindOf:Str->Option NameKind}{x:Str}:∀{binds:List (Str×Value)} {m:Str->Option Value},(∀v,(x,v)∉binds) ->bindC kindOf binds m x=m x
 | [],_,_=>rfl
 |(n,v)::r,m,h=>by
  unfold bindC
  rw[yK λw hw=>h w (List.mem_cons_of_mem _ hw)]
  split
  ·rfl
  ·have:x≠n:=by rintro rfl;exact h v List.mem_cons_self
   simp[this]
theorem yL{kindOf:Str->Option NameKind}{x:Str}{v:Value}:∀{P:List Str} {vs:List Value} {i:Nat} {m:Str->Option Value},P.Nodup->P[i]?=some x->vs[i]?=some v->kindOf x=some .local->
  bindL kindOf (P.zip vs) m x=some v
 | [],_,_,_,_,h,_,_=>by simp at h
 |_::_,[],_,_,_,_,h,_=>by simp at h
 |p::P,w::vs,0,m,nd,h1,h2,hk=>by
  simp at h1 h2;subst h1;subst h2
  show bindL kindOf ((p,w)::P.zip vs) m p=_
  unfold bindL
  rw[yJ λv hv=>(List.nodup_cons.mp nd).1 (List.of_mem_zip hv).1,if_pos hk]
  simp
 |p::P,w::vs,i+1,m,nd,h1,h2,hk=>by
  show bindL kindOf ((p,w)::P.zip vs) m x=_
  unfold bindL
  exact yL (i:=i) (List.nodup_cons.mp nd).2 (by simpa using h1) (by simpa using h2) hk
theorem yM{kindOf:Str->Option NameKind}{x:Str}{v:Value}:∀{P:List Str} {vs:List Value} {i:Nat} {m:Str->Option Value},P.Nodup->P[i]?=some x->vs[i]?=some v->kindOf x≠some .local->
  bindC kindOf (P.zip vs) m x=some v
 | [],_,_,_,_,h,_,_=>by simp at h
 |_::_,[],_,_,_,_,h,_=>by simp at h
 |p::P,w::vs,0,m,nd,h1,h2,hk=>by
  simp at h1 h2;subst h1;subst h2
  show bindC kindOf ((p,w)::P.zip vs) m p=_
  unfold bindC
  rw[yK λv hv=>(List.nodup_cons.mp nd).1 (List.of_mem_zip hv).1,if_neg hk]
  simp
 |p::P,w::vs,i+1,m,nd,h1,h2,hk=>by
  show bindC kindOf ((p,w)::P.zip vs) m x=_
  unfold bindC
  exact yM (i:=i) (List.nodup_cons.mp nd).2 (by simpa using h1) (by simpa using h2) hk
def start(N:List Str)(vs:List V):St:=vs.map some++List.replicate (N.length-vs.length) none
def zN(CX:GC)(P:Program)(w:World)(K:PySem.W.Frag)(mg:Str->Option Value)(base:Heap)(N:List Str)(qual:Str)(scope:Scope)(f:Addr)(cd:Value)(A:Around)(outer:List Env)(s:Shared)(H:Hp)(E:XK):Cx where
 prog:=P
 w:=w
 K:=K
 mg:=mg
 base:=base
 A:=A.deeper (envOfC qual scope s.heap.objs.size f cd)
 N:=N
 s₀:=s
 H₀:=H
 env:=envOfC qual scope s.heap.objs.size f cd
 outer:=outer
 stack:=envOfC qual scope s.heap.objs.size f cd::outer
 ex:=[]
 calm:=true
 fn:=λ_=>true
 pn:=[]
 xe:=λe s'=>wpAny (model P w) (A.deeper (envOfC qual scope s.heap.objs.size f cd)) (leaving (envOfC qual scope s.heap.objs.size f cd) e) (λ_ s''=>CX outer H s E e s'') (λe' s''=>CX outer H s E e' s'') s'
theorem Bh{sc:Scope}{n:Nat}{x:Str}(h:sc.names.lookup x=some .cell):∃c,(cellsFrom n sc.names []).lookup x=some c:=by
 have q:=PySem.W.cellsFrom_some sc.names n [] (.inl h)
 exact Option.isSome_iff_exists.mp q
theorem GD{CX:GC}{P:Program}{w:World}{K:PySem.W.Frag}{mg:Str->Option Value}{base:Heap}{N ps:List Str}{qual:Str}{scope:Scope}{f:Addr}{cd:Value}{A:Around}{outer:List Env}{s s1:Shared}{H:Hp}{E:XK}{us:List Value}{vs:List V}
  (S:aP N ps scope)(hd:A.handled=none)(e0:JD P w K mg base A outer s H)(hl:vs.length=ps.length)(r:Vals vs us)
  (x:InCallC s s.heap.objs.size (bindL (envOfC qual scope s.heap.objs.size f cd).kindOf (ps.zip us) λ_=>none) (cellsFrom (s.heap.objs.size+1) scope.names []) (bindC (envOfC qual scope s.heap.objs.size f cd).kindOf (ps.zip us) λ_=>none) s1):
  Inv (zN CX P w K mg base N qual scope f cd A outer s H E) [] (start N vs) H s1:=by
 have hpl:ps.length<=N.length:=by have:=congrArg List.length S.pre;rw[List.length_take]at this;omega
 obtain⟨h1,tk,rfl,hk⟩:=x.done
 have Wj:∀b:Addr,b∉(zN CX P w K mg base N qual scope f cd A outer s H E).ex:=λb z=>absurd (show b∈([]:List Addr)from z) (by simp)
 refine⟨⟨e0.mod,S.kind,rfl,rfl,Nat.le_refl _,λy z c h1 h2=> ?_,λy hy=> ?_,λy c _ h=> ?_,λ_=>hd,Around.frames_deeper e0.frames,.inr ⟨rfl,rfl⟩,λb z=>absurd z (Wj b),e0.bs,e0.Nl,λb _ _=>Wj b,λb z=>absurd z (Wj b),e0.uM,e0.Sf⟩,
  rfl,.refl e0.bare,Un.kept hk,⟨_,x.toInCall.ns,λi y v h1 h2 h3=> ?_⟩,λy c h=>⟨_,x.cell y c h⟩,e0.hok.fresh (Nat.le_refl _),λy c h=> ?_,λp hp=>absurd (show p∈([]:List (Addr×Obj))from hp) (by simp),e0.hok.kept hk,?_⟩
 ·exact name_of_addr x.apart (PySem.mem_of_lookup h1) (PySem.mem_of_lookup h2)
 ·have hy:scope.names.lookup y=some .cell∨scope.names.lookup y=some .free:=hy
  rcases hy with hy|hy
  ·exact Bh hy
  ·exact absurd rfl (S.QN _ (PySem.mem_of_lookup hy))
 ·exact Nat.le_of_lt (x.above y c (PySem.mem_of_lookup h))
 ·have hi:i<vs.length:=by
   unfold start at h2
   by_cases hi:i<vs.length
   ·exact hi
   ·rw[List.getElem?_append_right (by simpa using hi)]at h2
    rw[List.getElem?_replicate]at h2
    split at h2<;>cases h2
  have ha:vs[i]?=some v:=by
   unfold start at h2
   rw[List.getElem?_append_left (by simpa using hi),List.getElem?_map]at h2
   cases e:vs[i]? with
   |none=>rw[e]at h2;cases h2
   |some a=>rw[e]at h2;cases h2;rfl
  obtain⟨u,hu,rv⟩:=r.get ha
  have hp:ps[i]?=some y:=by
   rw[<-S.pre,List.getElem?_take_of_lt (by omega)];exact h1
  have Yl:ps.Nodup:=by rw[<-S.pre];exact S.nd.sublist (List.take_sublist _ _)
  refine⟨u,rv,?_⟩
  rcases S.par y (List.mem_of_getElem? hp)with k|k
  ·exact .inl ⟨k,yL Yl hp hu k⟩
  ·obtain⟨c,e⟩:=Bh (n:=s.heap.objs.size+1) k
   refine .inr ⟨.inl k,c,e,?_⟩
   have q:=x.cell y c e
   rw[yM Yl hp hu (by show scope.names.lookup y≠_;rw[k];decide)]at q
   exact q
 ·exact e0.hok.fresh (Nat.le_of_lt (x.above y c (PySem.mem_of_lookup h)))
 ·unfold start
  show _=N.length
  rw[List.length_append,List.length_map,List.length_replicate]
  omega
theorem PL{CX:GC}{P:Program}{w:World}{K:PySem.W.Frag}{mg:Str->Option Value}{base:Heap}{k:Nat}{f:Addr}{name qual:Str}{params:Arguments}{body:List Stmt}{scope:Scope}{dV kV doc pm cdv ct oc:Value}{an od:Option Addr}
  {osl:Array (Option Value)}{N ps:List Str}{sp:Sp}(lk:K.lookup f=some ⟨oc,od,.func (PySem.W.fnOf name qual params body scope dV kV doc pm an cdv ct),osl⟩)(hcd:PySem.W.codeIn K cdv qual=true)(S:aP N ps scope)
  (len:∀vs H Q E,sp vs H Q E->vs.length=ps.length)
  (hbody:∀(A:Around) (outer:List Env) (s:Shared) (H:Hp) (vs:List V) (Q:VK) (E:XK),gw k (A.deeper (envOfC qual scope s.heap.objs.size f cdv)) ->sp vs H Q E->
   ∃t,zL (zN CX P w K mg base N qual scope f cdv A outer s H E) body t/\t {nx:=λ_ H'=>Q .gu H',rt:=Q} (start N vs) H):
  rB P w K mg base CX (k+1) f (PySem.W.fnOf name qual params body scope dV kV doc pm an cdv ct) ps sp:=by
 refine⟨len,λA outer s H args us vs Q E hr e0 hb r Ng=> ?_⟩
 have hl:=len _ _ _ _ Ng
 have KX:K.In s.heap:=e0.mod.Se.keeps λb o e=>(e0.bs b o e).1
 have lim:s.heap.NoLimit:=e0.mod.nolimit.keeps λb o e=>(e0.bs b o e).1
 have hkind:∀y∈ps.zip us,scope.names.lookup y.1=some .local∨(scope.names.lookup y.1=some .cell/\((cellsFrom (s.heap.objs.size+1) scope.names []).lookup y.1).isSome=true):=λ ⟨n,v⟩ hy=>by
  rcases S.par n (List.of_mem_zip hy).1 with q|q
  ·exact .inl q
  ·exact .inr ⟨q,PySem.W.cellsFrom_some _ _ _ (.inl q)⟩
 refine codeAny_call_function hr.depth (KX _ _ lk) rfl S.co S.gen rfl (PySem.W.codeRec_of KX hcd) (hb _ _ _ _ ?_)
 refine wpAny_newFunctionEnv_cells S.kind hkind λenv he s1 x=> ?_
 subst he
 refine⟨lim.keeps x.toInCall.keep,codeAny_func ?_⟩
 obtain⟨t,ht,hq⟩:=hbody A outer s H vs Q E (hr.deeper _) Ng
 have I:Inv (zN CX P w K mg base N qual scope f cdv A outer s H E) [] (start N vs) H s1:=GD S hr.hd e0 hl r x
 refine wpAny_mono (ht [] s1 (start N vs) H _ I hq) (λfl s' hs=> ?_) λe s' hs=>hs
 have fin:∀{σ':St} {H':Hp} {v:V} {u:Value},Inv (zN CX P w K mg base N qual scope f cdv A outer s H E) [] σ' H' s'->RelV v u->Q v H'->CE outer P w H s Q u s':=
  λ {σ' H' v u} J rv q=>⟨v,H',J.os,J.bare,J.base,J.hok,rv,q⟩
 cases fl with
 |ret u=>
  obtain⟨v,σ',H',J,rv,q⟩:=hs
  exact fin J rv q
 |next=>
  obtain⟨σ',H',J,q⟩:=hs
  exact fin (v:=V.gu) (u:=Value.none) J rfl q
 |brk=>
  obtain⟨_,_,_,q⟩:=hs
  exact False.elim q
 |cont=>
  obtain⟨_,_,_,q⟩:=hs
  exact False.elim q
section
variable{X:Cx}{x:Str}{p pos:Pos}{e:Expr}{es:List Expr}{t:TA}{id T:String}{r:List V->Hp->VK->Prop}
def Fd(r:List V->Hp->VK->Prop)(t:TA):TE:=λσ H Q=>t σ H λvs H1=>r vs H1 Q
theorem bD(hc:oQ X (.builtin id) r)(hg:Gl X x)(hm:X.mg x=none)(hv:bootBuiltins x=some (.builtin id))(ha:PA X (e::es) t)(hn:x≠ "__name__":=by decide)(hdb:(x==("__debug__":Str))=false:=by decide)
  (he:starEach (e::es) X.env=(false,eval e X.env)::starEach es X.env:=by rfl)(hpl:(backTo pos (starEach es X.env)).any (·.1)=false:=by rfl):PE X (.Call (.Name x p) (e::es) [] pos) (Fd r t):=by
 intro pins s σ H Q I h
 refine wpAny_Call_Name_kw (kG I hg hm hv ?_ hn hdb)
 exact PyProof.Rows.callWith_builtin1 (fZ (ha pos pins s σ H _ I h) λus s1 ⟨vs,H1,I1,r1,q1⟩=>hc pins s1 σ H1 vs us Q I1 r1 q1) he hpl
theorem iz(hc:oQ X (.type T) r)(hg:Gl X x)(hm:X.mg x=none)(hv:bootBuiltins x=some (.type T))(ha:PA X (e::es) t)(hn:x≠ "__name__":=by decide)(hdb:(x==("__debug__":Str))=false:=by decide)
  (he:starEach (e::es) X.env=(false,eval e X.env)::starEach es X.env:=by rfl)(hpl:(backTo pos (starEach es X.env)).any (·.1)=false:=by rfl):PE X (.Call (.Name x p) (e::es) [] pos) (Fd r t):=by
 intro pins s σ H Q I h
 refine wpAny_Call_Name_kw (kG I hg hm hv ?_ hn hdb)
 exact PyProof.Rows.callWith_type1 (fZ (ha pos pins s σ H _ I h) λus s1 ⟨vs,H1,I1,r1,q1⟩=>hc pins s1 σ H1 vs us Q I1 r1 q1) he hpl
end
end L2
namespace HT
open PySem PyProof.Rows
section
open PySem.SeqAt
open PySem.AutoSeq1 (wpAny_loadPart')
open PySem.MeetsSeq PySem.MeetsSeq2 PySem.MeetsSeq3
end
section
variable{prog:Program}{w:World}{A:Around}{E:Value->Shared->Prop}{s:Shared}
end
end HT
namespace L2
open PySem PySem.Spec PyProof.Rows
abbrev TO:=St->Hp->(Option Int->Hp->Prop) ->Prop
section
variable{X:Cx}{e:Expr}{te:TE}{lo hi:Option Expr}{tl th:TO}{pos p2:Pos}
end
def Nz(n:Nat)(i:Int):Option Nat:=if 0<=i then(if i<n then some i.toNat else none)else if-(n:Int)<=i then some (i+n).toNat else none
def xV{α:Type}(xs:List α)(i:Int):Option α:=(Nz xs.length i).bind λj=>xs[j]?
theorem Fe{n:Nat}{i:Int}{j:Nat}(h:Nz n i=some j):seqIndex? i n=some j/\j<n/\ -(n:Int)<=i/\i<n:=by
 unfold Nz at h
 by_cases h0:0<=i
 ·rw[if_pos h0]at h
  by_cases h1:i<n
  ·rw[if_pos h1]at h
   have e:i.toNat=j:=Option.some.inj h
   exact⟨by rw[seqIndex_of h0 h1,e],by omega,by omega,h1⟩
  ·rw[if_neg h1]at h;cases h
 ·rw[if_neg h0]at h
  by_cases h1: -(n:Int)<=i
  ·rw[if_pos h1]at h
   have e:(i+n).toNat=j:=Option.some.inj h
   exact⟨by rw[seqIndex_neg (by omega) h1,e],by omega,h1,by omega⟩
  ·rw[if_neg h1]at h;cases h
theorem Ff{α:Type}{xs:List α}{i:Int}{v:α}(h:xV xs i=some v):∃j,seqIndex? i xs.length=some j/\xs[j]?=some v/\j<xs.length/\ -(xs.length:Int)<=i/\i<xs.length:=by
 unfold xV at h
 cases e:Nz xs.length i with
 |none=>rw[e]at h;cases h
 |some j=>
  rw[e]at h
  obtain⟨h1,h2,h3,h4⟩:=Fe e
  exact⟨j,h1,h,h2,h3,h4⟩
theorem zO{α:Type}{xs:List α}{j:Nat}{v:α}(h:xs[j]?=some v):xV xs (j:Int)=some v:=by
 have hj:j<xs.length:=(List.getElem?_eq_some_iff.mp h).1
 have e:Nz xs.length (j:Int)=some j:=by
  unfold Nz
  rw[if_pos (by omega),if_pos (by omega)];simp
 unfold xV;rw[e];exact h
def NB(b:Expr):Prop:=∀o i,subscripted b false o i=operate [o,i] (getItem o i)
def Wl(X:Cx)(r:R2):Prop:=
 ∀(value slice:Expr) (pins:List (Addr×Obj)) (s:Shared) (σ:St) (H:Hp) (x y:V) (v u:Value) (Q:VK),Inv X pins σ H s->RelV x v->RelV y u->r x y H Q->
  subscripted slice false v u=operate [v,u] (getItem v u) ->wpAny (model X.prog X.w) X.A (subscriptTail value slice v u) (EP X pins σ Q) X.xe s
def Ym(X:Cx)(id:String)(r:V->List V->Hp->VK->Prop):Prop:=
 ∀(pins:List (Addr×Obj)) (s:Shared) (σ:St) (H:Hp) (x:V) (xs:List V) (v:Value) (us:List Value) (Q:VK),Inv X pins σ H s->RelV x v->Vals xs us->r x xs H Q->
  wpAny (model X.prog X.w) X.A (call (.builtin id) (v::us)) (EP X pins σ Q) X.xe s
section
variable{X:Cx}{a b:Expr}{ta tb:TE}{pos:Pos}
theorem aE{r:R2}(hr:Wl X r)(ha:PE X a ta)(hb:PE X b tb)(hs:NB b):PE X (.Subscript a b pos) (c7 r ta tb):=by
 intro pins s σ H Q I h
 exact Subscript_ (QH ha hb I h λv u s2 x y H2 I2 rx ry q=>hr a b pins s2 σ H2 x y v u Q I2 rx ry q (hs _ _))
def eT(K:PySem.W.Frag):R2:=λx y H Q=> ∃p xs i v,x= .ref p/\y= .int i/\aN K H p xs/\xV xs i=some v/\Q v H
def Wm(K:PySem.W.Frag):R2:=λx y H Q=> ∃p xs i v,x= .ref p/\y= .int i/\p6 K H p xs/\xV xs i=some v/\Q v H
theorem aq:Wl X (eT X.K):=by
 intro value slice pins s σ H x y v u Q I rx ry h hs
 obtain⟨p,xs,i,z,rfl,rfl,hq,he,q⟩:=h
 cases rx
 obtain⟨t,rfl⟩:=ry
 obtain⟨its,r,pl,hz⟩:=I.list hq
 obtain⟨j,h1,h2,h3,h4,h5⟩:=Ff he
 obtain⟨w,ew,rw'⟩:=r.get h2
 have hl:=r.length
 have hn:=sF
 have fin:EP X pins σ Q w s:=⟨z,H,I,rw',q⟩
 by_cases h0:0<=i
 ·have hj:i.toNat=j:=by
   rw[seqIndex_of h0 h5]at h1
   exact Option.some.inj h1
  exact item_listR pl.isList h0 (by omega) (by rw[hj];simpa using ew) fin hs
 ·have hj:(i+(its.toArray.size:Int)).toNat=j:=by
   rw[seqIndex_neg (by omega) h4]at h1
   rw[List.size_toArray,<-hl]
   exact Option.some.inj h1
  exact subscriptTail_builtinR (x:=w) pl.isList.typeIs slot_list_getitem.lookup
   (wpAny_getItem_list_neg (Q:=λr s'=>r=w/\EP X pins σ Q r s') pl.isList (by omega) (by rw[List.size_toArray]<;>omega) (by omega) (by rw[hj];simpa using ew) ⟨rfl,fin⟩) hs
theorem Dd:Wl X (Wm X.K):=by
 intro value slice pins s σ H x y v u Q I rx ry h hs
 obtain⟨p,xs,i,z,rfl,rfl,hq,he,q⟩:=h
 cases rx
 obtain⟨t,rfl⟩:=ry
 obtain⟨its,r,pl,hz⟩:=I.tuple hq
 obtain⟨j,h1,h2,h3,h4,h5⟩:=Ff he
 obtain⟨w,ew,rw'⟩:=r.get h2
 have hl:=r.length
 have hn:=sF
 have fin:EP X pins σ Q w s:=⟨z,H,I,rw',q⟩
 exact subscriptTail_builtinR (x:=w) pl.typeIs slot_tuple_getitem.lookup
  (getItem_tuple (j:=j) (Q:=λr s'=>r=w/\EP X pins σ Q r s') pl (by omega) (by omega) (by rw[List.size_toArray,<-hl];exact h1) (by simpa using ew) ⟨rfl,fin⟩) hs
theorem De(its:List Value)(n j:Nat)(u:Value):Obj.mapSeq (·.setIfInBounds j u) {cls:= .type "list",data:= .seq its.toArray n}={cls:= .type "list",data:= .seq (its.set j u).toArray n}:=by
 simp[Obj.mapSeq]
theorem Inv.lst{pins:List (Addr×Obj)}{σ:St}{H:Hp}{s:Shared}{p:Addr}{xs:List V}(I:Inv X pins σ H s)(h:H p=some (.lst xs)):
  ∃(its:List Value) (n:Nat),Vals xs its/\s.heap.get? p=some {cls:= .type "list",data:= .seq its.toArray n}/\xs.length<=sizeLine:=by
 obtain⟨z,its,n,r,e⟩:=I.hok p _ h
 exact⟨its,n,r,e,z⟩
theorem Inv.QO{pins:List (Addr×Obj)}{σ:St}{H:Hp}{s:Shared}{p:Addr}{xs ys:List V}{its its':List Value}{n n':Nat}{f:Obj->Obj}(I:Inv X pins σ H s)(h:H p=some (.lst xs))
  (ho:s.heap.get? p=some {cls:= .type "list",data:= .seq its.toArray n})(hf:f {cls:= .type "list",data:= .seq its.toArray n}={cls:= .type "list",data:= .seq its'.toArray n'})(r:Vals ys its')(hz:ys.length<=sizeLine)(t:Nat):
  Inv X pins σ (upd H p (.lst ys)) {s with heap:=s.heap.update p f,toks:=t}:=by
 have e:(s.heap.update p f).get? p=some {cls:= .type "list",data:= .seq its'.toArray n'}:=by
  rw[Heap.get?_update_self f ho (by rw[hf]<;>rfl),hf]
 refine I.write (x:=p) (e:=p) (by rw[h];trivial) (.inl rfl) (λb u hb q=>(Heap.get?_update_other _ _ (Ne.symm hb)).trans q) ⟨_,e⟩ ?_
 exact⟨hz,its',n',r,e⟩
def TJ:V->V->V->Hp->(Hp->Prop) ->Prop:=λo i v H Q=> ∃p xs k j,o= .ref p/\i= .int k/\H p=some (.lst xs)/\Nz xs.length k=some j/\Q (upd H p (.lst (xs.set j v)))
theorem set_list:QC X TJ:=by
 intro pins s σ H o i v ov iv u Q I ro ri rv h
 obtain⟨p,xs,k,j,rfl,rfl,hp,hj,q⟩:=h
 cases ro
 obtain⟨t,rfl⟩:=ri
 obtain⟨its,n,r,ho,hz⟩:=I.lst hp
 obtain⟨h1,h2,h3,h4⟩:=Fe hj
 have hl:=r.length
 have hn:=sF
 have I':Inv X pins σ (upd H p (.lst (xs.set j v))) {s with heap:=s.heap.update p (Obj.mapSeq (·.setIfInBounds j u))}:=
  I.QO hp ho (De its n j u) (r.set rv j) (by rw[List.length_set];exact hz) s.toks
 by_cases h0:0<=k
 ·have hk:k.toNat=j:=by
   rw[seqIndex_of h0 h4]at h1
   exact Option.some.inj h1
  exact PySem.W.ki_setAt ho h0 (by omega) (by rw[List.size_toArray,<-hl];exact h4) (by rw[hk];exact⟨_,I',q⟩)
 ·have hk:(k+(its.toArray.size:Int)).toNat=j:=by
   rw[seqIndex_neg (by omega) h3]at h1
   rw[List.size_toArray,<-hl]
   exact Option.some.inj h1
  exact PySem.W.ki_setBack ho (by omega) (by rw[List.size_toArray,<-hl];exact h3) (by omega) (by rw[hk];exact⟨_,I',q⟩)
def qt:V->Bool
 | .gu=>true
 | .bl _=>true
 | .int _=>true
 | .str _=>true
 |_=>false
def JE:V->V->Bool
 | .gu,.gu=>true
 | .bl a,.bl b=>a==b
 | .bl a,.int b=>(if a then 1 else 0)==b
 | .int a,.bl b=>a==(if b then 1 else 0)
 | .int a,.int b=>a==b
 | .str a,.str b=>a==b
 |_,_=>false
theorem QS{A:Around}{s:Shared}{y x:V}{u v:Value}(ry:RelV y u)(rx:RelV x v)(fy:qt y=true)(fx:qt x=true):SeqAt.EqAt A s u v (JE y x):=by
 cases y with
 |gu=>
  cases ry
  cases x with
  |gu=>cases rx;exact SeqAt.EqAt.same _
  |bl b=>cases rx;exact SeqAt.EqAt.none_bool b
  |int b=>obtain⟨t,rfl⟩:=rx;exact SeqAt.EqAt.none_int b t
  |str b=>obtain⟨t,rfl⟩:=rx;exact SeqAt.EqAt.none_str b t
  |_=>exact absurd (show false=true from fx) Bool.false_ne_true
 |bl a=>
  cases ry
  cases x with
  |gu=>cases rx;exact SeqAt.EqAt.bool_none a
  |bl b=>cases rx;exact SeqAt.EqAt.bool_bool a b
  |int b=>obtain⟨t,rfl⟩:=rx;exact SeqAt.EqAt.bool_int a b t
  |str b=>obtain⟨t,rfl⟩:=rx;exact SeqAt.EqAt.bool_str a b t
  |_=>exact absurd (show false=true from fx) Bool.false_ne_true
 |int a=>
  obtain⟨t',rfl⟩:=ry
  cases x with
  |gu=>cases rx;exact SeqAt.EqAt.int_none a t'
  |bl b=>cases rx;exact SeqAt.EqAt.int_bool a t' b
  |int b=>obtain⟨t,rfl⟩:=rx;exact SeqAt.EqAt.int_int a t' b t
  |str b=>obtain⟨t,rfl⟩:=rx;exact SeqAt.EqAt.int_str a t' b t
  |_=>exact absurd (show false=true from fx) Bool.false_ne_true
 |str a=>
  obtain⟨t',rfl⟩:=ry
  cases x with
  |gu=>cases rx;exact SeqAt.EqAt.str_none a t'
  |bl b=>cases rx;exact SeqAt.EqAt.str_bool a t' b
  |int b=>obtain⟨t,rfl⟩:=rx;exact SeqAt.EqAt.str_int a t' b t
  |str b=>obtain⟨t,rfl⟩:=rx;exact SeqAt.EqAt.str_str a t' b t
  |_=>exact absurd (show false=true from fx) Bool.false_ne_true
 |_=>exact absurd (show false=true from fy) Bool.false_ne_true
def GF(x:V)(u:Value):Bool:=match u with
 | .none=>JE .gu x
 | .bool b=>JE (.bl b) x
 | .int i _=>JE (.int i) x
 | .str z _=>JE (.str z) x
 |_=>false
theorem Df{x y:V}{u:Value}(r:RelV y u)(f:qt y=true):GF x u=JE y x:=by
 cases y with
 |gu=>cases r;rfl
 |bl b=>cases r;rfl
 |int i=>obtain⟨t,rfl⟩:=r;rfl
 |str z=>obtain⟨t,rfl⟩:=r;rfl
 |_=>exact absurd (show false=true from f) Bool.false_ne_true
theorem zP{x:V}:∀{xs:List V} {us:List Value},Vals xs us->xs.all qt=true->us.any (GF x)=xs.any λy=>JE y x
 |_,_,.nil,_=>rfl
 |y::xs,u::us,.cons r t,f=>by
  rw[List.all_cons,Bool.and_eq_true]at f
  rw[List.any_cons,List.any_cons,Df r f.1,zP t f.2]
theorem rC{A:Around}{s:Shared}{x:V}{v:Value}(rx:RelV x v)(fx:qt x=true):∀{xs:List V} {us:List Value},Vals xs us->xs.all qt=true-> ∀u∈us,SeqAt.EqAt A s u v (GF x u)
 |_,_,.nil,_=>λu hu=>by cases hu
 |y::xs,u::us,.cons r t,f=>λu' hu=>by
  rw[List.all_cons,Bool.and_eq_true]at f
  rcases List.mem_cons.mp hu with rfl|hu
  ·rw[Df r f.1];exact QS r rx f.1 fx
  ·exact rC rx fx t f.2 u' hu
def Wn(x:V)(xs:List V):Bool:=xs.any λy=>JE y x
def ZA(K:PySem.W.Frag)(neg:Bool):R2:=λx y H Q=> ∃p xs,y= .ref p/\(aN K H p xs∨p6 K H p xs)/\qt x=true/\xs.all qt=true/\Q (.bl (if neg then !Wn x xs else Wn x xs)) H
theorem GG:sr X (compareOp .In) (ZA X.K false):=by
 intro pins s σ H x y v u Q I rx ry h
 obtain⟨p,xs,rfl,hq,fx,fs,q⟩:=h
 cases ry
 rcases hq with hq|hq
 ·obtain⟨its,r,pl,hz⟩:=I.list hq
  refine SeqAt.in_listAt (GF x) pl.isList (λw hw=>rC rx fx r fs w (by simpa using hw)) ⟨.bl _,H,I,rfl,?_⟩
  rw[show its.toArray.any (GF x)=its.any (GF x)by simp,zP r fs]
  exact q
 ·obtain⟨its,r,pl,hz⟩:=I.tuple hq
  refine SeqAt.in_tupleAt (GF x) pl (λw hw=>rC rx fx r fs w (by simpa using hw)) ⟨.bl _,H,I,rfl,?_⟩
  rw[show its.toArray.any (GF x)=its.any (GF x)by simp,zP r fs]
  exact q
theorem dX:oQ X (.builtin "len") (λxs H Q=> ∃p ys,xs=[.ref p]/\(aN X.K H p ys∨p6 X.K H p ys)/\Q (.int ys.length) H):=by
 intro pins s σ H xs us Q I r h
 obtain⟨p,ys,rfl,hq,q⟩:=h
 obtain⟨u,rfl,rx⟩:=vals1 r
 cases rx
 have hn:=sF
 rcases hq with hq|hq
 ·obtain⟨its,r',pl,hz⟩:=I.list hq
  have hlen:=r'.length
  exact Calls.call_len_list pl.isList (by simp only[List.size_toArray]<;>omega) ⟨.int ys.length,H,I.tok _,⟨s.toks+1,by rw[List.size_toArray,hlen]⟩,q⟩
 ·obtain⟨its,r',pl,hz⟩:=I.tuple hq
  have hlen:=r'.length
  exact len_tuple pl (by simp only[List.size_toArray]<;>omega) ⟨.int ys.length,H,I.tok _,⟨s.toks+1,by rw[List.size_toArray,hlen]⟩,q⟩
theorem kh:oQ X (.type "list") (λxs H Q=> ∃p ys,xs=[.ref p]/\(aN X.K H p ys∨p6 X.K H p ys)/\ ∀l,H l=none->Q (.ref l) (upd H l (.lst ys))):=by
 intro pins s σ H xs us Q I r h
 obtain⟨p,ys,rfl,hq,q⟩:=h
 obtain⟨u,rfl,rx⟩:=vals1 r
 cases rx
 have fin:∀(its:List Value),Vals ys its->ys.length<=sizeLine-> ∀(h':Heap) (c':Nat),(∀b o',s.heap.get? b=some o'->h'.get? b=some o') ->
   h'.get? s.heap.objs.size=some {cls:= .type "list",dict:=none,data:= .seq its.toArray c',slots:= #[]} ->EP X pins σ Q (.ref s.heap.objs.size) {s with heap:=h'}:=λits r' hz h' c' kp e=>
  ⟨.ref s.heap.objs.size,_,I.laid (t':=s.toks) kp (Nat.le_refl _) (show gb X.prog X.w _ h' _ (.lst ys)from⟨hz,its,c',r',e⟩),rfl,q _ (I.hok.fresh (Nat.le_refl _))⟩
 rcases hq with hq|hq
 ·obtain⟨its,r',pl,hz⟩:=I.list hq
  have hlen:=r'.length
  obtain⟨o,ho,hc,n,hd⟩:=pl.isList
  exact call_list_seq p (.inl rfl) ho hc hd (λh' c' kp e=>fin its r' hz h' c' kp e) (by simp only[List.size_toArray]<;>omega)
 ·obtain⟨its,r',pl,hz⟩:=I.tuple hq
  have hlen:=r'.length
  obtain⟨o,ho,hc,n,hd⟩:=pl
  exact call_list_seq p (.inr rfl) ho hc hd (λh' c' kp e=>fin its r' hz h' c' kp e) (by simp only[List.size_toArray]<;>omega)
def Wo(K:PySem.W.Frag)(T:String)(x:V)(H:Hp):Prop:=match x with
 | .str _=>T= "str"
 | .int _=>T= "int"
 | .ref p=>(T= "list"/\ ∃xs,aN K H p xs)∨(T= "tuple"/\ ∃o,K.lookup p=some o/\o.cls= .type "tuple"/\o.dict=none)∨
   (T= "dict"/\((∃kvs,H p=some (.dK kvs))∨ ∃kvs,H p=some (.dT kvs)))∨(T= "set"/\ ∃S n,H p=some (.set S n))
 |_=>False
theorem JF{pins:List (Addr×Obj)}{σ:St}{H:Hp}{s:Shared}{T:String}{x:V}{v:Value}(I:Inv X pins σ H s)(r:RelV x v)(ty:Wo X.K T x H):
  s.TypeIs v T/\ ∀a,v= .ref a-> ∃ob,s.heap.get? a=some ob/\ob.dict=none:=by
 cases x with
 |str z=>
  obtain⟨t,rfl⟩:=r
  cases(show T= "str" from ty)
  exact⟨typeIs_str s z t,λ_ e=>nomatch e⟩
 |int i=>
  obtain⟨t,rfl⟩:=r
  cases(show T= "int" from ty)
  exact⟨typeIs_int s i t,λ_ e=>nomatch e⟩
 |ref p=>
  cases r
  rcases ty with⟨rfl,xs,hq⟩|⟨rfl,o,hk,hc,hd⟩|⟨rfl,hk⟩|⟨rfl,S,n,hk⟩
  ·obtain⟨its,_,pl,_⟩:=I.list hq
   refine⟨pl.isList.typeIs,λa e=> ?_⟩
   cases e
   obtain⟨o,n,e,c,hd,_⟩:=pl
   exact⟨o,e,hd⟩
  ·refine⟨⟨o,I.zK p o hk,hc⟩,λa e=> ?_⟩
   cases e
   exact⟨o,I.zK _ o hk,hd⟩
  ·have z:∃o,s.heap.get? p=some o/\o.ExactDict:=by
    rcases hk with⟨kvs,hk⟩|⟨kvs,hk⟩
    ·obtain⟨_,_,_,_,o,_,_,e,ex,_⟩:=I.hok p _ hk
     exact⟨o,e,ex⟩
    ·obtain⟨_,_,_,_,o,_,_,e,ex,_⟩:=I.hok p _ hk
     exact⟨o,e,ex⟩
   obtain⟨o,e,ex⟩:=z
   refine⟨⟨o,e,ex.1⟩,λa e2=> ?_⟩
   cases e2
   exact⟨o,e,ex.2.1⟩
  ·obtain⟨o,_,_,_,e,ex,_⟩:=I.hok p _ hk
   refine⟨⟨o,e,ex.1⟩,λa e2=> ?_⟩
   cases e2
   exact⟨o,e,ex.2.1⟩
 |_=>exact False.elim ty
def Wq(K:PySem.W.Frag)(T:String)(r:V->List V->Hp->VK->Prop)(to:TE):TE:=λσ H Q=>to σ H λx H1=>Wo K T x H1/\r x [] H1 Q
def ZC(K:PySem.W.Frag)(T:String)(r:V->List V->Hp->VK->Prop)(to:TE)(t:TA):TE:=λσ H Q=>to σ H λx H1=>Wo K T x H1/\t σ H1 λxs H2=>r x xs H2 Q
variable{o e:Expr}{es:List Expr}{to:TE}{t:TA}{name:Str}{apos cpos:Pos}{T id:String}{r:V->List V->Hp->VK->Prop}
theorem QT(pa:PlainAttrs T)(slot:Slot T name id)(hty:typeOf (.builtin id)=pure (.type "method_descriptor"))(hm:Ym X id r)(ho:PE X o to)
  (hbase:attributeBase o name X.env (eval o X.env)=eval o X.env:=by rfl)(hline:(apos.endLine==cpos.line)=true:=by rfl):PE X (.Call (.Attribute o name apos) [] [] cpos) (Wq X.K T r to):=by
 intro pins s σ H Q I h
 refine wpAny_Call_method0_late hbase hline (fZ (ho pins s σ H _ I h) λv s1 ⟨x,H1,I1,r1,ty,q1⟩=> ?_)
 obtain⟨h1,h2⟩:=JF I1 r1 ty
 exact⟨T,id,pa,slot,hty,h1,h2,Calls.callWith_builtin rfl (PySem.evalArgs_none (hm pins s1 σ H1 x [] v [] Q I1 r1 .nil q1))⟩
theorem uy(pa:PlainAttrs T)(slot:Slot T name id)(hty:typeOf (.builtin id)=pure (.type "method_descriptor"))(hm:Ym X id r)(ho:PE X o to)(ha:PA X (e::es) t)
  (hbase:attributeBase o name X.env (eval o X.env)=eval o X.env:=by rfl)
  (hfew:((backTo cpos (starEach (e::es) X.env)).all (λx=> !x.1) && (backToKw cpos (keywordEach [] X.env)).all (λx=>x.1.isSome)
   && decide ((e::es).length+([]:List Keyword).length+(if([]:List Keyword).isEmpty then 0 else 1)<30))=true:=by rfl)
  (hline:(apos.endLine==cpos.line)=true:=by rfl)(hs:starEach (e::es) X.env=(false,eval e X.env)::starEach es X.env:=by rfl)(hplain:(backTo cpos (starEach es X.env)).any (·.1)=false:=by rfl):
  PE X (.Call (.Attribute o name apos) (e::es) [] cpos) (ZC X.K T r to t):=by
 intro pins s σ H Q I h
 refine wpAny_Call_method_late hbase hfew hline rfl (fZ (ho pins s σ H _ I h) λv s1 ⟨x,H1,I1,r1,ty,q1⟩=> ?_)
 obtain⟨h1,h2⟩:=JF I1 r1 ty
 refine⟨T,id,pa,slot,hty,h1,h2,?_⟩
 have hA:=ha cpos pins s1 σ H1 _ I1 q1
 rw[hs]at hA ⊢
 refine Calls.callWith_builtin (by show(false||(backTo cpos (starEach es X.env)).any (·.1))=false;rw[hplain]<;>rfl) (Calls.evalArgs_plain ?_)
 exact fZ hA λus s2 ⟨vs,H2,I2,r2,q2⟩=>hm pins s2 σ H2 x vs v us Q I2 r1 r2 q2
end
def Wr(X:Cx)(id:String)(r:V->List V->Hp->VK->Prop):Prop:=
 ∀(pins:List (Addr×Obj)) (s:Shared) (σ:St) (H:Hp) (x:V) (xs:List V) (v:Value) (us:List Value) (Q:VK),Inv X pins σ H s->RelV x v->Vals xs us->r x xs H Q->
  wpAny (model X.prog X.w) X.A (call (.builtin id) (v::us)) (EP X pins σ Q) X.xe s
theorem Vals.one:∀{x:V} {us:List Value},Vals [x] us-> ∃u,us=[u]/\RelV x u
 |_,_,.cons r .nil=>⟨_,rfl,r⟩
theorem Vals.zero:∀{us:List Value},Vals [] us->us=[]
 |_,.nil=>rfl
theorem Vals.reverse{xs:List V}{us:List Value}(h:Vals xs us):Vals xs.reverse us.reverse:=by
 induction h with
 |nil=>exact .nil
 |cons r t ih=>rw[List.reverse_cons,List.reverse_cons];exact Vals.append ih (.cons r .nil)
section
variable{X:Cx}{pins:List (Addr×Obj)}{σ:St}{H:Hp}{s:Shared}{l b:Addr}{xs ys zs:List V}
theorem Inv.TM{its its':List Value}{n:Nat}{f:Array Value->Array Value}{t':Nat}(I:Inv X pins σ H s)(hH:H l=some (.lst xs))
  (e:s.heap.get? l=some {cls:= .type "list",data:= .seq its.toArray n})(hf:f its.toArray=its'.toArray)(hv:Vals ys its')(hz:ys.length<=sizeLine):
  Inv X pins σ (upd H l (.lst ys)) {s with heap:=s.heap.update l (Obj.mapSeq f),toks:=t'}:=by
 have q:=PySem.IsL.update e f
 rw[hf]at q
 refine I.write (x:=l) (e:=l) (by rw[hH];exact trivial) (.inl rfl) (λb' u hb hu=>(Heap.get?_update_other s.heap (Obj.mapSeq f) (Ne.symm hb)).trans hu) ⟨_,q⟩ ?_
 exact⟨hz,its',_,hv,q⟩
theorem Inv.Ws{its:List Value}{t':Nat}(I:Inv X pins σ H s)(hv:Vals ys its)(hz:ys.length<=sizeLine):
  Inv X pins σ (upd H s.heap.objs.size (.lst ys)) {s with heap:=s.heap.push {cls:= .type "list",data:= .seq its.toArray},toks:=t'}:=
 I.laid (λ_ _ q=>Heap.get?_push_of_some _ q) (Nat.le_refl _) ⟨hz,its,0,hv,Heap.get?_push_size _ rfl⟩
theorem Inv.fresh(I:Inv X pins σ H s):H s.heap.objs.size=none:=I.hok.fresh (Nat.le_refl _)
theorem Inv.NC(I:Inv X pins σ H s)(hH:H l=some (.lst xs)):xs.length<=sizeLine/\ ∃(its:List Value) (n:Nat),Vals xs its/\xs.length=its.length/\s.heap.get? l=some {cls:= .type "list",data:= .seq its.toArray n}:=by
 obtain⟨z,its,n,r,e⟩:=I.hok l _ hH
 exact⟨z,its,n,r,r.length,e⟩
end
section
variable{X:Cx}
def ND:V->List V->Hp->VK->Prop:=λx vs H Q=> ∃l xs y,x= .ref l/\vs=[y]/\H l=some (.lst xs)/\xs.length<sizeLine/\Q .gu (upd H l (.lst (xs++ [y])))
theorem gO:Wr X "list.append" ND:=by
 intro pins s σ H x vs v us Q I rx rv h
 obtain⟨l,xs,y,rfl,rfl,hH,hz,q⟩:=h
 cases rx
 obtain⟨u,rfl,ru⟩:=rv.one
 obtain⟨z,its,n,r,hl,e⟩:=I.NC hH
 refine call_meets F.slot_list_append ⟨_,e,rfl⟩ F.entry_list_append (F.args_list_append_2 _ _) (PySem.list_append l its.toArray n u (by rw[List.size_toArray];omega)) ⟨e,?_⟩
 refine⟨.gu,_,I.TM (its':=its++ [u]) hH e (by simp) (r.append (.cons ru .nil)) ?_,rfl,q⟩
 rw[List.length_append,List.length_singleton]
 omega
def QU:V->List V->Hp->VK->Prop:=λx vs H Q=> ∃l xs,x= .ref l/\vs=[]/\H l=some (.lst xs)/\Q .gu (upd H l (.lst []))
theorem JG:Wr X "list.clear" QU:=by
 intro pins s σ H x vs v us Q I rx rv h
 obtain⟨l,xs,rfl,rfl,hH,q⟩:=h
 cases rx
 have ZD:=rv.zero
 subst ZD
 obtain⟨z,its,n,r,hl,e⟩:=I.NC hH
 refine call_meets F.slot_list_clear ⟨_,e,rfl⟩ F.entry_list_clear (F.args_list_clear_1 _) (AutoSeq1.list_clear_list_0 l its.toArray n (by rw[List.size_toArray];omega)) ⟨e,?_⟩
 exact⟨.gu,_,I.TM (its':=[]) (ys:=[]) hH e rfl .nil (Nat.zero_le _),rfl,q⟩
def Wt:R2:=λx y H Q=> ∃l b xs zs,x= .ref l/\y= .ref b/\H l=some (.lst xs)/\H b=some (.lst zs)/\xs.length+zs.length<=sizeLine/\ ∀p,H p=none->Q (.ref p) (upd H p (.lst (xs++zs)))
theorem JH:sr X (binaryOp .Add) Wt:=by
 intro pins s σ H x y v u Q I rx ry h
 obtain⟨l,b,xs,zs,rfl,rfl,hH,hB,hz,q⟩:=h
 cases rx
 cases ry
 obtain⟨z,its,n,r,hl,e⟩:=I.NC hH
 obtain⟨z2,its2,n2,r2,hl2,e2⟩:=I.NC hB
 refine PySem.P.add_list e e2 ?_ (by rw[List.size_toArray,List.size_toArray];omega)
 have ea:its.toArray++its2.toArray=(its++its2).toArray:=by simp
 rw[ea]
 exact⟨.ref _,_,I.Ws (t':=s.toks) (r.append r2) (by rw[List.length_append];omega),rfl,q _ I.fresh⟩
end
section
variable{prog:Program}{w:World}{A:Around}{E:Value->Shared->Prop}{s:Shared}
end
section
variable{X:Cx}
end
end L2
namespace Yn
open PySem PySem.W PySem.Calls PyProof.Rows
theorem uN{P:Params}{h:Heap}:∀(ns:List Int) (vs:List Value),WellAll P h vs (ns.map WData.int) ->IntsAre vs ns:=by
 intro ns
 induction ns with
 |nil=>
  intro vs w
  rw[List.map_nil]at w
  cases w
  exact .nil
 |cons n ns ih=>
  intro vs w
  rw[List.map_cons]at w
  cases w with
  |cons a b=>
   cases a
   exact .cons _ _ (ih _ b)
theorem GH{l:OpenLaw}{n:Nat}(hn:l.most=some n){P:Params}{h:Heap}{args:List WData}{vals:List Value}
  (hpre:l.row.toRowW.claim.pre args=true)(hwl:WellAll P h vals args):
  ∃a vs ns,vals=[Value.ref a]/\args=[WData.list (ns.map WData.int)]/\h.get? a=some {cls:= .type "list",data:= .seq vs.toArray}/\IntsAre vs ns/\ns.length<=n:=by
 have hsh:WShape.hasAll [] args [.list .int]=true:=(pre_splitW hpre).1
 have hc:l.pre.holds [] {args:=args}=true:=(pre_splitW hpre).2
 obtain⟨d,r,rfl,h1,h2⟩:=hasAllW_cons hsh
 obtain rfl:=hasAllW_nil h2
 obtain⟨xs,rfl,h3⟩:=hasW_list h1
 obtain⟨ns,rfl⟩:=items_int h3
 have hlen:ns.length<=n:=by
  unfold OpenLaw.pre at hc
  have h4:(WTm.not (.lt (.lit (.int (n:Int))) (.len (.arg 0)))).holds [] {args:=[.list (ns.map .int)]}=true:=by
   have h4:=(holds_andW hc).1
   rw[hn]at h4
   exact h4
  have h5:=condW_of h4 (w_not (w_lt w_lit (w_len_list (w_arg rfl))))
  rw[List.length_map]at h5
  refine Nat.le_of_not_lt λq=> ?_
  have q':(n:Int)<((ns.length:Nat):Int):=by omega
  first
   |(rw[decide_eq_true q']at h5;exact absurd h5 (by decide))
   |(simp at h5;omega)
 cases hwl with
 |cons w1 w2=>
  cases w2
  cases w1 with
  |list ho hall=>exact⟨_,_,ns,rfl,rfl,ho,uN ns _ hall,hlen⟩
theorem GI(l:OpenLaw)(args:List WData):l.row.toRowW.claim.post args (.bool true) args=true:=
 postW_of (r:=l.row.toRowW) (X:=(true==true))
  (show WShape.has [] (.bool true) .bool=true by first|rfl|decide|simp[WShape.has,WShape.arms,WShape.armsAll])
  (show(WTm.eq .res (.lit (.bool true))).value [] {args:=args,res:=some (.bool true),after:=args}=some (.bool (true==true))from w_eq_bool (w_res rfl) w_lit) rfl
theorem Bj{l:OpenLaw}{n:Nat}{q:Program}{loose:List Str}{XP:(Str->Option Value) ->Heap->Prop}{YP:World->Heap->Prop}{d:DefRec}
  (hn:l.most=some n)(hdf:d.params.defaults=[])
  (call:∀(w:World) (s₀ s₁:Shared) (mg mb:Str->Option Value) (fa:Addr) (o:Obj) (pm cd doc:Value) (a:Addr) (vs:List Value) (ns:List Int),
   Ground q loose [] XP w s₀ mg mb s₁.heap->YP w s₁.heap->
   s₁.heap.get? fa=some o->o.data= .func (docDef d.name d.params d.body d.scope pm cd doc) ->s₁.heap.CodeRec cd d.name->mg d.name=some (.ref fa) ->
   s₁.heap.get? a=some {cls:= .type "list",data:= .seq vs.toArray} ->IntsAre vs ns->ns.length<=n->s₁.gens= #[] ->
   codeAny (model l.prog w) callerA (.call (.ref fa) ⟨[.ref a],[]⟩) (λr s'=>r= .ok (.ret (.bool true))/\OldK s₁.heap s'.heap/\s'.os=s₁.os/\AllBare s'.gens) s₁):
  WalkO q loose XP YP l.row.toRowW d [] (λf vs=>PySem.call f vs):=by
 intro w s₀ s₁ mg mb G Y fa o pm cd doc dV kV ho hd hcd hD hmg hg args vals as hpre hlay hrd hwl hlo
 obtain rfl:dV= .none:=Dflts.none hD hdf
 obtain rfl:kV= .none:=Dflts.noKw hD
 obtain⟨a,vs,ns,rfl,rfl,hobj,hints,hlen⟩:=GH hn hpre hwl
 refine enter_call (codeAny_mono (call w s₀ s₁ mg mb fa o pm cd doc a vs ns G Y ho (fd_plain hd) hcd hmg hobj hints hlen hg) λr s' hq=> ?_)
 obtain⟨rfl,h2,h3,h4⟩:=hq
 exact⟨.inl ⟨.bool true,.bool true,[],rfl,λ_=>rfl,.bool true,GI l _,λ_=>⟨List.Pairwise.nil,λ_ hm=>(nomatch hm)⟩⟩,h2,h3,h4⟩
section
variable{prog:Program}{w:World}{A:Around}{E:Value->Shared->Prop}{s:Shared}{K:Frag}
def ledger(h:Heap)(L d:Addr):List (Addr×Obj):=(List.range h.objs.size).filterMap λa=>if a=L∨a=d then none else(h.get? a).map λo=>(a,o)
end
end Yn
namespace L2
open PySem PySem.Spec PyProof.Rows
theorem yN:∀{vs:List Value} {ns:List Int},IntsAre vs ns->Vals (ns.map V.int) vs
 |_,_,.nil=> .nil
 |_,_,.cons n t h=> .cons ⟨t,rfl⟩ (yN h)
abbrev KOf {K:PySem.W.Frag} {h:Heap} (_:K.In h):PySem.W.Frag:=K
def ie(s:Stmt):Arguments:=match s with
 | .FunctionDef _ a _ _ _ _ _ _ _ _=>a
 |_=>{posonlyargs:=[],args:=[],vararg:=none,kwonlyargs:=[],kw_defaults:=[],kwarg:=none,defaults:=[]}
def fM(s:Stmt):List Stmt:=match s with
 | .FunctionDef _ _ b _ _ _ _ _ _ _=>b
 |_=>[]
def aB(s:Stmt):Scope:=match s with
 | .FunctionDef _ _ _ _ _ _ sc _ _ _=>sc
 |_=>{kind:= .function,names:=[],isGenerator:=false,isCoroutine:=false}
abbrev cj:GC:=λ_ _ _ _ _ _=>False
abbrev E0:XK:=λ_ _ _=>False
theorem aQ{X:Cx}:Passes cj X E0:=λ_ _ _ _ _ _ _ h=>h.elim
structure PM(K:PySem.W.Frag)(x qual:Str)(st:Stmt)(f:Addr)(fd:FuncData):Prop where
 ex:∃(oc:Value) (od:Option Addr) (kV doc pm:Value) (an:Option Addr) (cdv ct:Value) (osl:Array (Option Value)),
  fd=PySem.W.fnOf x qual (ie st) (fM st) (aB st) .none kV doc pm an cdv ct/\K.lookup f=some ⟨oc,od,.func fd,osl⟩/\PySem.W.codeIn K cdv qual=true
 kp:PySem.W.keepIn K (.ref f)=true
section
variable{P:Program}{w:World}{K:PySem.W.Frag}{mg:Str->Option Value}{base:Heap}
theorem PM.ok{x qual:Str}{st:Stmt}{f:Addr}{fd:FuncData}{N ps:List Str}{k:Nat}{sp:Sp}(F:PM K x qual st f fd)(S:aP N ps (aB st))(len:∀vs H Q E,sp vs H Q E->vs.length=ps.length)
  (hbody:∀(cdv:Value) (A:Around) (outer:List Env) (s:Shared) (H:Hp) (vs:List V) (Q:VK) (E:XK),gw k (A.deeper (envOfC qual (aB st) s.heap.objs.size f cdv)) ->sp vs H Q E->
   ∃t,zL (zN cj P w K mg base N qual (aB st) f cdv A outer s H E).Jf (fM st) t/\t {nx:=λ_ H'=>Q .gu H',rt:=Q} (start N vs) H):rB P w K mg base cj (k+1) f fd ps sp:=by
 obtain⟨oc,od,kV,doc,pm,an,cdv,ct,osl,rfl,lk,hcd⟩:=F.ex
 refine PL lk hcd S len λA outer s H vs Q E hr Ng=> ?_
 obtain⟨t,h,q⟩:=hbody cdv A outer s H vs Q E hr Ng
 exact⟨t,h.Jf,q⟩
theorem PM.binds{x qual:Str}{st:Stmt}{f:Addr}{fd:FuncData}{ps:List Str}(F:PM K x qual st f fd)
  (h:∀(kV doc pm:Value) (an:Option Addr) (cdv ct:Value) (us:List Value),us.length=ps.length->bindArgs (PySem.W.fnOf x qual (ie st) (fM st) (aB st) .none kV doc pm an cdv ct) ⟨us,[]⟩=pure (ps.zip us)):Binds K fd ps []:=by
 obtain⟨oc,od,kV,doc,pm,an,cdv,ct,osl,rfl,lk,hcd⟩:=F.ex
 exact .all (h kV doc pm an cdv ct)
theorem JI{x qual:Str}{st:Stmt}{f:Addr}{oc:Value}{od an:Option Addr}{osl:Array (Option Value)}{kV doc pm cdv ct:Value}(l:K.lookup f=some ⟨oc,od,.func (PySem.W.fnOf x qual (ie st) (fM st) (aB st) .none kV doc pm an cdv ct),osl⟩)
  (c:PySem.W.codeIn K cdv qual=true)(k:PySem.W.keepIn K (.ref f)=true):PM K x qual st f (PySem.W.fnOf x qual (ie st) (fM st) (aB st) .none kV doc pm an cdv ct):=⟨⟨oc,od,kV,doc,pm,an,cdv,ct,osl,rfl,l,c⟩,k⟩
end
theorem iY{n:Nat}(h:n<=1000):n<sizeLine:=Nat.lt_of_le_of_lt h (by decide)
section
variable{X:Cx}
theorem pv(i:Nat){x:Str}{pos:Pos}(hN:X.N[i]?=some x:=by rfl)(hv:Py X.env.scope x:=by first|exact Or.inl rfl|exact Or.inr (Or.inl rfl)|exact Or.inr (Or.inr rfl))(hd:(x==("__debug__":Str))=false:=by decide)
  (hcd:(x==("__classdict__":Str))=false:=by decide):PE X (.Name x pos) (aD i):=Qx hN hv hd hcd
end
theorem jv{A B:Prop}(h:B):if false=true then A else B:=by
 rw[if_neg Bool.false_ne_true]
 exact h
theorem xW{A B:Prop}(h:A):if true=true then A else B:=by
 rw[if_pos rfl]
 exact h
theorem oS{c A B:Prop} [Decidable c](h1:c->A)(h2:¬c->B):if c then A else B:=by
 by_cases h:c
 ·rw[if_pos h]
  exact h1 h
 ·rw[if_neg h]
  exact h2 h
theorem yO{c A B:Prop} [Decidable c](hc:c)(h:B):if(!decide c)=true then A else B:=by
 rw[decide_eq_true hc]
 exact jv h
def au(H H':Hp):Prop:=∀b o,H b=some o->H' b=some o
theorem au.refl(H:Hp):au H H:=λ_ _ h=>h
theorem au.trans{H H1 H2:Hp}(a:au H H1)(b:au H1 H2):au H H2:=λc o h=>b c o (a c o h)
theorem au.free{H H':Hp}(e:au H H'){l:Addr}(h:H' l=Option.none):H l=Option.none:=by
 cases q:H l with
 |none=>rfl
 |some o=>
  rw[e l o q]at h
  cases h
theorem au.seq{K:PySem.W.Frag}{H H':Hp}{a:Addr}{xs:List V}(e:au H H')(h:aN K H a xs):aN K H' a xs:=by
 rcases h with(h|⟨o,h⟩)|h
 ·exact .inl (.inl (e _ _ h))
 ·exact .inl (.inr ⟨o,e _ _ h⟩)
 ·exact .inr h
def b8(env:Env):List (Str×NameKind) ->List (Str×Addr) ->List (Str×Addr)
 | [],acc=>acc
 |(n,k)::r,acc=>if k== .free then b8 env r ((n,(env.cells.lookup n).getD 0)::acc)else b8 env r acc
theorem qB{env:Env}(f:Str×NameKind->List (Str×Addr) ->Sem (ForInStep (List (Str×Addr))))
  (hf:∀n k cs,f (n,k) cs=if k==NameKind.free then(do let a<-cellOf env n;pure (.yield ((n,a)::cs)))else pure (.yield cs)):
  ∀(ns:List (Str×NameKind)) (acc:List (Str×Addr)),(∀y∈ns,y.2= .free->(env.cells.lookup y.1).isSome=true) ->forIn ns acc f=pure (b8 env ns acc)
 | [],acc,_=>by rw[List.forIn_nil];rfl
 |(n,k)::r,acc,h=>by
  rw[List.forIn_cons,hf]
  have hr:∀y∈r,y.2= .free->(env.cells.lookup y.1).isSome=true:=λy hy=>h y (List.mem_cons_of_mem _ hy)
  unfold b8
  by_cases hk:(k==NameKind.free)=true
  ·rw[if_pos hk,if_pos hk]
   obtain⟨c,hc⟩:=Option.isSome_iff_exists.mp (h (n,k) List.mem_cons_self (beq_iff_eq.mp hk))
   have hc':env.cells.lookup n=some c:=hc
   have e:cellOf env n=pure c:=by unfold cellOf;rw[hc']
   rw[e,pure_bind,pure_bind,hc']
   exact qB f hf r _ hr
  ·rw[if_neg hk,if_neg hk,pure_bind]
   exact qB f hf r _ hr
theorem xX{env:Env}{scope:Scope}(h:∀y∈scope.names,y.2= .free->(env.cells.lookup y.1).isSome=true):closureFor scope env=pure (b8 env scope.names []):=by
 simp only[closureFor]
 rw[qB (env:=env) _ (λn k cs=>by cases hk:k==NameKind.free<;>simp[hk]) _ _ h]
 rfl
theorem kH{env:Env}{y:Str}{c:Addr}:∀{ns:List (Str×NameKind)} {acc:List (Str×Addr)},(y,c)∈b8 env ns acc->(y,c)∈acc∨((y,NameKind.free)∈ns/\c=(env.cells.lookup y).getD 0)
 | [],acc,h=> .inl h
 |(n,k)::r,acc,h=>by
  unfold b8 at h
  split at h
  ·rename_i hk
   rcases kH h with h|⟨h,e⟩
   ·rcases List.mem_cons.mp h with e|h
    ·cases e
     exact .inr ⟨by rw[beq_iff_eq.mp hk];exact List.mem_cons_self,rfl⟩
    ·exact .inl h
   ·exact .inr ⟨List.mem_cons_of_mem _ h,e⟩
  ·rcases kH h with h|⟨h,e⟩
   ·exact .inl h
   ·exact .inr ⟨List.mem_cons_of_mem _ h,e⟩
theorem lW{env:Env}{y:Str}:∀{ns:List (Str×NameKind)} {acc:List (Str×Addr)},acc.lookup y=some ((env.cells.lookup y).getD 0)∨(y,NameKind.free)∈ns->(b8 env ns acc).lookup y=some ((env.cells.lookup y).getD 0)
 | [],acc,h=>by
  rcases h with h|h
  ·exact h
  ·cases h
 |(n,k)::r,acc,h=>by
  unfold b8
  split
  ·rename_i hk
   refine lW ?_
   by_cases hy:y=n
   ·subst hy
    exact .inl (by simp[List.lookup])
   ·have hb:(y==n)=false:=by simpa using hy
    rcases h with h|h
    ·exact .inl (by rw[List.lookup_cons,hb];exact h)
    ·rcases List.mem_cons.mp h with e|h
     ·cases e;exact absurd rfl hy
     ·exact .inr h
  ·rename_i hk
   refine lW ?_
   rcases h with h|h
   ·exact .inl h
   ·rcases List.mem_cons.mp h with e|h
    ·cases e;exact absurd rfl hk
    ·exact .inr h
theorem gD{y:Str}:∀{ns:List (Str×NameKind)} {n:Nat} {acc:List (Str×Addr)},(y,NameKind.cell)∉ns->(cellsFrom n ns acc).lookup y=acc.lookup y
 | [],_,_,_=>rfl
 |(z,k)::r,n,acc,h=>by
  unfold cellsFrom
  have hr:(y,NameKind.cell)∉r:=λq=>h (List.mem_cons_of_mem _ q)
  split
  ·rename_i hk
   rw[gD hr]
   have hy:(y==z)=false:=by
    cases e:y==z with
    |false=>rfl
    |true=>exact absurd (by rw[beq_iff_eq.mp e,beq_iff_eq.mp hk];exact List.mem_cons_self) h
   rw[List.lookup_cons,hy]
  ·exact gD hr
theorem lX{y:Str}{c:Addr}:∀{ns:List (Str×NameKind)} {n:Nat} {acc:List (Str×Addr)},(y,c)∈cellsFrom n ns acc->(y,c)∈acc∨(n<=c/\(y,NameKind.cell)∈ns)
 | [],_,_,h=> .inl h
 |(z,k)::r,n,acc,h=>by
  unfold cellsFrom at h
  split at h
  ·rename_i hk
   rcases lX h with h|⟨h,e⟩
   ·rcases List.mem_cons.mp h with e|h
    ·cases e
     exact .inr ⟨Nat.le_refl _,by rw[beq_iff_eq.mp hk];exact List.mem_cons_self⟩
    ·exact .inl h
   ·exact .inr ⟨by omega,List.mem_cons_of_mem _ e⟩
  ·rcases lX h with h|⟨h,e⟩
   ·exact .inl h
   ·exact .inr ⟨h,List.mem_cons_of_mem _ e⟩
theorem lY:∀{ns:List (Str×NameKind)} {n:Nat} {acc:List (Str×Addr)},(∀x y c,(x,c)∈acc->(y,c)∈acc->x=y) ->(∀y c,(y,c)∈acc->c<n) ->
  ∀x y c,(x,c)∈cellsFrom n ns acc->(y,c)∈cellsFrom n ns acc->x=y
 | [],_,_,h,_=>h
 |(z,k)::r,n,acc,h,hl=>by
  unfold cellsFrom
  split
  ·refine lY (λx y c h1 h2=> ?_) (λy c h1=> ?_)
   ·rcases List.mem_cons.mp h1 with e1|h1<;>rcases List.mem_cons.mp h2 with e2|h2
    ·cases e1;cases e2;rfl
    ·cases e1;exact absurd (hl _ _ h2) (Nat.lt_irrefl _)
    ·cases e2;exact absurd (hl _ _ h1) (Nat.lt_irrefl _)
    ·exact h x y c h1 h2
   ·rcases List.mem_cons.mp h1 with e1|h1
    ·cases e1;exact Nat.lt_succ_self _
    ·exact Nat.lt_succ_of_lt (hl _ _ h1)
  ·exact lY h hl
theorem jM:∀(ns:List (Str×NameKind)) (h:Heap) (acc:List (Str×Addr)) (y:Str) (c:Addr),(y,c)∈cellsFrom h.objs.size ns acc->(y,c)∈acc∨(pushCells h ns).IsCell c none
 | [],_,_,_,_,hm=> .inl hm
 |(z,k)::r,h,acc,y,c,hm=>by
  unfold cellsFrom at hm
  unfold pushCells
  split at hm
  ·rename_i hk
   rw[if_pos hk]
   have hm':(y,c)∈cellsFrom (h.push {cls:= .type "cell",data:= .cell none}).objs.size r ((z,h.objs.size)::acc):=by rw[Heap.size_push];exact hm
   rcases jM r _ _ y c hm' with hm|hm
   ·rcases List.mem_cons.mp hm with e|hm
    ·cases e
     exact .inr ⟨_,pushCells_keeps _ _ _ _ (Heap.get?_push_size _ rfl),rfl⟩
    ·exact .inl hm
   ·exact .inr hm
  ·rename_i hk
   rw[if_neg hk]
   exact jM r h acc y c hm
def kindB(names:List (Str×NameKind))(y:Str)(k:NameKind):Bool:=names.lookup y==some k
def vN:List Str->Bool
 | []=>true
 |x::r=> !r.contains x && vN r
theorem qC:∀{l:List Str},vN l=true->l.Nodup
 | [],_=>List.nodup_nil
 |x::r,h=>by
  unfold vN at h
  rw[Bool.and_eq_true]at h
  refine List.nodup_cons.mpr ⟨λhm=> ?_,qC h.2⟩
  have:r.contains x=true:=List.contains_iff_mem.mpr hm
  rw[this]at h
  exact absurd h.1 (by decide)
def Dg:List Str->List Str->(Str->Str->Bool) ->Bool
 | [],[],_=>true
 |x::r,y::t,p=>p x y && Dg r t p
 |_,_,_=>false
theorem Bl:∀{l m:List Str} {p:Str->Str->Bool},Dg l m p=true->l.length=m.length
 | [],[],_,_=>rfl
 | [],_::_,_,h=>by cases h
 |_::_,[],_,h=>by cases h
 |x::r,y::t,p,h=>by
  unfold Dg at h
  rw[Bool.and_eq_true]at h
  simp[Bl h.2]
theorem Bm:∀{l m:List Str} {p:Str->Str->Bool},Dg l m p=true-> ∀(i:Nat) (x:Str),l[i]?=some x-> ∃y,m[i]?=some y/\p x y=true
 | [],[],_,_,i,x,h=>by simp at h
 | [],_::_,_,h,_,_,_=>by cases h
 |_::_,[],_,h,_,_,_=>by cases h
 |x::r,y::t,p,h,0,z,e=>by
  unfold Dg at h
  rw[Bool.and_eq_true]at h
  simp at e;subst e
  exact⟨y,rfl,h.1⟩
 |x::r,y::t,p,h,i+1,z,e=>by
  unfold Dg at h
  rw[Bool.and_eq_true]at h
  obtain⟨w,e1,e2⟩:=Bm h.2 i z (by simpa using e)
  exact⟨w,by simpa using e1,e2⟩
def zQ(names ks:List (Str×NameKind))(own N2 N:List Str):Bool:=
 names.all (λy=>y.2 != .free||kindB ks y.1 .cell||kindB ks y.1 .free) &&
 vN (names.map (·.1)) && vN (own++N2) &&
 names.all (λy=> !(y.2== .local||y.2== .cell)||own.contains y.1||y.1==(".0":Str)) &&
 Dg N2 N (λy z=>(y==z && y !=(".0":Str))||names.lookup y==none) &&
 own.all (λx=>kindB names x .local||kindB names x .cell)
structure rj(names ks:List (Str×NameKind))(own N2 N:List Str):Prop where
 fr:∀y,(y,NameKind.free)∈names->ks.lookup y=some .cell∨ks.lookup y=some .free
 nd:(names.map (·.1)).Nodup
 NF:(own++N2).Nodup
 owns:∀y k,(y,k)∈names->k= .local∨k= .cell->y∈own∨y=(".0":Str)
 zip:∀(j:Nat) (y:Str),N2[j]?=some y->(N[j]?=some y/\y≠(".0":Str))∨names.lookup y=none
 len:N2.length=N.length
 own:∀x∈own,names.lookup x=some .local∨names.lookup x=some .cell
theorem jN{names ks:List (Str×NameKind)}{own N2 N:List Str}(h:zQ names ks own N2 N=true):rj names ks own N2 N:=by
 unfold zQ at h
 simp only[Bool.and_eq_true]at h
 obtain⟨⟨⟨⟨⟨h1,h2⟩,h3⟩,h4⟩,h5⟩,h6⟩:=h
 refine⟨λy hy=> ?_,qC h2,qC h3,λy k hy hk=> ?_,λj y e=> ?_,Bl h5,λx hx=> ?_⟩
 ·have q:=List.all_eq_true.mp h1 _ hy
  simp only[Bool.or_eq_true]at q
  rcases q with(q|q)|q
  ·exact absurd q (by simp)
  ·exact .inl (by simpa [kindB]using q)
  ·exact .inr (by simpa [kindB]using q)
 ·have q:=List.all_eq_true.mp h4 _ hy
  simp only[Bool.or_eq_true]at q
  rcases q with(q|q)|q
  ·rcases hk with rfl|rfl<;>simp at q
  ·exact .inl (List.contains_iff_mem.mp q)
  ·exact .inr (by simpa using q)
 ·obtain⟨z,e1,e2⟩:=Bm h5 j y e
  simp only[Bool.or_eq_true,Bool.and_eq_true]at e2
  rcases e2 with⟨e2,e3⟩|e2
  ·exact .inl ⟨by rw[e1,beq_iff_eq.mp e2],by simpa using e3⟩
  ·exact .inr (by simpa using e2)
 ·have q:=List.all_eq_true.mp h6 _ hx
  simp only[Bool.or_eq_true]at q
  rcases q with q|q
  ·exact .inl (by simpa [kindB]using q)
  ·exact .inr (by simpa [kindB]using q)
theorem cO{α:Type}:∀{l:List (Str×α)} {y:Str} {k:α},(l.map (·.1)).Nodup->(y,k)∈l->l.lookup y=some k
 |(z,v)::r,y,k,nd,h=>by
  rw[List.map_cons,List.nodup_cons]at nd
  rw[List.lookup_cons]
  rcases List.mem_cons.mp h with e|h'
  ·cases e;simp
  ·have:(y==z)=false:=by
    cases e:y==z with
    |false=>rfl
    |true=>
     have e':y=z:=beq_iff_eq.mp e
     have q:y∈r.map (λx=>x.1):=List.mem_map.mpr ⟨(y,k),h',rfl⟩
     exact absurd (by rw[<-e'];exact q) nd.1
   rw[this]
   exact cO nd.2 h'
theorem ki{sc:Scope}{env:Env}{y:Str}:∀{ns:List (Str×NameKind)},
  (ns.map λ (n,k)=>if(k==NameKind.free && env.scope.kind== .function && env.kindOf n==some .cell)then(n,NameKind.cell)else(n,k)).lookup y=
   (ns.lookup y).map λk=>if(k==NameKind.free && env.scope.kind== .function && env.kindOf y==some .cell)then .cell else k
 | []=>rfl
 |(n,k)::r=>by
  have ih:= @ki sc env y r
  rw[List.map_cons,List.lookup_cons]
  show List.lookup y ((if(k==NameKind.free && env.scope.kind== .function && env.kindOf n==some .cell)=true then(n,NameKind.cell)else(n,k))::_)=_
  cases hx:y==n with
  |true=>
   have e:y=n:=beq_iff_eq.mp hx
   subst e
   by_cases hc:(k==NameKind.free && env.scope.kind== .function && env.kindOf y==some .cell)=true
   ·rw[if_pos hc]
    simp only[List.lookup_cons,hx,Option.map_some,if_pos hc]
   ·rw[if_neg hc]
    simp only[List.lookup_cons,hx,Option.map_some,if_neg hc]
  |false=>
   by_cases hc:(k==NameKind.free && env.scope.kind== .function && env.kindOf n==some .cell)=true
   ·rw[if_pos hc];simp only[List.lookup_cons,hx];exact ih
   ·rw[if_neg hc];simp only[List.lookup_cons,hx];exact ih
def Cx.comp(X:Cx)(sc:Scope)(N':List Str)(s:Shared)(H:Hp)(fp:List Addr):Cx:=
 {X with
  N:=N'
  s₀:=s
  H₀:=H
  env:=compEnvC sc (cellsFrom (s.heap.objs.size+2) sc.names (b8 X.env sc.names [])) (s.heap.objs.size+1) X.env
  outer:=X.stack
  ex:=fp
  fn:=λy=>sc.names.lookup y==some .cell
  pn:=[]
  xe:=λ_ _=>False}
section
variable{X:Cx}{pins:List (Addr×Obj)}{σ:St}{H:Hp}{s:Shared}{sc:Scope}{own N2:List Str}{fp:List Addr}
theorem kI(I:Inv X pins σ H s)(B:rj sc.names X.env.scope.names own N2 X.N):∀y,(y,NameKind.free)∈sc.names-> ∃c,X.env.cells.lookup y=some c:=λy hy=>by
 rcases B.fr y hy with q|q
 ·exact I.ok.has y (.inl q)
 ·exact I.ok.has y (.inr q)
theorem rD(I:Inv X pins σ H s)(B:rj sc.names X.env.scope.names own N2 X.N):closureFor sc X.env=pure (b8 X.env sc.names []):=
 xX λy hy hk=>by
  obtain⟨c,e⟩:=kI I B y.1 (by rw[<-hk];exact hy)
  rw[e];rfl
theorem jx(I:Inv X pins σ H s)(B:rj sc.names X.env.scope.names own N2 X.N){n:Nat}{y:Str}{c:Addr}(h:(y,c)∈cellsFrom n sc.names (b8 X.env sc.names [])):
  (n<=c/\(y,NameKind.cell)∈sc.names)∨((y,NameKind.free)∈sc.names/\X.env.cells.lookup y=some c):=by
 rcases lX h with h|h
 ·rcases kH h with h|⟨h,e⟩
  ·cases h
  ·obtain⟨c',e'⟩:=kI I B y h
   rw[e']at e
   exact .inr ⟨h,by rw[e',e];rfl⟩
 ·exact .inl h
theorem nC(I:Inv X pins σ H s)(B:rj sc.names X.env.scope.names own N2 X.N){n:Nat}{y:Str}{c:Addr}(hy:(y,NameKind.free)∈sc.names)(hc:X.env.cells.lookup y=some c):
  (cellsFrom n sc.names (b8 X.env sc.names [])).lookup y=some c:=by
 rw[gD,lW (.inr hy),hc]
 ·rfl
 ·intro q
  have e1:=cO B.nd hy
  rw[cO B.nd q]at e1
  cases e1
theorem GJ(I:Inv X pins σ H s)(B:rj sc.names X.env.scope.names own N2 X.N){n:Nat}(hn:s.heap.objs.size<=n){x y:Str}{c:Addr}(h1:(x,c)∈cellsFrom n sc.names (b8 X.env sc.names []))
  (h2:(y,c)∈cellsFrom n sc.names (b8 X.env sc.names [])):x=y:=by
 have old:∀z c,(z,c)∈b8 X.env sc.names [] ->X.env.cells.lookup z=some c:=λz c hm=>by
  rcases kH hm with h|⟨h,e⟩
  ·cases h
  ·obtain⟨c',e'⟩:=kI I B z h
   rw[e']at e
   rw[e',e];rfl
 refine lY (λx y c h1 h2=>I.ok.inj x y c (old _ _ h1) (old _ _ h2)) (λz c hm=> ?_) x y c h1 h2
 obtain⟨v,q⟩:=I.cell z c (old _ _ hm)
 exact Nat.lt_of_lt_of_le q.lt hn
theorem zT(I:Inv X pins σ H s)(B:rj sc.names X.env.scope.names own N2 X.N){n:Nat}{env':Env}{h':Heap}{m:Str->Option Value}{j:Nat}{y:Str}{v:V}(hN:N2[j]?=some y)(hs:σ[j]?=some (some v))
  (hcl:env'.cells=cellsFrom n sc.names (b8 X.env sc.names []))(hkd:∀y,(y,NameKind.free)∈sc.names->env'.kindOf y=some .cell∨env'.kindOf y=some .free)
  (hin:Py env'.scope y-> ∃k,sc.names.lookup y=some k)(hown:y∉own)
  (keep:∀b o,s.heap.get? b=some o->h'.get? b=some o)(hv:Py env'.scope y)(hk2:∀k,sc.names.lookup y=some k->k= .local∨k= .cell∨k= .free):∃u,RelV v u/\Look env' h' m y u:=by
 obtain⟨k,hk⟩:=hin hv
 rcases B.zip j y hN with⟨e,n0⟩|e
 ·have hm:=mem_of_lookup hk
  have kf:k= .free:=by
   rcases hk2 k hk with z|z|z
   ·rcases B.owns y k hm (.inl z)with q|q
    ·exact absurd q hown
    ·exact absurd q n0
   ·rcases B.owns y k hm (.inr z)with q|q
    ·exact absurd q hown
    ·exact absurd q n0
   ·exact z
  subst kf
  have hX:Py X.env.scope y:=by
   rcases B.fr y hm with q|q
   ·exact .inr (.inl q)
   ·exact .inr (.inr q)
  obtain⟨m0,_,hl⟩:=I.loc
  obtain⟨u,r,l⟩:=hl j y v e hs hX
  refine⟨u,r,.inr ⟨hkd y hm,?_⟩⟩
  rcases l with⟨kl,_⟩|⟨_,c,hc,z⟩
  ·rcases B.fr y hm with q|q
   ·have TN:X.env.scope.names.lookup y=some .local:=kl
    rw[q]at TN;cases TN
   ·have TN:X.env.scope.names.lookup y=some .local:=kl
    rw[q]at TN;cases TN
  ·exact⟨c,by rw[hcl];exact nC I B hm hc,z.keeps keep⟩
 ·rw[hk]at e;cases e
end
theorem lO{M:Model}{A:Around}{E:Value->Shared->Prop}{s:Shared}{sc:Scope}{g:Addr}{cl:List (Str×Addr)}{qual:Str}{env:Env}{Q:Env->Shared->Prop}
  (h:Q {scope:=sc,locals:=s.heap.objs.size,globals:=g,cells:=cellsFrom (s.heap.objs.size+1) sc.names cl,qual:=qual,func:=none,code:=env.code,frame:=env.frame,builtins:=env.builtins}
   {s with heap:=pushCells (s.heap.push {cls:= .type "dict",data:= .dict #[]}) sc.names}):
  wpAny M A (newFunctionEnv sc g cl [] qual none .none (some env)) Q E s:=by
 simp only[newFunctionEnv,Option.isSome_some,if_true]
 refine wpAny_bind (wpAny_alloc ?_)
 refine wpAny_bind (wpAny_layCells _ (λname kind cells=>by cases hkc:kind==NameKind.cell<;>simp[hkc]) _ _ _ _ ?_)
 rw[show({s with heap:=s.heap.push {cls:= .type "dict",data:= .dict #[]}}:Shared).heap.objs.size=s.heap.objs.size+1 from Heap.size_push ..]
 simp only[List.forIn_nil]
 exact wpAny_bind (wpAny_pure (wpAny_pure h))
section
variable{X:Cx}{pins:List (Addr×Obj)}{σ:St}{H:Hp}{s:Shared}{sc:Scope}{own N2:List Str}{fp:List Addr}
theorem vO{env:Env}{y:Str}(hv:Py (relabel sc env) y):∃k,sc.names.lookup y=some k/\(k= .local∨k= .cell∨k= .free):=by
 have q:∀k,(relabel sc env).names.lookup y=some k->(k= .local∨k= .cell∨k= .free) -> ∃k,sc.names.lookup y=some k/\(k= .local∨k= .cell∨k= .free):=λk e hk=>by
  have e':=(ki (sc:=sc) (env:=env) (y:=y) (ns:=sc.names)).symm.trans e
  cases z:sc.names.lookup y with
  |none=>rw[z]at e';cases e'
  |some k0=>
   rw[z]at e'
   simp only[Option.map_some,Option.some.injEq]at e'
   refine⟨k0,rfl,?_⟩
   split at e'
   ·rename_i hc
    simp only[Bool.and_eq_true]at hc
    exact .inr (.inr (by simpa using hc.1.1))
   ·rw[e'];exact hk
 rcases hv with e|e|e
 ·exact q _ e (.inl rfl)
 ·exact q _ e (.inr (.inl rfl))
 ·exact q _ e (.inr (.inr rfl))
theorem kind_free(B:rj sc.names X.env.scope.names own N2 X.N){env:Env}{y:Str}(hy:(y,NameKind.free)∈sc.names):(relabel sc env).names.lookup y=some .cell∨(relabel sc env).names.lookup y=some .free:=by
 have e:=ki (sc:=sc) (env:=env) (y:=y) (ns:=sc.names)
 rw[cO B.nd hy]at e
 simp only[Option.map_some]at e
 split at e
 ·exact .inl e
 ·exact .inr e
theorem kJ{env:Env}{y:Str}{k:NameKind}(hy:sc.names.lookup y=some k)(hk:k= .local∨k= .cell):(relabel sc env).names.lookup y=some k:=by
 have e:=ki (sc:=sc) (env:=env) (y:=y) (ns:=sc.names)
 rw[hy]at e
 simp only[Option.map_some]at e
 rcases hk with rfl|rfl
 ·exact e
 ·exact e
theorem NG(I:Inv X pins σ H s)(B:rj sc.names X.env.scope.names own N2 X.N)(hk:sc.kind= .function)(hf:∀b∈fp,fO X pins H b)(ho:∀b∈fp,∃o,s.heap.get? b=some o):(X.comp sc (own++N2) s H fp).Ok:=by
 have lt:∀b∈fp,b<s.heap.objs.size:=λb hb=>let⟨o,e⟩:=ho b hb;Heap.lt_size e
 have j8:∀y c,(cellsFrom (s.heap.objs.size+2) sc.names (b8 X.env sc.names [])).lookup y=some c->(s.heap.objs.size+2<=c/\(y,NameKind.cell)∈sc.names)∨((y,NameKind.free)∈sc.names/\X.env.cells.lookup y=some c):=
  λy c h=>jx I B (mem_of_lookup h)
 refine⟨I.ok.mod,hk,I.ok.glob,I.ok.blt,Nat.le_succ _,λx y c h1 h2=> ?_,λy hy=> ?_,λy c hy hc=> ?_,I.ok.hd,I.ok.frames,.inl rfl,λb hb=>⟨?_,λy c hc=> ?_⟩,I.bs,Nat.le_trans I.ok.Nl I.sz,λb o e hb=> ?_,λb hb hs=> ?_,I.stack,I.vm⟩
 ·exact GJ I B (by omega) (mem_of_lookup h1) (mem_of_lookup h2)
 ·have hy':(relabel sc X.env).names.lookup y=some .cell∨(relabel sc X.env).names.lookup y=some .free:=hy
  obtain⟨k,e,PN⟩:=vO (env:=X.env) (y:=y) (sc:=sc) (by rcases hy' with q|q;exact .inr (.inl q);exact .inr (.inr q))
  rcases PN with rfl|rfl|rfl
  ·have:=kJ (env:=X.env) e (.inl rfl)
   rcases hy' with q|q
   ·rw[q]at this;cases this
   ·rw[q]at this;cases this
  ·exact Option.isSome_iff_exists.mp (PySem.W.cellsFrom_some sc.names _ _ (.inl e))
  ·obtain⟨c,hc⟩:=kI I B y (mem_of_lookup e)
   exact⟨c,nC I B (mem_of_lookup e) hc⟩
 ·have hy':sc.names.lookup y=some .cell:=by
   have q:(sc.names.lookup y==some NameKind.cell)=true:=hy
   simpa using q
  rcases j8 y c hc with⟨q,_⟩|⟨q,_⟩
  ·show s.heap.objs.size<=c
   omega
  ·rw[cO B.nd q]at hy';cases hy'
 ·exact Nat.ne_of_lt (Nat.lt_succ_of_lt (lt b hb))
 ·have hl:=lt b hb
  rcases j8 y c hc with⟨q,_⟩|⟨_,q⟩
  ·exact Nat.ne_of_gt (Nat.lt_of_lt_of_le hl (Nat.le_trans (Nat.le_add_right _ 2) q))
  ·exact(hf b hb).2.2.2.2.1 y c q
 ·rcases(hf b hb).2.2.2.1 with z|z
  ·exact I.ok.Gw b o e z
  ·exact absurd (Nat.lt_of_lt_of_le (Heap.lt_size (I.ok.bs b o e).1) z) (Nat.lt_irrefl _)
 ·rcases List.mem_cons.mp (I.vI b hs)with e|e
  ·exact(hf b hb).2.1 e
  ·exact(hf b hb).2.2.1 e
theorem Bo(I:Inv X pins σ H s)(B:rj sc.names X.env.scope.names own N2 X.N)(hk:sc.kind= .function)(hf:∀b∈fp,fO X pins H b)(ho:∀b∈fp,∃o,s.heap.get? b=some o):
  Inv (X.comp sc (own++N2) s H fp) [] (List.replicate own.length none++σ) (upd H s.heap.objs.size (.lst []))
   {s with heap:=pushCells ((s.heap.push {cls:= .type "list",dict:=none,data:= .seq ([]:List Value).toArray}).push {cls:= .type "dict",data:= .dict #[]}) sc.names}:=by
 have k1:∀b o,(s.heap.push {cls:= .type "list",dict:=none,data:= .seq ([]:List Value).toArray}).get? b=some o->
   (pushCells ((s.heap.push {cls:= .type "list",dict:=none,data:= .seq ([]:List Value).toArray}).push {cls:= .type "dict",data:= .dict #[]}) sc.names).get? b=some o:=
  λb o e=>pushCells_keeps _ _ b o (Heap.get?_push_of_some _ e)
 have k0:∀b o,s.heap.get? b=some o->
   (pushCells ((s.heap.push {cls:= .type "list",dict:=none,data:= .seq ([]:List Value).toArray}).push {cls:= .type "dict",data:= .dict #[]}) sc.names).get? b=some o:=
  λb o e=>k1 b o (Heap.get?_push_of_some _ e)
 have sz:((s.heap.push {cls:= .type "list",dict:=none,data:= .seq ([]:List Value).toArray}).push {cls:= .type "dict",data:= .dict #[]}).objs.size=s.heap.objs.size+2:=by rw[Heap.size_push,Heap.size_push]
 have j8:∀y c,(cellsFrom (s.heap.objs.size+2) sc.names (b8 X.env sc.names [])).lookup y=some c->(s.heap.objs.size+2<=c/\(y,NameKind.cell)∈sc.names)∨((y,NameKind.free)∈sc.names/\X.env.cells.lookup y=some c):=
  λy c h=>jx I B (mem_of_lookup h)
 have JJ:∀b,s.heap.objs.size<b->upd H s.heap.objs.size (.lst []) b=none:=λb hb=>by
  rw[aF (Nat.ne_of_gt hb)]
  exact I.hok.fresh (Nat.le_of_lt hb)
 refine⟨NG I B hk hf ho,rfl,.refl I.bare.bare,Un.laid k0 (Nat.le_refl _) I.fresh,⟨λ_=>none,?_,λi y v e1 e2 e3=> ?_⟩,λy c hc=> ?_,JJ _ (Nat.lt_succ_self _),λy c hc=> ?_,λp hp=> ?_,I.hok.laid k0 (Nat.le_refl _) ?_,?_⟩
 ·have:=Heap.Ns.new (s.heap.push {cls:= .type "list",dict:=none,data:= .seq ([]:List Value).toArray}) (.type "dict")
  rw[Heap.size_push]at this
  exact this.keeps (pushCells_keeps _ _)
 ·by_cases hi:i<own.length
  ·rw[List.getElem?_append_left (by simpa using hi),List.getElem?_replicate]at e2
   split at e2<;>cases e2
  ·have Dh:(own++N2)[i]?=some y:=e1
   have hi':own.length<=i:=by omega
   rw[List.getElem?_append_right (by simpa using hi'),List.length_replicate]at e2
   rw[List.getElem?_append_right hi']at Dh
   have hown:y∉own:=λhm=>by
    have nd:=B.NF
    rw[List.nodup_append]at nd
    exact nd.2.2 y hm y (List.mem_of_getElem? Dh) rfl
   refine zT I B (n:=s.heap.objs.size+2) Dh e2 rfl (λz hz=>kind_free B hz) (λhv=>let⟨k,e,_⟩:=vO hv;⟨k,e⟩) hown k0 e3 (λk e=> ?_)
   obtain⟨k',e',hk'⟩:=vO (sc:=sc) e3
   rw[e]at e';cases e'
   exact hk'
 ·rcases jM sc.names ((s.heap.push {cls:= .type "list",dict:=none,data:= .seq ([]:List Value).toArray}).push {cls:= .type "dict",data:= .dict #[]}) (b8 X.env sc.names []) y c (by rw[sz];exact mem_of_lookup hc)with q|q
  ·rcases kH q with z|⟨z,e⟩
   ·cases z
   ·obtain⟨c',e'⟩:=kI I B y z
    rw[e']at e
    have e2:c=c':=e
    subst e2
    obtain⟨v,w⟩:=I.cell y c e'
    exact⟨v,w.keeps k0⟩
  ·exact⟨none,q⟩
 ·rcases j8 y c hc with⟨q,_⟩|⟨_,q⟩
  ·exact JJ c (by omega)
  ·obtain⟨v,w⟩:=I.cell y c q
   rw[aF (Nat.ne_of_lt w.lt)]
   exact I.oB y c q
 ·have xR:p∈([]:List (Addr×Obj)):=hp
  cases xR
 ·exact⟨Nat.zero_le _,[],0,.nil,k1 _ _ (Heap.get?_push_size _ rfl)⟩
 ·show(List.replicate own.length none++σ).length=(own++N2).length
  rw[List.length_append,List.length_append,List.length_replicate,I.len,B.len]
theorem Inv.zU{σ':St}{H':Hp}{s':Shared}{N':List Str}(I:Inv X pins σ H s)(hf:∀b∈fp,fO X pins H b)(J:Inv (X.comp sc N' s H fp) [] σ' H' s'):Inv X pins σ H' s':=
 I.Jl (ch:=fp) J.os J.base J.hok J.bare λb hb=>⟨(hf b hb).2.2.2.1,(hf b hb).2.1,(hf b hb).2.2.2.2.1,(hf b hb).2.2.2.2.2⟩
end
section
variable{prog:Program}{w:World}{A:Around}{R:Result->Shared->Prop}{s:Shared}
theorem oU{elt target iter:Expr}{scope:Scope}{pos:Pos}{it acc:Value}{env:Env}(I:Nat->Shared->Prop)
  (turn:∀n s,I n s->wpAny (model prog w) A (pyNext it) (λr s₁=>match r with
   |none=>R (.ok .next) s₁
   |some v=>wpAny (model prog w) A (letOwnedTupleGo target it v) (λ_ s₁'=>wpAny (model prog w) A (assign target env v) (λ_ s₂=>wpAny (model prog w) A (eval elt env) (λx s₃=>
     wpAny (model prog w) A (call (.builtin "list.append") [acc,x]) (λ_ s₄=> ∃m,m<n/\I m s₄) (λ_ _=>False) s₃)
     (λ_ _=>False) s₂) (λ_ _=>False) s₁') (λ_ _=>False) s₁) (λ_ _=>False) s)
  (n:Nat)(h:I n s):
  codeAny (model prog w) A (.compLoop (.ListComp elt [⟨target,iter,[],0⟩] scope pos) 0 it acc env) R s:=by
 refine codeAny_loop rfl I (λn s hI=> ?_) n h
 show wpAny _ _ ((compTurn (.ListComp elt [⟨target,iter,[],0⟩] scope pos) 0 it acc env).onRaise (λx=>do noteFrame x env;theTreesLotGoes x)) _ _ s
 refine wpAny_noted ?_
 rw[compTurn_list1]
 refine wpAny_bind (wpAny_standAt (wpAny_bind (wpAny_mono (turn n s hI) (λr s₁ h₁=> ?_) λ_ _ h'=>h'.elim)))
 cases r with
 |none=>exact wpAny_pure h₁
 |some v=>
  exact wpAny_bind (wpAny_mono h₁ (λ_ s₁' h₁'=>wpAny_bind (wpAny_mono h₁' (λ_ s₂ h₂=>wpAny_bind (wpAny_bind (wpAny_mono h₂ (λx s₃ h₃=>wpAny_bind (wpAny_mono h₃
   (λ_ s₄ h₄=>wpAny_pure (wpAny_pure ⟨rfl,h₄⟩)) λ_ _ h'=>h'.elim)) λ_ _ h'=>h'.elim))) λ_ _ h'=>h'.elim)) λ_ _ h'=>h'.elim)
end
def lZ(k:Nat)(g:TG)(te:TE)(σ:St)(J:It)(H1:Hp)(D:Addr)(Q:VK):Prop:=∃W:Nat->Nat->List V->St->Hp->Prop,(∃m,W 0 m [] (List.replicate k none++σ) (upd H1 D (.lst [])))/\
 ∀i m acc σ' H',W i m acc σ' H'->(J.stop i H'/\H' D=some (.lst acc)/\Q (.ref D) H')∨
  (J.go i H'/\acc.length<sizeLine/\ ∀x H2,J.xU i H' x H2->g x σ' H2 λσ3 H3=>te σ3 H3 λv H4=>H4 D=some (.lst acc)/\ ∃m',m'<m/\W (i+1) m' (acc++ [v]) σ3 (upd H4 D (.lst (acc++ [v]))))
def iT(k:Nat)(wi:TI)(g:TG)(te:TE):TE:=λσ H Q=>wi σ H λJ H1=> ∀D,H1 D=none->lZ k g te σ J H1 D Q
section
variable{X:Cx}{sc:Scope}{own N2:List Str}
theorem vP{elt iter tg:Expr}{pos QV:Pos}{wi:TI}{g:TG}{te:TE}{use:Option (Value->Sem Unit)}{Qf:Value->Shared->Prop}(hc:X.calm=true)(hi:PI X tg iter wi)(B:rj sc.names X.env.scope.names own N2 X.N)(hk:sc.kind= .function)
  (hg:∀s H fp,PG (X.comp sc (own++N2) s H fp) tg g)(he:∀s H fp,PE (X.comp sc (own++N2) s H fp) elt te)
  (hs:∀x,foldedSetIterable iter X.env x=pure x){pins:List (Addr×Obj)}{s0:Shared}{σ:St}{H0:Hp}{Q:VK}(I0:Inv X pins σ H0 s0)(h0:iT own.length wi g te σ H0 Q)
  (QW:∀s H fp,Inv X pins σ H s->(∀b∈fp,fO X pins H b) -> ∀(σ':St) (H':Hp) (s':Shared),Inv (X.comp sc (own++N2) s H fp) [] σ' H' s'->Q (.ref s.heap.objs.size) H'->
   compPost (model X.prog X.w) X.A X.xe use Qf (.ref s.heap.objs.size) (s.heap.objs.size+1) (.ok .next) s'):
  wpAny (model X.prog X.w) X.A (comprehension (.ListComp elt [⟨tg,iter,[],0⟩] sc pos) sc X.env QV (newList []) false (eval iter X.env) use) Qf X.xe s0:=by
 refine wpAny_comprehension_free (use:=use) rfl hs (rD I0 B) hk (λy hy hl=>cO B.nd (by rw[<-hl];exact hy)) ?_
 refine wpAny_mono (hi pins s0 σ H0 _ I0 h0) (λv s1 h1=>wpAny_mono h1 (λitv s h2=> ?_) λ_ _ e=>e) λ_ _ e=>e
 obtain⟨it,fp,tn,J,H,e,I,T,st,hf,rd⟩:=h2
 subst e
 have ho:∀b∈fp,∃o,s.heap.get? b=some o:=λb hb=>let⟨o,e,_⟩:=T.obj 0 _ st b hb;⟨o,e⟩
 obtain⟨W,⟨m0,w0⟩,turn⟩:=rd s.heap.objs.size I.fresh
 refine wpAny_newObj_type ?_
 refine lO ?_
 have IB:=Bo I B hk hf ho
 have QX:∀{H':Hp},(∀b∈fp,H' b=none) -> ∀b∈fp,fO (X.comp sc (own++N2) s H fp) [] H' b:=λhn b hb=>by
  have ok:=IB.ok
  refine⟨hn b hb,(ok.Pz b hb).1,ok.CU b hb,.inl hb,λy c hc=>(ok.Pz b hb).2 y c hc,λp hp=> ?_⟩
  have xR:p∈([]:List (Addr×Obj)):=hp
  cases xR
 have lt:∀b∈fp,b≠s.heap.objs.size:=λb hb=>let⟨o,e⟩:=ho b hb;Nat.ne_of_lt (Heap.lt_size e)
 have fin:=QW s H fp I hf
 have loop:∀s3:Shared,s3={s with heap:=pushCells ((s.heap.push {cls:= .type "list",dict:=none,data:= .seq ([]:List Value).toArray}).push {cls:= .type "dict",data:= .dict #[]}) sc.names} ->
   codeAny (model X.prog X.w) X.A (.compLoop (.ListComp elt [⟨tg,iter,[],0⟩] sc pos) 0 (.ref it) (.ref s.heap.objs.size) (X.comp sc (own++N2) s H fp).env)
    (compPost (model X.prog X.w) X.A X.xe use Qf (.ref s.heap.objs.size) (s.heap.objs.size+1)) s3:=by
  rintro s3 rfl
  refine oU (λn s'=> ∃i acc σ' H',Inv (X.comp sc (own++N2) s H fp) [] σ' H' s'/\tn i s'.heap/\(∀b∈fp,H' b=none)/\W i n acc σ' H') ?_ m0
   ⟨0,[],_,_,IB,T.keep _ _ _ st λb _ o e=>pushCells_keeps _ _ b o (Heap.get?_push_of_some _ (Heap.get?_push_of_some _ e)),λb hb=> ?_,w0⟩
  ·rintro n s3 ⟨i,acc,σ3,H3,I3,st3,Nf,w3⟩
   rcases turn i n acc σ3 H3 w3 with⟨stop,hD,qn⟩|⟨go,hz,step⟩
   ·refine fZ (T.done (X.comp sc (own++N2) s H fp) rfl rfl rfl hc i [] s3 σ3 H3 _ I3 (QX Nf) st3 stop) λr s4 ⟨hr,I4⟩=> ?_
    subst hr
    exact fin σ3 H3 s4 I4 qn
   ·refine fZ (T.item (X.comp sc (own++N2) s H fp) rfl rfl rfl hc i [] s3 σ3 H3 _ I3 (QX Nf) st3 go) λr s4 ⟨u,hr,h4⟩=> ?_
    subst hr
    refine fZ h4 λ_ s5 ⟨x,H5,I5,r5,y5,Gz,Ti⟩=> ?_
    have Tj:=I5.pinned (QX Ti) (T.obj _ _ Gz)
    refine fZ (hg s H fp _ s5 σ3 H5 x u _ Tj r5 (step x H5 y5)) λ_ s6 ⟨Ju,H6,I6,q6⟩=> ?_
    refine fZ (he s H fp _ s6 Ju H6 _ I6 q6) λv s7 ⟨y,H7,I7,r7,Sg,m',hm',w7⟩=> ?_
    refine fZ (gO _ s7 Ju H7 (.ref s.heap.objs.size) [y] (.ref s.heap.objs.size) [v] (λz H8=>z= .gu/\H8=upd H7 s.heap.objs.size (.lst (acc++ [y]))) I7 rfl (.cons r7 .nil) ⟨s.heap.objs.size,acc,y,rfl,rfl,Sg,hz,rfl,rfl⟩) λz s8 ⟨zz,H8,I8,_,_,e8⟩=> ?_
    subst e8
    refine⟨m',hm',i+1,acc++ [y],Ju,_,I8.iE,T.keep _ _ _ Gz λb hb o e=>(I8.pin (b,o) (List.mem_append_right _ (List.mem_append_right _ (bE hb e)))).1,λb hb=> ?_,w7⟩
    obtain⟨o,e,d⟩:=T.obj _ _ Gz b hb
    exact(I8.pin (b,o) (List.mem_append_right _ (List.mem_append_right _ (bE hb e)))).2.1
  ·rw[aF (lt b hb)]
   exact(hf b hb).1
 have e1:(s.heap.push {cls:= .type "list",dict:=none,data:= .seq ([]:List Value).toArray}).objs.size=s.heap.objs.size+1:=Heap.size_push ..
 dsimp only
 rw[e1]
 exact codeAny_compStart_list (loop _ rfl) (T.self _ 0 _ _ _ (T.keep _ _ _ st λb _ o e=>pushCells_keeps _ _ b o (Heap.get?_push_of_some _ (Heap.get?_push_of_some _ e))) (loop _ rfl))
theorem Inv.Fg{pins:List (Addr×Obj)}{σ σ1:St}{H H1:Hp}{s s1:Shared}{h':Heap}(I:Inv X pins σ H s)(I1:Inv X pins σ1 H1 s1)(hn:H1 (s.heap.objs.size+1)=none)(sb:Heap.SameBut (s.heap.objs.size+1) s1.heap h'):Inv X pins σ1 H1 {s1 with heap:=h'}:=by
 have ne:∀b o,s.heap.get? b=some o->b≠s.heap.objs.size+1:=λb o e=>Nat.ne_of_lt (Nat.lt_succ_of_lt (Heap.lt_size e))
 refine I1.turned (it:=s.heap.objs.size+1) (t':=s1.toks) (λb o hb e=>(sb.2 b hb).trans e) hn (Nat.ne_of_gt (Nat.lt_succ_of_lt I.lt)) (.inr (Nat.le_succ_of_le I.sz)) (λy c e=> ?_) (λp hp=>ne _ _ (I.pin p hp).1)
 obtain⟨v,w⟩:=I.cell y c e
 exact Nat.ne_of_lt (Nat.lt_succ_of_lt w.lt)
theorem Bp{elt iter tg:Expr}{pos:Pos}{wi:TI}{g:TG}{te:TE}(hc:X.calm=true)(hi:PI X tg iter wi)(B:rj sc.names X.env.scope.names own N2 X.N)(hk:sc.kind= .function)
  (hg:∀s H fp,PG (X.comp sc (own++N2) s H fp) tg g)(he:∀s H fp,PE (X.comp sc (own++N2) s H fp) elt te)
  (hs:∀x,foldedSetIterable iter X.env x=pure x:=by intro _;rfl):PE X (.ListComp elt [⟨tg,iter,[],0⟩] sc pos) (iT own.length wi g te):=by
 intro pins s0 σ H0 Q I0 h0
 rw[eval_ListComp]
 refine vP (use:=none) hc hi B hk hg he hs I0 h0 λs H fp I hf σ' H' s' JB q=> ?_
 obtain⟨m,hn,_⟩:=JB.loc
 exact⟨m,hn,λh' sb=>⟨.ref s.heap.objs.size,H',I.Fg (I.zU hf JB) JB.free sb,rfl,q⟩⟩
theorem JK{i:Nat}{y:Str}{py spos:Pos}{elt iter tg:Expr}{pos:Pos}{wi:TI}{g:TG}{te:TE}(hN:X.N.Nodup)(hi':X.N[i]?=some y)(hy:X.env.scope.names.lookup y=some .local)(hc:X.calm=true)(hi:PI X tg iter wi)(B:rj sc.names X.env.scope.names own N2 X.N)(hk:sc.kind= .function)
  (hg:∀s H fp,PG (X.comp sc (own++N2) s H fp) tg g)(he:∀s H fp,PE (X.comp sc (own++N2) s H fp) elt te)
  (hsw:swapsWith (.ListComp elt [⟨tg,iter,[],0⟩] sc pos) (some (.Name y py)) spos.line X.env=pure true:=by rfl)(hs:∀x,foldedSetIterable iter X.env x=pure x:=by intro _;rfl):
  PS X (.Assign [.Name y py] (.ListComp elt [⟨tg,iter,[],0⟩] sc pos) spos) (CV (iT own.length wi g te) (cg i)):=by
 intro pins s0 σ H0 D I0 h0
 rw[exec_Assign_Name_used _ _ _ _ hsw]
 refine wpAny_bind (wpAny_standAt (wpAny_bind ?_))
 show wpAny _ X.A (do let _<-comprehension (.ListComp elt [⟨tg,iter,[],0⟩] sc pos) sc X.env _ (newList []) false (eval iter X.env) (some (assign (.Name y py) X.env))) _ _ s0
 refine wpAny_bind (wpAny_mono (vP (use:=some (assign (.Name y py) X.env)) (Qf:=λ_ s'=>SP X pins D .next s') hc hi B hk hg he hs I0 h0 λs H fp I hf σ' H' s' JB q=> ?_) (λ_ s' hq=>wpAny_pure (wpAny_pure hq)) λ_ _ e=>e)
 have IX:=I.zU hf JB
 refine wpAny_assign_Name (su IX hN hi' (.inl hy) (v:= .ref s.heap.objs.size) rfl (λs2 I2 ⟨a,Sh,ha⟩=> ?_) (.inr hy))
 obtain⟨m,hn,_⟩:=JB.loc
 have ea:a=X.env.locals∨a<s.heap.objs.size:=by
  rcases ha with z|z
  ·exact .inl z
  ·obtain⟨v,w⟩:=I.cell y a z
   exact .inr w.lt
 have PB:s.heap.objs.size+1≠a:=by
  rcases ea with z|z
  ·rw[z];exact Nat.ne_of_gt (Nat.lt_succ_of_lt I.lt)
  ·exact Nat.ne_of_gt (Nat.lt_succ_of_lt z)
 refine⟨m,hn.sameBut Sh PB,λh' sb=>⟨_,H',I.Fg I2 JB.free sb,q⟩⟩
end
def cu(P:Addr):HO:= .ext λh=> ∃ps:Array Value,h.get? P=some {cls:= .none,data:= .fields ps}/\TriplesOk ps.toList
structure gx(K:PySem.W.Frag)(cd:Value)(P:Addr):Prop where
 ex:∃(c:Addr) (o:Obj) (vs:Array Value) (file:Str) (tf:Tok) (flags:Int) (tg:Tok) (JL:Bool) (text:Int) (tt:Tok),cd= .ref c/\K.lookup c=some o/\o.cls= .type "code"/\o.data= .fields vs/\vs[11]?=some (.ref P)/\
  vs.getD 18 .none= .str file tf/\vs.getD 7 .none= .int flags tg/\vs.getD 9 .none= .bool JL/\vs.getD 10 .none= .int text tt
theorem JM{P:Program}{w:World}{H:Hp}{h:Heap}{T:Addr}{ps:Array Value}(e:h.get? T=some {cls:= .none,data:= .fields ps})(t:TriplesOk ps.toList):gb P w H h T (cu T):=
 ⟨⟨ps,e,t⟩,⟨_,e⟩,λh1 h2 ⟨qs,e1,t1⟩ k=>⟨qs,k _ e1,t1⟩⟩
theorem JN{H:Hp}{a:Addr}{o:HO}(h:H a=some o):upd H a o=H:=by
 funext b
 unfold upd
 split
 ·rename_i e;rw[e,h]
 ·rfl
section
variable{X:Cx}{pins:List (Addr×Obj)}{σ:St}{H:Hp}{s:Shared}{P:Addr}
theorem Di{pos:Pos}{qn:Str}{sc:Scope}{Q:Value->Shared->Prop}{E:Value->Shared->Prop}{M:Model}{A:Around}(I:Inv X pins σ H s)(hcd:gx X.K X.env.code P)(hP:H P=some (cu P))
  (h:∀code h' tk,Inv X pins σ H {s with heap:=h',toks:=tk} ->Heap.ExtBut P s.heap h'->Q code {s with heap:=h',toks:=tk}):wpAny M A (genexprCode X.env pos qn sc) Q E s:=by
 obtain⟨c,o,vs,file,tf,flags,tg,JL,text,tt,ec,hc,hcl,hd,h11,TQ,h7,h9,TR⟩:=hcd.ex
 obtain⟨⟨ps,eP,tr⟩,_,_⟩:=I.hok P _ hP
 have hcs:s.heap.get? c=some o:=I.zK c o hc
 have hcn:H c=none:=(I.bs c o (I.ok.mod.Se c o hc)).2
 have ne:c≠P:=λe=>by rw[e,hP]at hcn;cases hcn
 have QY:vs.getD 11 .none= .ref P:=by
  have:vs.getD 11 .none=(vs[11]?).getD .none:=by simp
  rw[this,h11];rfl
 have code:s.heap.IsCode c P ps:=⟨o,vs,file,tf,flags,tg,JL,text,tt,_,hcs,hd,QY,TQ,h7,h9,TR,eP,rfl,tr,ne⟩
 have tab:s.heap.TableAt c P ps:=⟨⟨o,vs,hcs,hcl,hd,h11⟩,eP⟩
 cases q:codeAmong pos ps.toList with
 |some c'=>exact wpAny_genexprCode_hit ec code q (h c' s.heap s.toks I (λ_ _ _ e=>e))
 |none=>
  refine wpAny_genexprCodeX ec code tab q λc' h' tk hx _ _ QZ _ JO _=>h _ h' tk ?_ hx
  have I':=I.write (x:=P) (e:=P) (o:=cu P) (h':=h') (t':=tk) (by rw[hP];exact trivial) (.inl rfl) (λb u hb e=>hx b u hb e) ⟨_,JO.2⟩
   (JM JO.2 (by obtain⟨_,_,_,_,_,_,_,_,_,op,_,_,_,_,_,_,_,e1,e2,e3,_⟩:=QZ;rw[JO.2]at e1;cases e1;exact e3))
  rw[JN hP]at I'
  exact I'
end
def BM(mg:Str->Option Value)(base:Heap):Prop:=∃bm ob,mg "__builtins__"=some (.ref bm)/\bm≠builtinsNs/\base.get? bm=some ob/\ob.cls= .type "module"/\ob.dict=some builtinsNs/\ob.data= .plain
def NH(B:Around)(cenv:Env):Around:={handled:=B.handled,depth:=B.depth+1,frames:=B.frames.map (cenv:: ·),guards:=B.guards,units:=B.units+3}
def Cx.gen(X:Cx)(B:Around)(sc:Scope)(N':List Str)(code:Value)(s:Shared)(H:Hp)(fp:List Addr):Cx:=
 {X with
  N:=N'
  s₀:={s with gens:=s.gens.push .running}
  H₀:=H
  A:=NH B (genEnv sc (b8 X.env sc.names []) s.heap.objs.size code builtinsNs X.env)
  env:=genEnv sc (b8 X.env sc.names []) s.heap.objs.size code builtinsNs X.env
  outer:=X.stack
  stack:=genEnv sc (b8 X.env sc.names []) s.heap.objs.size code builtinsNs X.env::X.stack
  ex:=fp
  fn:=λ_=>false
  pn:=[]
  xe:=λ_ _=>False}
section
variable{X:Cx}{pins:List (Addr×Obj)}{σ:St}{H:Hp}{s:Shared}{sc:Scope}{own N2:List Str}{fp:List Addr}{B:Around}{code:Value}
theorem p8{sc:Scope}{y:Str}(hv:Py sc y):∃k,sc.names.lookup y=some k/\(k= .local∨k= .cell∨k= .free):=by
 rcases hv with e|e|e
 ·exact⟨_,e,.inl rfl⟩
 ·exact⟨_,e,.inr (.inl rfl)⟩
 ·exact⟨_,e,.inr (.inr rfl)⟩
theorem fH{n:Nat}:∀{ns:List (Str×NameKind)} {acc:List (Str×Addr)},(∀y∈ns,y.2≠ .cell) ->cellsFrom n ns acc=acc
 | [],_,_=>rfl
 |(y,k)::r,acc,h=>by
  unfold cellsFrom
  have hk:(k==NameKind.cell)=false:=by simpa using h (y,k) List.mem_cons_self
  rw[hk]
  exact fH λz hz=>h z (List.mem_cons_of_mem _ hz)
theorem Ra(I:Inv X pins σ H s)(Bk:rj sc.names X.env.scope.names own N2 X.N)(hk:sc.kind= .function)(hnc:∀y∈sc.names,y.2≠ .cell)(hf:∀b∈fp,fO X pins H b)(ho:∀b∈fp,∃o,s.heap.get? b=some o)
  (hB:B.frames=some X.stack)(hh:B.handled=none):(X.gen B sc (own++N2) code s H fp).Ok:=by
 have lt:∀b∈fp,b<s.heap.objs.size:=λb hb=>let⟨o,e⟩:=ho b hb;Heap.lt_size e
 have j8:∀y c,(b8 X.env sc.names []).lookup y=some c->(y,NameKind.free)∈sc.names/\X.env.cells.lookup y=some c:=λy c h=>by
  have h':(cellsFrom 0 sc.names (b8 X.env sc.names [])).lookup y=some c:=by rw[fH hnc];exact h
  rcases jx I Bk (mem_of_lookup h')with⟨_,q⟩|q
  ·exact absurd rfl (hnc _ q)
  ·exact q
 refine⟨I.ok.mod,hk,I.ok.glob,rfl,Nat.le_refl _,λx y c h1 h2=> ?_,λy hy=> ?_,λy c hy hc=>absurd hy (by show ¬(false=true);decide),λ_=>hh,?_,.inr ⟨rfl,rfl⟩,λb hb=>⟨?_,λy c hc=> ?_⟩,I.bs,Nat.le_trans I.ok.Nl I.sz,λb o e hb=> ?_,λb hb hs=> ?_,I.stack,I.vm⟩
 ·exact I.ok.inj x y c (j8 x c h1).2 (j8 y c h2).2
 ·have hy':sc.names.lookup y=some .cell∨sc.names.lookup y=some .free:=hy
  rcases hy' with e|e
  ·exact absurd rfl (hnc _ (mem_of_lookup e))
  ·obtain⟨c,hc⟩:=kI I Bk y (mem_of_lookup e)
   have:=nC (n:=0) I Bk (mem_of_lookup e) hc
   rw[fH hnc]at this
   exact⟨c,this⟩
 ·show B.frames.map _=_
  rw[hB];rfl
 ·exact Nat.ne_of_lt (lt b hb)
 ·exact(hf b hb).2.2.2.2.1 y c (j8 y c hc).2
 ·rcases(hf b hb).2.2.2.1 with z|z
  ·exact I.ok.Gw b o e z
  ·exact absurd (Nat.lt_of_lt_of_le (Heap.lt_size (I.ok.bs b o e).1) z) (Nat.lt_irrefl _)
 ·rcases List.mem_cons.mp (I.vI b hs)with e|e
  ·exact(hf b hb).2.1 e
  ·exact(hf b hb).2.2.1 e
theorem NI{h':Heap}{tk:Nat}{m:Str->Option Value}(I:Inv X pins σ H s)(Bk:rj sc.names X.env.scope.names own N2 X.N)(hk:sc.kind= .function)(hnc:∀y∈sc.names,y.2≠ .cell)(hf:∀b∈fp,fO X pins H b)(ho:∀b∈fp,∃o,s.heap.get? b=some o)
  (hB:B.frames=some X.stack)(hh:B.handled=none)(hn:h'.Ns s.heap.objs.size m)(keep:∀b o,s.heap.get? b=some o->h'.get? b=some o):
  Inv (X.gen B sc (own++N2) code s H fp) [] (List.replicate own.length none++σ) H {s with heap:=h',toks:=tk,gens:=s.gens.push .running}:=by
 have j8:∀y c,(b8 X.env sc.names []).lookup y=some c->(y,NameKind.free)∈sc.names/\X.env.cells.lookup y=some c:=λy c h=>by
  have h':(cellsFrom 0 sc.names (b8 X.env sc.names [])).lookup y=some c:=by rw[fH hnc];exact h
  rcases jx I Bk (mem_of_lookup h')with⟨_,q⟩|q
  ·exact absurd rfl (hnc _ q)
  ·exact q
 refine⟨Ra I Bk hk hnc hf ho hB hh,rfl,.refl (I.bare.bare.push rfl),Un.kept keep,⟨m,hn,λi y v e1 e2 e3=> ?_⟩,λy c hc=> ?_,I.fresh,λy c hc=>I.oB y c (j8 y c hc).2,λp hp=> ?_,I.hok.kept keep,?_⟩
 ·by_cases hi:i<own.length
  ·rw[List.getElem?_append_left (by simpa using hi),List.getElem?_replicate]at e2
   split at e2<;>cases e2
  ·have Dh:(own++N2)[i]?=some y:=e1
   have hi':own.length<=i:=by omega
   rw[List.getElem?_append_right (by simpa using hi'),List.length_replicate]at e2
   rw[List.getElem?_append_right hi']at Dh
   have hown:y∉own:=λhm=>by
    have nd:=Bk.NF
    rw[List.nodup_append]at nd
    exact nd.2.2 y hm y (List.mem_of_getElem? Dh) rfl
   refine zT I Bk (n:=0) Dh e2 (fH hnc).symm (λz hz=> .inr (cO Bk.nd hz)) (λhv=>let⟨k,e,_⟩:=p8 hv;⟨k,e⟩) hown keep e3 (λk e=> ?_)
   obtain⟨k',e',hk'⟩:=p8 e3
   have Fj:sc.names.lookup y=some k':=e'
   rw[e]at Fj;cases Fj
   exact hk'
 ·obtain⟨v,w⟩:=I.cell y c (j8 y c hc).2
  exact⟨v,w.keeps keep⟩
 ·have xR:p∈([]:List (Addr×Obj)):=hp
  cases xR
 ·show(List.replicate own.length none++σ).length=(own++N2).length
  rw[List.length_append,List.length_append,List.length_replicate,I.len,Bk.len]
theorem Inv.JP{σ':St}{H':Hp}{s':Shared}{N':List Str}{pl:List (Addr×Obj)}{gs:GenState}(I:Inv X pins σ H s)(hf:∀b∈fp,fO X pins H b)(hb:gs.bare=true)(J:Inv (X.gen B sc N' code s H fp) pl σ' H' s'):
  Inv X pins σ H' (s'.setGen s.gens.size gs):=by
 have sz:s.gens.size+1<=s'.gens.size:=by
  have:=J.bare.size
  simpa [Cx.gen]using this
 refine I.Jl (ch:=fp) J.os J.base J.hok ⟨?_,?_,λk hk=> ?_⟩ λb hb=>⟨(hf b hb).2.2.2.1,(hf b hb).2.1,(hf b hb).2.2.2.2.1,(hf b hb).2.2.2.2.2⟩
 ·intro y hy
  simp only[Shared.setGen]at hy
  rcases Array.mem_or_eq_of_mem_setIfInBounds hy with q|q
  ·exact J.bare.bare y q
  ·rw[q];exact hb
 ·simp only[Shared.setGen,Array.size_setIfInBounds]
  omega
 ·have e:=J.bare.old k (by simp[Cx.gen];omega)
  simp only[Shared.setGen]
  rw[Array.getElem?_setIfInBounds_ne (by omega),e]
  show(s.gens.push .running)[k]?=s.gens[k]?
  rw[Array.getElem?_push_lt (by omega)]
  simp[hk]
end
theorem fV{B:Around}{elt:Expr}{gens:List Comprehension}{sc:Scope}{pos:Pos}{it acc:Value}{cenv:Env}:
  B.over (.compLoop (.GeneratorExp elt gens sc pos) 0 it acc cenv) []=NH B cenv:=by
 unfold Around.over NH
 congr 1
section
variable(X:Cx)(B:Around)(sc:Scope)(N':List Str)(code:Value)(sC:Shared)(HC:Hp)(fp Ss:List Addr)(tn:Nat->Heap->Prop)(cnt:Nat)(R:Nat->V->Prop)(W:Nat->St->Hp->Prop)
def sI:Protocol:=λn s₀ v s ZE=> ∃pl σ' H' x,(∀p∈pl,p.1∉Ss)/\Inv (X.gen B sc N' code sC HC fp) (cC Ss s₀.heap++pl) σ' H' s/\tn (cnt-n) s.heap/\(∀b∈fp,H' b=none)/\RelV x v/\R (cnt-n-1) x/\W (cnt-n) σ' H'/\
 ∀s'':Shared,(∀b∈Ss,∃o,s''.heap.get? b=some o) ->Inv (X.gen B sc N' code sC HC fp) (cC Ss s''.heap++pl) σ' H' s''->tn (cnt-n) s''.heap->ZE (.send .none) s''
def GK:GenEnd:=λn s₀ r s₁=>r= .ok .next/\n=0/\ ∃σ' H',Inv (X.gen B sc N' code sC HC fp) (cC Ss s₀.heap) σ' H' s₁/\W cnt σ' H'
end
section
variable{X:Cx}{B:Around}{sc:Scope}{N':List Str}{code:Value}{sC:Shared}{HC:Hp}{fp Ss:List Addr}{tn:Nat->Heap->Prop}{cnt:Nat}{R:Nat->V->Prop}{W:Nat->St->Hp->Prop}
variable{elt iter tg:Expr}{pos:Pos}{it:Addr}{J:It}{g:TG}{te:TE}
theorem uz{Ss:List Addr}{h:Heap}{p:Addr×Obj}(hp:p∈cC Ss h):p.1∈Ss:=(kB hp).1
theorem sJ{pl:List (Addr×Obj)}{σ':St}{H' H2:Hp}{s:Shared}(I:Inv (X.gen B sc N' code sC HC fp) pl σ' H2 s)(hn:∀b∈fp,H' b=none)(hd:∀p∈pl,p.1∉fp):∀b∈fp,fO (X.gen B sc N' code sC HC fp) pl H' b:=λb hb=>by
 have ok:=I.ok
 refine⟨hn b hb,(ok.Pz b hb).1,ok.CU b hb,.inl hb,λy c hc=>(ok.Pz b hb).2 y c hc,λp hp e=> ?_⟩
 have xR:p∈pl:=by simpa [Cx.gen]using hp
 exact hd p xR (by rw[e];exact hb)
theorem NJ(hco:sc.isCoroutine=false)(hc:X.calm=true)(T:Turn X.prog X.w X.K tg J fp it tn)(hg:PG (X.gen B sc N' code sC HC fp) tg g)(he:PE (X.gen B sc N' code sC HC fp) elt te)(zV:∀b∈fp,b∉Ss)
  (turn:∀i σ' H',i<cnt->W i σ' H'->J.go i H'/\ ∀x H2,J.xU i H' x H2->g x σ' H2 λσ3 H3=>te σ3 H3 λv H4=>R i v/\W (i+1) σ3 H4)
  (stop:∀σ' H',W cnt σ' H'->J.stop cnt H'):
  ∀(n i:Nat) (σ':St) (H':Hp) (s₀ s:Shared),n+i=cnt->W i σ' H'->Inv (X.gen B sc N' code sC HC fp) (cC Ss s₀.heap) σ' H' s->tn i s.heap->(∀b∈fp,H' b=none) ->
   Seg (model X.prog X.w) B (GK X B sc N' code sC HC fp Ss cnt W) (sI X B sc N' code sC HC fp Ss tn cnt R W) n s₀ (.compLoop (.GeneratorExp elt [⟨tg,iter,[],0⟩] sc pos) 0 (.ref it) .none (X.gen B sc N' code sC HC fp).env)
    ((model X.prog X.w).den (.compLoop (.GeneratorExp elt [⟨tg,iter,[],0⟩] sc pos) 0 (.ref it) .none (X.gen B sc N' code sC HC fp).env)) [] s:=by
 have Rb:∀{h:Heap},∀p∈cC Ss h,p.1∉fp:=λp hp hb=>zV p.1 hb (uz hp)
 intro n
 induction n with
 |zero=>
  intro i σ' H' s₀ s hn w I st fr
  obtain rfl:i=cnt:=by omega
  show Seg _ B _ _ _ s₀ _ ((compTurn (.GeneratorExp elt [⟨tg,iter,[],0⟩] sc pos) 0 (.ref it) .none (X.gen B sc N' code sC HC fp).env).onRaise (leaving (X.gen B sc N' code sC HC fp).env)) [] s
  rw[compTurn_gen,Sem.onRaise_eq_wrap]
  refine seg_bind_wrap (wpAny_standAt ?_)
  refine seg_bind_wrap ?_
  rw[fV]
  refine fZ (T.done (X.gen B sc N' code sC HC fp) rfl rfl rfl hc i _ s σ' H' _ I (sJ I fr Rb) st (stop σ' H' w)) λr s1 ⟨hr,I1⟩=> ?_
  subst hr
  exact seg_end (.ok .next) ⟨rfl,rfl,σ',H',I1,w⟩
 |succ n ih=>
  intro i σ' H' s₀ s hn w I st fr
  have hi:i<cnt:=by omega
  obtain⟨go,step⟩:=turn i σ' H' hi w
  show Seg _ B _ _ _ s₀ _ ((compTurn (.GeneratorExp elt [⟨tg,iter,[],0⟩] sc pos) 0 (.ref it) .none (X.gen B sc N' code sC HC fp).env).onRaise (leaving (X.gen B sc N' code sC HC fp).env)) [] s
  rw[compTurn_gen,Sem.onRaise_eq_wrap]
  refine seg_bind_wrap (wpAny_standAt ?_)
  refine seg_bind_wrap ?_
  rw[fV]
  refine fZ (T.item (X.gen B sc N' code sC HC fp) rfl rfl rfl hc i _ s σ' H' _ I (sJ I fr Rb) st go) λr s1 ⟨u,hr,h1⟩=> ?_
  subst hr
  refine seg_bind_wrap ?_
  rw[fV]
  refine wpAny_mono h1 (λ_ s2 ⟨x,H2,I2,r2,y2,st2,Rc⟩=> ?_) λ_ _ z=>z
  have Wu:=I2.pinned (sJ I2 Rc Rb) (T.obj _ _ st2)
  refine seg_bind_wrap ?_
  rw[fV]
  refine wpAny_mono (hg _ s2 σ' H2 x u _ Wu r2 (step x H2 y2)) (λ_ s3 ⟨σ3,H3,I3,q3⟩=> ?_) λ_ _ z=>z.elim
  simp only[List.forIn_nil,if_true]
  refine seg_bind_wrap (wpAny_pure ?_)
  have hy:∀v,yieldOut (X.gen B sc N' code sC HC fp).env v=yieldValue v:=λv=>by
   have q:(X.gen B sc N' code sC HC fp).env.scope.isCoroutine=false:=hco
   simp only[yieldOut,q,Bool.false_eq_true,if_false]
  simp only[if_true,hy]
  rw[Sem.bind_eq_wrap',Sem.bind_eq_wrap',Sem.wrap_wrap,Sem.wrap_wrap]
  refine seg_wrap ?_
  rw[fV]
  refine wpAny_mono (he _ s3 σ3 H3 _ I3 q3) (λv s4 ⟨y,H4,I4,r4,hR,w4⟩=> ?_) λ_ _ z=>z.elim
  have TV:tn (i+1) s4.heap:=T.keep _ _ _ st2 λb hb o e=>(I4.pin (b,o) (List.mem_append_right _ (List.mem_append_right _ (bE hb e)))).1
  have Rf:∀b∈fp,H4 b=none:=λb hb=>by
   obtain⟨o,e,d⟩:=T.obj _ _ st2 b hb
   exact(I4.pin (b,o) (List.mem_append_right _ (List.mem_append_right _ (bE hb e)))).2.1
  have ei:cnt-n=i+1:=by omega
  refine seg_at (seg_yield rfl rfl rfl ⟨[],σ3,H4,y,(λ_ h=>nomatch h),(by rw[List.append_nil];exact I4.iE),by rw[ei];exact TV,Rf,r4,by rw[ei];exact hR,by rw[ei];exact w4,λs'' _ Jh st''=> ?_⟩)
  rw[ei]at st''
  rw[List.append_nil]at Jh
  exact seg_again rfl (ih (i+1) σ3 H4 s'' s'' (by omega) w4 Jh st'' Rf)
end
theorem JQ{s:Shared}{g:Nat}{gs:GenState}(h:s.gens[g]?=some .running):(s.setGen g gs).setGen g .running=s:=by
 obtain⟨hh,gens,d,t,os⟩:=s
 have hlt:g<gens.size:=by
  rcases Nat.lt_or_ge g gens.size with q|q
  ·exact q
  ·have z:gens[g]?=none:=Array.getElem?_eq_none q
   have h':gens[g]?=some .running:=h
   rw[z]at h';cases h'
 have q:(gens.setIfInBounds g gs).setIfInBounds g .running=gens:=by
  apply Array.ext_getElem?
  intro i
  by_cases e:g=i
  ·subst e
   rw[Array.getElem?_setIfInBounds_self_of_lt (by simpa using hlt)]
   exact h.symm
  ·rw[Array.getElem?_setIfInBounds_ne e,Array.getElem?_setIfInBounds_ne e]
 show({heap:=hh,gens:=(gens.setIfInBounds g gs).setIfInBounds g .running,drawn:=d,toks:=t,os:=os}:Shared)=_
 rw[q]
theorem kj:∀{Ss:List Addr} {h h':Heap},(∀b∈Ss,∃o,h.get? b=some o/\h'.get? b=some o) ->cC Ss h'=cC Ss h
 | [],_,_,_=>rfl
 |b::r,h,h',k=>by
  obtain⟨o,e1,e2⟩:=k b List.mem_cons_self
  unfold cC
  rw[List.filterMap_cons,List.filterMap_cons,e1,e2]
  show(b,o)::cC r h'=(b,o)::cC r h
  rw[kj λc hc=>k c (List.mem_cons_of_mem _ hc)]
section
variable(X:Cx)(B:Around)(sc:Scope)(N':List Str)(code:Value)(sC:Shared)(HC:Hp)(fp Ss:List Addr)(tn:Nat->Heap->Prop)(cnt:Nat)(R:Nat->V->Prop)(W:Nat->St->Hp->Prop)
structure vQ(a:Addr)(i:Nat)(s:Shared):Prop where
 gen:s.heap.IsGen a sC.gens.size
 ex:∃gs pl σ' H',(∀p∈pl,p.1∉Ss)/\s.gens[sC.gens.size]?=some gs/\gs.bare=true/\Inv (X.gen B sc N' code sC HC fp) (cC Ss s.heap++pl) σ' H' (s.setGen sC.gens.size .running)/\tn i s.heap/\(∀b∈fp,H' b=none)/\W i σ' H'/\
  ∀s'':Shared,(∀b∈Ss,∃o,s''.heap.get? b=some o) ->Inv (X.gen B sc N' code sC HC fp) (cC Ss s''.heap++pl) σ' H' s''->tn i s''.heap->gs.Goes (model X.prog X.w) B (GK X B sc N' code sC HC fp Ss cnt W) (sI X B sc N' code sC HC fp Ss tn cnt R W) (cnt-i) (.send .none) s''
end
section
variable{X:Cx}{D:Around}{sc:Scope}{N':List Str}{code:Value}{sC:Shared}{HC:Hp}{fp Ss:List Addr}{tn:Nat->Heap->Prop}{cnt:Nat}{R:Nat->V->Prop}{W:Nat->St->Hp->Prop}{a:Addr}{i:Nat}{s:Shared}
theorem Inv.Bq{pl:List (Addr×Obj)}{σ':St}{H':Hp}{s':Shared}(I:Inv X pl σ' H' s'):s'.heap.NoLimit:=I.nolimit
theorem Dj{B:Around}{pl:List (Addr×Obj)}{σ':St}{H':Hp}{s':Shared}(I:Inv (X.gen B sc N' code sC HC fp) pl σ' H' s'):s'.gens[sC.gens.size]?=some .running:=by
 have e:=I.bare.old sC.gens.size (by simp[Cx.gen])
 rw[e]
 show(sC.gens.push .running)[sC.gens.size]?=_
 simp
theorem vQ.item{Q:Option Value->Shared->Prop}{E:Value->Shared->Prop}(G:vQ X D.in1 sc N' code sC HC fp Ss tn cnt R W a i s)(hh:D.handled=none)(hroom:D.depth<recursionLimit)(ha:a∈Ss)(hs:∀b∈Ss,∃o,s.heap.get? b=some o)(hi:i<cnt)
  (hQ:∀v x s',RelV x v->R i x->vQ X D.in1 sc N' code sC HC fp Ss tn cnt R W a (i+1) s'->(∀b∈Ss,∀o,s.heap.get? b=some o->s'.heap.get? b=some o) ->Q (some v) s'):
  wpAny (model X.prog X.w) D (pyNext (.ref a)) Q E s:=by
 obtain⟨gs,pl,σ',H',hpl,e1,e2,I,st,fr,w,go⟩:=G.ex
 have gg:=go (s.setGen sC.gens.size .running) hs I st
 obtain⟨m,hm⟩:∃m,cnt-i=m+1:=⟨cnt-i-1,by omega⟩
 rw[hm]at gg
 refine wpAny_pyNext_genexpQ (P:=λn s₀ s₁=>n=0/\ ∃σ' H',Inv (X.gen D.in1 sc N' code sC HC fp) (cC Ss s₀.heap) σ' H' s₁/\W cnt σ' H') hh I.Bq hroom G.gen e1 gg (λv s1 gs' hb hy=> ?_) (λs1 hp=> ?_)
 ·obtain⟨Vf,σ1,H1,x,Rg,I1,st1,Rh,r1,hR,w1,Sj⟩:=hy
  have ei:cnt- (m+1-1)=i+1:=by omega
  rw[ei]at st1 w1 Sj hR
  have kp:∀b∈Ss,∀o,s.heap.get? b=some o->s1.heap.get? b=some o:=λb hb o e=>(I1.pin (b,o) (List.mem_append_right _ (List.mem_append_left _ (bE hb e)))).1
  have eq:cC Ss s1.heap=cC Ss s.heap:=kj λb hb=>let⟨o,e⟩:=hs b hb;⟨o,e,kp b hb o e⟩
  have run:=Dj I1
  refine hQ v x _ r1 hR ⟨?_,gs',Vf,σ1,H1,Rg,setGen_self run,hb,?_,st1,Rh,w1,?_⟩ kp
  ·obtain⟨o,nm,qn,eo,r⟩:=G.gen
   exact⟨o,nm,qn,kp a ha o eo,r⟩
  ·rw[JQ run]
   show Inv _ (cC Ss s1.heap++Vf) σ1 H1 s1
   rw[eq]
   exact I1
  ·have e3:cnt- (i+1)=m:=by omega
   rw[e3]
   exact Sj
 ·exact absurd hp.1 (by omega)
theorem vQ.done{pins:List (Addr×Obj)}{σ:St}{Q:Option Value->Shared->Prop}{E:Value->Shared->Prop}(G:vQ X D.in1 sc N' code sC HC fp Ss tn cnt R W a cnt s)(IC:Inv X pins σ HC sC)(hf:∀b∈fp,fO X pins HC b)(hh:D.handled=none)(hroom:D.depth<recursionLimit)(hs:∀b∈Ss,∃o,s.heap.get? b=some o)
  (hQ:∀s' σ' H',Inv X pins σ H' s'->W cnt σ' H'->Q none s'):
  wpAny (model X.prog X.w) D (pyNext (.ref a)) Q E s:=by
 obtain⟨gs,pl,σ',H',hpl,e1,e2,I,st,fr,w,go⟩:=G.ex
 have gg:=go (s.setGen sC.gens.size .running) hs I st
 rw[Nat.sub_self]at gg
 refine wpAny_pyNext_genexpQ (P:=λn s₀ s₁=>n=0/\ ∃σ' H',Inv (X.gen D.in1 sc N' code sC HC fp) (cC Ss s₀.heap) σ' H' s₁/\W cnt σ' H') hh I.Bq hroom G.gen e1 gg (λv s1 gs' hb hy=> ?_) (λs1 hp h' k=> ?_)
 ·obtain⟨Vf,σ1,H1,x,Rg,I1,st1,Rh,r1,hR,w1,Sj⟩:=hy
  have kp:∀b∈Ss,∀o,s.heap.get? b=some o->s1.heap.get? b=some o:=λb hb o e=>(I1.pin (b,o) (List.mem_append_right _ (List.mem_append_left _ (bE hb e)))).1
  have eq:cC Ss s1.heap=cC Ss s.heap:=kj λb hb=>let⟨o,e⟩:=hs b hb;⟨o,e,kp b hb o e⟩
  exact False.elim (Sj s1 (λb hb=>let⟨o,e⟩:=hs b hb;⟨o,kp b hb o e⟩) (by rw[eq];exact I1) st1)
 ·obtain⟨_,σ1,H1,I1,w1⟩:=hp
  have I2:=Inv.JP (gs:= .finished) IC hf rfl I1
  exact hQ _ σ1 H1 (I2.kept (t':=s1.toks) k) w1
end
section
variable{X:Cx}{B:Around}{sc:Scope}{N':List Str}{code:Value}{sC:Shared}{HC:Hp}{fp Ss:List Addr}{tn:Nat->Heap->Prop}{cnt:Nat}{R:Nat->V->Prop}{W:Nat->St->Hp->Prop}
variable{elt iter tg:Expr}{pos:Pos}{it:Addr}{J:It}{g:TG}{te:TE}
theorem JR(hco:sc.isCoroutine=false)(hc:X.calm=true)(T:Turn X.prog X.w X.K tg J fp it tn)(hg:PG (X.gen B sc N' code sC HC fp) tg g)(he:PE (X.gen B sc N' code sC HC fp) elt te)(zV:∀b∈fp,b∉Ss)
  (turn:∀i σ' H',i<cnt->W i σ' H'->J.go i H'/\ ∀x H2,J.xU i H' x H2->g x σ' H2 λσ3 H3=>te σ3 H3 λv H4=>R i v/\W (i+1) σ3 H4)
  (stop:∀σ' H',W cnt σ' H'->J.stop cnt H'){σ':St}{H':Hp}{s:Shared}(w:W 0 σ' H')(I:Inv (X.gen B sc N' code sC HC fp) (cC Ss s.heap) σ' H' s)(st:tn 0 s.heap)(fr:∀b∈fp,H' b=none):
  Seg (model X.prog X.w) B (GK X B sc N' code sC HC fp Ss cnt W) (sI X B sc N' code sC HC fp Ss tn cnt R W) cnt s (.compStart (.GeneratorExp elt [⟨tg,iter,[],0⟩] sc pos) 0 (.ref it) .none (X.gen B sc N' code sC HC fp).env)
   ((model X.prog X.w).den (.compStart (.GeneratorExp elt [⟨tg,iter,[],0⟩] sc pos) 0 (.ref it) .none (X.gen B sc N' code sC HC fp).env)) [] s:=by
 have lp:=NJ (iter:=iter) (pos:=pos) hco hc T hg he zV turn stop cnt 0 σ' H' s s (Nat.add_zero _) w I st fr
 show Seg _ B _ _ _ s _ ((compStart (.GeneratorExp elt [⟨tg,iter,[],0⟩] sc pos) 0 (.ref it) .none (X.gen B sc N' code sC HC fp).env).onRaise (leaving (X.gen B sc N' code sC HC fp).env)) [] s
 unfold compStart
 rw[Sem.onRaise_eq_wrap]
 show Seg _ B _ _ _ s _ ((ask>>=_).wrap _ _ _ _) [] s
 refine seg_bind_wrap (wpAny_askSetting ?_)
 split
 ·exact seg_again rfl lp
 ·first
   |exact seg_bind_wrap (wpAny_rule (seg_bind_wrap (wpAny_standAt (seg_bind_wrap (T.self _ 0 s _ _ st (seg_again rfl lp))))))
   |(refine seg_bind_wrap (wpAny_rule ?_);(show Seg _ B _ _ _ s _ ((standAt iter.pos>>=_).wrap _ _ _ _) [] s);exact seg_bind_wrap (wpAny_standAt (seg_bind_wrap (T.self _ 0 s _ _ st (seg_again rfl lp)))))
end
def vR(k:Nat)(g:TG)(te:TE)(σ:St)(F:Nat->(Nat->V->Prop) ->(Nat->St->Hp->Prop) ->Prop)(J:It)(H:Hp):Prop:=∃(cnt:Nat) (R:Nat->V->Prop) (W:Nat->St->Hp->Prop),W 0 (List.replicate k none++σ) H/\
 (∀i σ' H',i<cnt->W i σ' H'->J.go i H'/\ ∀x H2,J.xU i H' x H2->g x σ' H2 λσ3 H3=>te σ3 H3 λv H4=>R i v/\W (i+1) σ3 H4)/\(∀σ' H',W cnt σ' H'->J.stop cnt H')/\F cnt R W
theorem qD(elt target iter:Expr)(ifs:List Expr)(cls:List Comprehension)(scope:Scope)(pos:Pos)(env:Env)(hco:scope.isCoroutine=false):
  eval (.GeneratorExp elt (⟨target,iter,ifs,0⟩::cls) scope pos) env=(do
   let x<-eval iter env
   standAt iter.pos
   let x<-genFold iter env x
   let it<-holding [x] (pyIter x)
   enterFrame
   let cl<-closureFor scope env
   let code<-genexprCode env pos (env.qual++ "<genexpr>") scope
   let bi<-builtinsFor env.globals env.builtins
   let cenv<-newFunctionEnv scope env.globals cl [(".0",it)] (env.qual++ "<genexpr>.") none code none bi
   newGenerator (.compStart (.GeneratorExp elt (⟨target,iter,ifs,0⟩::cls) scope pos) 0 it .none cenv) "<genexpr>" (env.qual++ "<genexpr>")):=by
 rw[arm_eval_GeneratorExp]
 simp only[hco,Bool.false_eq_true,if_false]
 cases iter<;>rfl
section
variable{M:Model}{A:Around}{E:Value->Shared->Prop}{s:Shared}
theorem l6{env:Env}{elt target iter:Expr}{ifs:List Expr}{cls:List Comprehension}{scope:Scope}{cl:List (Str×Addr)}{pos:Pos}{Q:Value->Shared->Prop}
  (hco:scope.isCoroutine=false)(hclos:closureFor scope env=pure cl)(hcell:∀y∈scope.names,y.2≠ .cell)(h0:scope.names.lookup (".0":Str)=some NameKind.local)(hkind:scope.kind= .function)
  (hroom:A.depth<recursionLimit)
  (h:wpAny M A (eval iter env) (λxv s₁=>wpAny M A (pyIter xv) (λit s₂=>s₂.heap.NoLimit/\
   wpAny M A (genexprCode env pos (env.qual++ "<genexpr>") scope) (λcode s₃=>wpAny M A (builtinsFor env.globals env.builtins) (λbi s₄=>
    ∀h',h'.Ns s₄.heap.objs.size (λy=>if y= ".0" then some it else none) ->Heap.SameBut s₄.heap.objs.size (s₄.heap.push {cls:= .type "frame",data:= .dict #[]}) h'->
     Q (.ref h'.objs.size) {s₄ with
      gens:=s₄.gens.push (.fresh (.compStart (.GeneratorExp elt (⟨target,iter,ifs,0⟩::cls) scope pos) 0 it .none (genEnv scope cl s₄.heap.objs.size code bi env))),
      toks:=s₄.toks+1+1+1,
      heap:=h'.push {cls:= .type "generator",data:= .fields #[.int s₄.gens.size 0,.str "<genexpr>" (s₄.toks+1),.str (env.qual++ "<genexpr>") (s₄.toks+1+1)]}}) E s₃) E s₂) E s₁) E s)
  (hs:∀x,genFold iter env x=pure x):
  wpAny M A (eval (.GeneratorExp elt (⟨target,iter,ifs,0⟩::cls) scope pos) env) Q E s:=by
 rw[qD _ _ _ _ _ _ _ _ hco,hclos]
 refine wpAny_bind (wpAny_mono h (λxv s₁ h₁=> ?_) λ_ _ e=>e)
 refine wpAny_bind (wpAny_standAt ?_)
 refine wpAny_bind (wpAny_of_eq (hs xv) ?_)
 refine wpAny_bind (wpAny_holding (wpAny_mono h₁ (λit s₂ h₂=> ?_) λ_ _ e=>e))
 refine wpAny_bind (wpAny_enterFrame h₂.1 hroom ?_)
 refine wpAny_bind (wpAny_pure ?_)
 refine wpAny_bind (wpAny_mono h₂.2 (λcode s₃ h₃=> ?_) λ_ _ e=>e)
 refine wpAny_bind (wpAny_mono h₃ (λbi s₄ h₄=> ?_) λ_ _ e=>e)
 have Ri:∀y∈([((".0":Str),it)]:List (Str×Value)),scope.names.lookup y.1=some NameKind.local:=by
  intro y hy
  rcases List.mem_cons.mp hy with rfl|hy
  ·exact h0
  ·cases hy
 refine wpAny_bind (wpAny_newFunctionEnv hcell Ri (λh' hn' hs'=> ?_) hkind)
 have e:(λy:Str=>([((".0":Str),it)]:List (Str×Value)).reverse.lookup y)=λy:Str=>if y=(".0":Str)then some it else none:=by
  funext y
  by_cases hy:y= ".0"
  ·subst hy;simp
  ·have:(y==(".0":Str))=false:=by simpa using hy
   simp[List.lookup,this,hy]
 rw[e]at hn'
 simp only[newGenerator,newFields]
 refine wpAny_bind (wpAny_newGen (wpAny_bind (wpAny_mkText (wpAny_bind (wpAny_mkText (wpAny_newObj_type ?_ (by size_fits)))))))
 exact h₄ h' hn' hs'
end
section
variable{X:Cx}{sc:Scope}{own N2:List Str}{elt iter tg:Expr}{pos:Pos}{wi:TI}{g:TG}{te:TE}{P:Addr}
theorem Br{ifs:List Expr}{cls:List Comprehension}{Rd:It->Hp->Prop}{pins:List (Addr×Obj)}{σ:St}{H0:Hp}{s0:Shared}{F:Nat->(Nat->V->Prop) ->(Nat->St->Hp->Prop) ->Prop}(more:Nat->List Addr)(hmore:∀a,∀b∈more a,a<b)
  (hc:X.calm=true)(hroom:X.A.depth<recursionLimit)(hi:PI X tg iter wi)(Bk:rj sc.names X.env.scope.names own N2 X.N)(hk:sc.kind= .function)(hco:sc.isCoroutine=false)(hnc:∀y∈sc.names,y.2≠ .cell)(Wv:sc.names.lookup (".0":Str)=some NameKind.local)
  (hcd:gx X.K X.env.code P)(bm:BM X.mg X.base)
  (hs:∀x,genFold iter X.env x=pure x)
  (Ww:∀code s H fp it Nh J,Turn X.prog X.w X.K tg J fp it Nh->(∀b∈fp,H b=none) ->Rd J H-> ∃cnt R W tn,F cnt R W/\W 0 (List.replicate own.length none++σ) H/\(∀h,Nh 0 h↔tn 0 h)/\(∀i h h',tn i h->(∀b∈fp,∀o,h.get? b=some o->h'.get? b=some o) ->tn i h')/\
   ∀Ss:List Addr,(∀b∈fp,b∉Ss) -> ∀s'':Shared,(∀b∈Ss,∃o,s''.heap.get? b=some o) ->Inv (X.gen X.A.in1.in1 sc (own++N2) code s H fp) (cC Ss s''.heap) (List.replicate own.length none++σ) H s''->Nh 0 s''.heap->
    Seg (model X.prog X.w) X.A.in1.in1 (GK X X.A.in1.in1 sc (own++N2) code s H fp Ss cnt W) (sI X X.A.in1.in1 sc (own++N2) code s H fp Ss tn cnt R W) cnt s'' (.compStart (.GeneratorExp elt (⟨tg,iter,ifs,0⟩::cls) sc pos) 0 (.ref it) .none (X.gen X.A.in1.in1 sc (own++N2) code s H fp).env)
     ((model X.prog X.w).den (.compStart (.GeneratorExp elt (⟨tg,iter,ifs,0⟩::cls) sc pos) 0 (.ref it) .none (X.gen X.A.in1.in1 sc (own++N2) code s H fp).env)) [] s'')
  (I0:Inv X pins σ H0 s0)(h:wi σ H0 λJ H=>H P=some (cu P)/\Rd J H):
  wpAny (model X.prog X.w) X.A (eval (.GeneratorExp elt (⟨tg,iter,ifs,0⟩::cls) sc pos) X.env) (λu s5=> ∃a cnt R W sC HC fp code tn,u= .ref a/\s5.heap.objs.size=a+1/\
   vQ X X.A.in1.in1 sc (own++N2) code sC HC fp (a::more a) tn cnt R W a 0 s5/\Inv X pins σ HC sC/\(∀b∈fp,fO X pins HC b)/\sC.heap.objs.size<a/\(∀b∈fp,b<sC.heap.objs.size)/\(∀i h h',tn i h->(∀b∈fp,∀o,h.get? b=some o->h'.get? b=some o) ->tn i h')/\F cnt R W) X.xe s0:=by
 refine l6 hco (rD I0 Bk) hnc Wv hk hroom ?_ hs
 refine wpAny_mono (hi pins s0 σ H0 _ I0 h) (λxv s1 h1=>wpAny_mono h1 (λitv s2 h2=> ?_) λ_ _ e=>e) λ_ _ e=>e
 obtain⟨it,fp,Nh,J,H,e,I,T,st,hf,hP,ZF⟩:=h2
 subst e
 refine⟨I.Bq,Di I hcd hP λcode h3 Yo I3 ext=> ?_⟩
 obtain⟨Vg,ob,b1,b2,b3,b4,b5,b6⟩:=bm
 refine wpAny_builtinsFor (m:=X.mg) (by rw[I3.ok.glob];exact I3.mod.glob.keeps I3.bk) b1 b2 (I3.bk _ _ b3) b4 b5 b6 ?_
 intro h' hn' hs'
 have st3:Nh 0 h3:=T.keep _ _ _ st λb hb o e=>ext b o (λz=>by have:=(hf b hb).1;rw[z,hP]at this;cases this) e
 have Wx:∀b∈fp,∃o,h3.get? b=some o:=λb hb=>let⟨o,e,_⟩:=T.obj 0 _ st3 b hb;⟨o,e⟩
 have PO:∀b o,h3.get? b=some o->h'.get? b=some o:=λb o e=>hs'.extBut b o (Nat.ne_of_lt (Heap.lt_size e)) (Heap.get?_push_of_some _ e)
 have sz':h'.objs.size=h3.objs.size+1:=by rw[hs'.1,Heap.size_push]
 have IG:=λ (hx:Heap) (tk:Nat) (m:Str->Option Value) (hn:hx.Ns h3.objs.size m) (kp:∀b o,h3.get? b=some o->hx.get? b=some o)=>
  NI (B:=X.A.in1.in1) (code:=code) (fp:=fp) (h':=hx) (tk:=tk) I3 Bk hk hnc hf Wx I3.ok.frames (I3.ok.hd hc) hn kp
 obtain⟨cnt,R,W,tn,hF,w0,Yp,yP,sg⟩:=Ww code {s2 with heap:=h3,toks:=Yo} H fp it Nh J T (λb hb=>(hf b hb).1) ZF
 refine⟨h'.objs.size,cnt,R,W,{s2 with heap:=h3,toks:=Yo},H,fp,code,tn,rfl,by rw[Heap.size_push],⟨⟨_,_,_,Heap.get?_push_size _ rfl,rfl,rfl,rfl⟩,.fresh _,[],List.replicate own.length none++σ,H,(λ_ h=>nomatch h),Array.getElem?_push_size ..,rfl,?_,?_,λb hb=>(hf b hb).1,w0,?_⟩,I3,hf,by show h3.objs.size<h'.objs.size;omega,λb hb=>let⟨o,e⟩:=Wx b hb;Heap.lt_size e,yP,hF⟩
 ·have eg:(s2.gens.push (GenState.fresh (.compStart (.GeneratorExp elt (⟨tg,iter,ifs,0⟩::cls) sc pos) 0 (.ref it) .none (genEnv sc (b8 X.env sc.names []) h3.objs.size code builtinsNs X.env)))).setIfInBounds s2.gens.size .running=s2.gens.push .running:=by
   apply Array.ext_getElem?
   intro i
   by_cases e:s2.gens.size=i
   ·subst e
    rw[Array.getElem?_setIfInBounds_self_of_lt (by simp)]
    simp
   ·rw[Array.getElem?_setIfInBounds_ne e,Array.getElem?_push,Array.getElem?_push]
    simp[Ne.symm e]
  simp only[Shared.setGen]
  rw[eg,List.append_nil]
  refine Inv.j9 (pins:=[]) (IG _ _ _ (hn'.push _) (λb o e=>Heap.get?_push_of_some _ (PO b o e))) λp hp=> ?_
  obtain⟨q1,q2⟩:=kB hp
  have ep:p.1=h'.objs.size:=by
   rcases List.mem_cons.mp q1 with z|z
   ·exact z
   ·have l1:=hmore _ _ z
    have l2:=Heap.lt_size q2
    rw[Heap.size_push]at l2
    exact absurd (Nat.lt_of_lt_of_le l1 (Nat.le_of_lt_succ l2)) (Nat.lt_irrefl _)
  have big:h3.objs.size<=p.1:=by rw[ep,sz'];exact Nat.le_succ _
  have Rj:h3.objs.size<p.1:=by rw[ep,sz'];exact Nat.lt_succ_self _
  refine⟨q2,I3.hok.fresh big,Nat.ne_of_gt Rj,λz=> ?_,λv=> ?_⟩
  ·rcases List.mem_cons.mp (I3.vI p.1 z)with y|y
   ·have l:X.env.locals<h3.objs.size:=I3.lt
    rw[y]at Rj
    exact absurd (Nat.lt_trans l Rj) (Nat.lt_irrefl _)
   ·exact I3.SI big y
  ·rw[ep]at q2
   rw[Heap.get?_push_size _ rfl]at q2
   intro z
   rw[<-Option.some.inj q2]at z
   cases z
 ·exact(Yp _).1 (T.keep _ _ _ st3 λb hb o e=>Heap.get?_push_of_some _ (PO b o e))
 ·intro s'' Wy Jh st''
  rw[List.append_nil]at Jh
  refine⟨rfl,?_⟩
  rw[Nat.sub_zero]
  refine sg _ (λb hb z=> ?_) s'' Wy Jh ((Yp _).2 st'')
  have l:b<h3.objs.size:=let⟨o,e⟩:=Wx b hb;Heap.lt_size e
  rcases List.mem_cons.mp z with y|y
  ·rw[y,sz']at l
   exact absurd (Nat.lt_of_succ_lt l) (Nat.lt_irrefl _)
  ·have l2:=hmore _ _ y
   rw[sz']at l2
   exact absurd (Nat.lt_trans (Nat.lt_trans l (Nat.lt_succ_self _)) l2) (Nat.lt_irrefl _)
theorem zW{pins:List (Addr×Obj)}{σ:St}{H0:Hp}{s0:Shared}{F:Nat->(Nat->V->Prop) ->(Nat->St->Hp->Prop) ->Prop}(more:Nat->List Addr)(hmore:∀a,∀b∈more a,a<b)
  (hc:X.calm=true)(hroom:X.A.depth<recursionLimit)(hi:PI X tg iter wi)(Bk:rj sc.names X.env.scope.names own N2 X.N)(hk:sc.kind= .function)(hco:sc.isCoroutine=false)(hnc:∀y∈sc.names,y.2≠ .cell)(Wv:sc.names.lookup (".0":Str)=some NameKind.local)
  (hcd:gx X.K X.env.code P)(bm:BM X.mg X.base)
  (hg:∀code s H fp,PG (X.gen X.A.in1.in1 sc (own++N2) code s H fp) tg g)(he:∀code s H fp,PE (X.gen X.A.in1.in1 sc (own++N2) code s H fp) elt te)
  (hs:∀x,genFold iter X.env x=pure x)(I0:Inv X pins σ H0 s0)(h:wi σ H0 λJ H=>H P=some (cu P)/\vR own.length g te σ F J H):
  wpAny (model X.prog X.w) X.A (eval (.GeneratorExp elt [⟨tg,iter,[],0⟩] sc pos) X.env) (λu s5=> ∃a cnt R W sC HC fp code tn,u= .ref a/\s5.heap.objs.size=a+1/\
   vQ X X.A.in1.in1 sc (own++N2) code sC HC fp (a::more a) tn cnt R W a 0 s5/\Inv X pins σ HC sC/\(∀b∈fp,fO X pins HC b)/\sC.heap.objs.size<a/\(∀b∈fp,b<sC.heap.objs.size)/\(∀i h h',tn i h->(∀b∈fp,∀o,h.get? b=some o->h'.get? b=some o) ->tn i h')/\F cnt R W) X.xe s0:=
 Br (cls:=[]) (Rd:=λJ H=>vR own.length g te σ F J H) more hmore hc hroom hi Bk hk hco hnc Wv hcd bm hs (λcode s H fp it Nh J T hfr ⟨cnt,R,W,w0,turn,stop,hF⟩=>
  ⟨cnt,R,W,Nh,hF,w0,λ_=>Iff.rfl,T.keep,λSs hd s'' _ Jh st''=>JR hco hc T (hg code s H fp) (he code s H fp) hd turn stop w0 Jh st'' hfr⟩) I0 h
end
section
variable{X:Cx}{B:Around}{sc:Scope}{N':List Str}{code:Value}{sC:Shared}{HC:Hp}{fp:List Addr}{tn:Nat->Heap->Prop}{cnt:Nat}{R:Nat->V->Prop}{W:Nat->St->Hp->Prop}{a S:Addr}{i:Nat}{s:Shared}
theorem vQ.frame{h':Heap}{tk:Nat}{o':Obj}(G:vQ X B sc N' code sC HC fp [a,S] tn cnt R W a i s)(Fo:a≠S)(hC:sC.heap.objs.size<S)(hfp:∀b∈fp,b≠S)
  (yP:∀i h h',tn i h->(∀b∈fp,∀o,h.get? b=some o->h'.get? b=some o) ->tn i h')(hS:(∃o,s.heap.get? S=some o)∨s.heap.objs.size<=S)
  (keep:∀b o,b≠S->s.heap.get? b=some o->h'.get? b=some o)(e':h'.get? S=some o')(nc:∀v,o'.data≠ .cell v):
  vQ X B sc N' code sC HC fp [a,S] tn cnt R W a i {s with heap:=h',toks:=tk}:=by
 obtain⟨gs,pl,σ',H',hpl,e1,e2,I,st,fr,w,go⟩:=G.ex
 have I1:Inv (X.gen B sc N' code sC HC fp) (cC [a] s.heap++pl) σ' H' (s.setGen sC.gens.size .running):=I.j9 λp hp=>by
  rcases List.mem_append.mp hp with hp|hp
  ·obtain⟨q1,q2⟩:=kB hp
   exact I.pin p (List.mem_append_right _ (List.mem_append_left _ (bE (fp:=[a,S]) (by rw[List.mem_singleton.mp q1];simp) q2)))
  ·exact I.pin p (List.mem_append_right _ (List.mem_append_right _ hp))
 have ZG:S∉(X.gen B sc N' code sC HC fp).fs:=λhb=>by
  obtain⟨_,o,ho,_⟩:=I.ok.uM.mem hb
  exact absurd (Nat.lt_trans (Heap.lt_size ho) hC) (Nat.lt_irrefl _)
 have ea:∃oa,s.heap.get? a=some oa:=let⟨o,_,_,q,_⟩:=G.gen;⟨o,q⟩
 obtain⟨oa,ea⟩:=ea
 have I2:Inv (X.gen B sc N' code sC HC fp) (cC [a] s.heap++pl) σ' H' {s.setGen sC.gens.size .running with heap:=h',toks:=tk}/\H' S=none:=by
  rcases hS with⟨o,eo⟩|hS
  ·have pS:=I.pin (S,o) (List.mem_append_right _ (List.mem_append_left _ (bE (fp:=[a,S]) (by simp) eo)))
   refine⟨I1.turned (it:=S) (h':=h') (t':=tk) keep pS.2.1 (Nat.ne_of_gt hC) (.inr (Nat.le_of_lt hC)) (λy c hc z=> ?_) (λp hp z=> ?_),pS.2.1⟩
   ·obtain⟨v,oc,q1,q2⟩:=I.cell y c hc
    rw[z]at q1
    have Yq:s.heap.get? S=some oc:=q1
    rw[eo]at Yq
    have q3:o=oc:=Option.some.inj Yq
    exact pS.2.2.2.2 v (by rw[q3];exact q2)
   ·have xR:p∈cC [a] s.heap++pl:=hp
    rcases List.mem_append.mp xR with xR|xR
    ·exact Fo (by rw[<-z,List.mem_singleton.mp (kB xR).1])
    ·exact hpl p xR (by rw[z];simp)
  ·refine⟨I1.kept (h':=h') (t':=tk) λb o e=>keep b o (λz=> ?_) e,I.hok.fresh hS⟩
   exact absurd (Nat.lt_of_lt_of_le (Heap.lt_size e) (by rw[z];exact hS)) (Nat.lt_irrefl _)
 obtain⟨I2,ZH⟩:=I2
 refine⟨(let⟨o,nm,qn,q,r⟩:=G.gen;⟨o,nm,qn,keep a o Fo q,r⟩),gs,pl,σ',H',hpl,e1,e2,I2.j9 λp hp=> ?_,yP _ _ _ st λb hb o e=>keep b o (hfp b hb) e,fr,w,go⟩
 refine(List.mem_append.mp hp).elim (λhp=> ?_) (λhp=>I2.pin p (List.mem_append_right _ (List.mem_append_right _ hp)))
 obtain⟨q1,q2⟩:=kB hp
 rcases List.mem_cons.mp q1 with z|z
 ·have q:=I2.pin (a,oa) (List.mem_append_right _ (List.mem_append_left _ (bE (fp:=[a]) (by simp) ea)))
  have TX:h'.get? p.1=some p.2:=q2
  rw[z,keep a oa Fo ea]at TX
  have q3:oa=p.2:=Option.some.inj TX
  have ep:p=(a,oa):=by rw[<-z,q3]
  rw[ep]
  exact q
 ·have z':p.1=S:=List.mem_singleton.mp z
  have TX:h'.get? p.1=some p.2:=q2
  rw[z',e']at TX
  have q3:o'=p.2:=Option.some.inj TX
  refine⟨q2,by rw[z'];exact ZH,by rw[z'];exact Nat.ne_of_gt hC,by rw[z'];exact ZG,by rw[<-q3];exact nc⟩
end
section
variable{X:Cx}{sc:Scope}{N':List Str}{code:Value}{sC:Shared}{HC:Hp}{fp:List Addr}{tn:Nat->Heap->Prop}{cnt:Nat}{R:Nat->V->Prop}{W:Nat->St->Hp->Prop}{a S:Addr}{pins:List (Addr×Obj)}{σ:St}{Rr:Result->Shared->Prop}
theorem GL(IC:Inv X pins σ HC sC)(hf:∀b∈fp,fO X pins HC b)(hh:X.A.handled=none)(hroom:X.A.depth<recursionLimit)(Fo:a≠S)(hC:sC.heap.objs.size<S)(hfp:∀b∈fp,b≠S)
  (yP:∀i h h',tn i h->(∀b∈fp,∀o,h.get? b=some o->h'.get? b=some o) ->tn i h')(val:Nat->Int)(hval:∀i v,i<cnt->R i v->v= .int (val i)):∀(k i:Nat) (s:Shared) (tA:Tok) (c:Nat) (st:Int),(st=0∨st=2) ->cnt-i=k->i<=cnt->
  vQ X X.A.in1.in1 sc N' code sC HC fp [a,S] tn cnt R W a i s->s.heap.get? S=some {cls:= .type "list",dict:=none,data:= .seq #[.int (preSum val i) tA] c,slots:= #[]} ->
  (∀s' t' σ' H',Inv X pins σ H' s'->W cnt σ' H'->Rr (.ok (.ret (.int (preSum val cnt) t'))) s') ->codeAny (model X.prog X.w) X.A (.builtin "sum.loop" ⟨[.ref a,.ref S,rawInt st,rawInt 0],[]⟩) Rr s:=by
 intro k
 induction k with
 |zero=>
  intro i s tA c st hst hk hi G hS hR
  obtain rfl:i=cnt:=by omega
  refine codeAny_builtin PySem.F.entry_sum_loop (by
   rw[Around.under_plainId PySem.F.plain_sum_loop _]
   show wpAny _ X.A.in1 (seqItems? (.ref S)>>=_) _ _ s
   refine wpAny_bind (wpAny_seqItems hS rfl ?_)
   show wpAny _ X.A.in1 (tryCatch (pyNext (.ref a)) _>>=_) _ _ s
   have ex:∀b∈ [a,S],∃o,s.heap.get? b=some o:=λb hb=>by
    rcases List.mem_cons.mp hb with z|z
    ·obtain⟨o,_,_,q,_⟩:=G.gen;rw[z];exact⟨o,q⟩
    ·rw[List.mem_singleton.mp z];exact⟨_,hS⟩
   exact wpAny_bind (wpAny_tryCatch (G.done (D:=X.A.in1) IC hf hh hroom ex λs' σ' H' I' w'=>wpAny_pure (hR s' tA σ' H' I' w'))))
 |succ k ih=>
  intro i s tA c st hst hk hi G hS hR
  have hlt:i<cnt:=by omega
  have ex:∀b∈ [a,S],∃o,s.heap.get? b=some o:=λb hb=>by
   rcases List.mem_cons.mp hb with z|z
   ·obtain⟨o,_,_,q,_⟩:=G.gen;rw[z];exact⟨o,q⟩
   ·rw[List.mem_singleton.mp z];exact⟨_,hS⟩
  refine codeAny_builtin PySem.F.entry_sum_loop (by
   rw[Around.under_plainId PySem.F.plain_sum_loop _]
   show wpAny _ X.A.in1 (seqItems? (.ref S)>>=_) _ _ s
   refine wpAny_bind (wpAny_seqItems hS rfl ?_)
   show wpAny _ X.A.in1 (tryCatch (pyNext (.ref a)) _>>=_) _ _ s
   refine wpAny_bind (wpAny_tryCatch (G.item (D:=X.A.in1) hh hroom (by simp) ex hlt λv x s' rx NK G' kp=> ?_))
   obtain rfl:=hval i x hlt NK
   obtain⟨t,rfl⟩:=rx
   have hS':=kp S (by simp) _ hS
   have again:∀(h':Heap) (tk:Nat) (c':Nat) (tB:Tok) (st':Int),(st'=0∨st'=2) ->(∀b o,b≠S->s'.heap.get? b=some o->h'.get? b=some o) ->h'.get? S=some {cls:= .type "list",dict:=none,data:= .seq #[.int (preSum val i+val i) tB] c',slots:= #[]} ->
     codeAny (model X.prog X.w) X.A (.builtin "sum.loop" ⟨[.ref a,.ref S,rawInt st',rawInt 0],[]⟩) Rr {s' with heap:=h',toks:=tk}:=λh' tk c' tB st' Wz ZI e'=>
    ih (i+1) _ tB c' st' Wz (by omega) hlt (G'.frame Fo hC hfp yP (.inl ⟨_,hS'⟩) ZI e' (λv z=>by cases z)) e' hR
   rcases hst with rfl|rfl
   ·show wpAny _ X.A.in1 (if(_:Bool)=true then(mkInt (preSum val i+val i)>>=_)else _) _ _ _
    split
    ·refine wpAny_bind (wpAny_mkInt ?_)
     show wpAny _ X.A.in1 (updateSeq S (λ_=> #[.int (preSum val i+val i) s'.toks])>>=_) _ _ _
     exact wpAny_bind (wpAny_updateSeq hS' rfl (wpAny_pure ⟨plainId_quiet PySem.F.plain_sum_loop _,again _ _ _ _ 0 (.inl rfl) (λb o hb e=>(Heap.get?_update_other _ _ (Ne.symm hb)).trans e) (Heap.get?_update_self _ hS' rfl)⟩))
    ·refine wpAny_bind (wpAny_rule (wpAny_bind (wpAny_attempt (wpAny_holding (wpAny_add_int ?_)))))
     show wpAny _ X.A.in1 (updateSeq S (λ_=> #[.int (preSum val i+val i) s'.toks])>>=_) _ _ _
     refine wpAny_bind (wpAny_updateSeq hS' rfl ?_)
     have JS:=Heap.get?_update_self (Obj.mapSeq λ_=> #[Value.int (preSum val i+val i) s'.toks]) hS' rfl
     exact wpAny_bind (wpAny_letGo (wpAny_bind (wpAny_updateSeq JS rfl (wpAny_pure ⟨plainId_quiet PySem.F.plain_sum_loop _,again _ _ _ _ 2 (.inr rfl) (λb o hb e=>(Heap.get?_update_other _ _ (Ne.symm hb)).trans ((Heap.get?_update_other _ _ (Ne.symm hb)).trans e)) (Heap.get?_update_self _ JS rfl)⟩))))
   ·show wpAny _ X.A.in1 ((holding [Value.int (val i) t] (binaryOp .Add (.int (preSum val i) tA) (.int (val i) t))).attempt>>=_) _ _ _
    refine wpAny_bind (wpAny_attempt (wpAny_holding (wpAny_add_int ?_)))
    show wpAny _ X.A.in1 (updateSeq S (λ_=> #[.int (preSum val i+val i) s'.toks])>>=_) _ _ _
    refine wpAny_bind (wpAny_updateSeq hS' rfl ?_)
    have JS:=Heap.get?_update_self (Obj.mapSeq λ_=> #[Value.int (preSum val i+val i) s'.toks]) hS' rfl
    exact wpAny_bind (wpAny_letGo (wpAny_bind (wpAny_updateSeq JS rfl (wpAny_pure ⟨plainId_quiet PySem.F.plain_sum_loop _,again _ _ _ _ 2 (.inr rfl) (λb o hb e=>(Heap.get?_update_other _ _ (Ne.symm hb)).trans ((Heap.get?_update_other _ _ (Ne.symm hb)).trans e)) (Heap.get?_update_self _ JS rfl)⟩)))))
theorem GN{Q:Value->Shared->Prop}{E:Value->Shared->Prop}{s:Shared}(IC:Inv X pins σ HC sC)(hf:∀b∈fp,fO X pins HC b)(hh:X.A.handled=none)(hroom:X.A.depth<recursionLimit)(hsz:s.heap.objs.size=a+1)(hC:sC.heap.objs.size<a)(hlt:∀b∈fp,b<sC.heap.objs.size)
  (yP:∀i h h',tn i h->(∀b∈fp,∀o,h.get? b=some o->h'.get? b=some o) ->tn i h')(val:Nat->Int)(hval:∀i v,i<cnt->R i v->v= .int (val i))(G:vQ X X.A.in1.in1 sc N' code sC HC fp [a,a+1] tn cnt R W a 0 s)
  (hQ:∀s' t' σ' H',Inv X pins σ H' s'->W cnt σ' H'->Q (.int (preSum val cnt) t') s'):wpAny (model X.prog X.w) X.A (call (.builtin "sum") [.ref a]) Q E s:=by
 refine call_function_tree PySem.F.kind_sum PySem.F.plain_sum PySem.F.entry_sum (PySem.F.args_sum1 _) ?_
 unfold Builtin.«sum»
 simp only[List.length_cons,List.length_nil]
 rw[if_neg (by decide)]
 refine wpAny_bind (wpAny_of_eq (a:=[none]) rfl ?_)
 refine wpAny_bind (wpAny_pyIter_gen G.gen ?_)
 refine wpAny_bind (wpAny_mkInt (wpAny_bind (wpAny_pure ?_)))
 simp only[List.forIn_cons,List.forIn_nil]
 refine wpAny_bind (wpAny_bind (wpAny_bind (wpAny_isInstance (T:= "int") (b:=false) (typeIs_int _ _ _) PySem.sub_int_str ?_)))
 simp only[Bool.false_eq_true,if_false]
 refine wpAny_pure (wpAny_bind (wpAny_bind (wpAny_isInstance (T:= "int") (b:=false) (typeIs_int _ _ _) PySem.sub_int_bytes ?_)))
 simp only[Bool.false_eq_true,if_false]
 refine wpAny_pure (wpAny_bind (wpAny_bind (wpAny_isInstance (T:= "int") (b:=false) (typeIs_int _ _ _) PySem.sub_int_bytearray ?_)))
 simp only[Bool.false_eq_true,if_false]
 refine wpAny_pure (wpAny_pure (wpAny_bind (wpAny_newObj_type ?_)))
 have Fo:a≠a+1:=Nat.ne_of_lt (Nat.lt_succ_self _)
 have PR:sC.heap.objs.size<a+1:=Nat.lt_succ_of_lt hC
 have Sk:∀b∈fp,b≠a+1:=λb hb=>Nat.ne_of_lt (Nat.lt_trans (hlt b hb) PR)
 refine wpAny_pure ⟨plainId_quiet PySem.F.plain_sum_loop _,?_⟩
 have e0:({s with toks:=s.toks+1}:Shared).heap.objs.size=a+1:=hsz
 dsimp only
 rw[hsz]
 have eS:(s.heap.push {cls:= .type "list",dict:=none,data:= .seq #[Value.int 0 s.toks]}).get? (a+1)=some {cls:= .type "list",dict:=none,data:= .seq #[Value.int 0 s.toks]}:=by
  rw[<-hsz];exact Heap.get?_push_size _ rfl
 refine GL IC hf hh hroom Fo PR Sk yP val hval cnt 0 _ s.toks 0 0 (.inl rfl) rfl (Nat.zero_le _) (G.frame Fo PR Sk yP (.inr (Nat.le_of_eq hsz)) (λb o _ e=>Heap.get?_push_of_some _ e) eS (λv z=>by cases z)) eS λs' t' σ' H' I' w'=> ?_
 exact hQ s' t' σ' H' I' w'
end
theorem set_same{s:Shared}{g:Nat}{x y:GenState}(h:s.gens[g]?=some x):(s.setGen g y).setGen g x=s:=by
 obtain⟨hh,gens,d,t,os⟩:=s
 have hlt:g<gens.size:=by
  rcases Nat.lt_or_ge g gens.size with q|q
  ·exact q
  ·have z:gens[g]?=none:=Array.getElem?_eq_none q
   have h':gens[g]?=some x:=h
   rw[z]at h';cases h'
 have q:(gens.setIfInBounds g y).setIfInBounds g x=gens:=by
  apply Array.ext_getElem?
  intro i
  by_cases e:g=i
  ·subst e
   rw[Array.getElem?_setIfInBounds_self_of_lt (by simpa using hlt)]
   exact h.symm
  ·rw[Array.getElem?_setIfInBounds_ne e,Array.getElem?_setIfInBounds_ne e]
 show({heap:=hh,gens:=(gens.setIfInBounds g y).setIfInBounds g x,drawn:=d,toks:=t,os:=os}:Shared)=_
 rw[q]
section
variable{X:Cx}{sc:Scope}{N':List Str}{code:Value}{sC:Shared}{HC:Hp}{fp Ss:List Addr}{tn:Nat->Heap->Prop}{cnt:Nat}{R:Nat->V->Prop}{W:Nat->St->Hp->Prop}{a:Addr}{pins:List (Addr×Obj)}{σ:St}{Rr:Result->Shared->Prop}
theorem vQ.out{B:Around}{i:Nat}{s:Shared}(G:vQ X B sc N' code sC HC fp Ss tn cnt R W a i s)(IC:Inv X pins σ HC sC)(hf:∀b∈fp,fO X pins HC b):∃σ' H',Inv X pins σ H' s/\W i σ' H':=by
 obtain⟨gs,pl,σ',H',hpl,e1,e2,I,st,fr,w,go⟩:=G.ex
 have q:=Inv.JP (gs:=gs) IC hf e2 I
 rw[set_same e1]at q
 exact⟨σ',H',q,w⟩
theorem GO(IC:Inv X pins σ HC sC)(hf:∀b∈fp,fO X pins HC b)(hh:X.A.handled=none)(hroom:X.A.depth<recursionLimit)(bv:Nat->Bool)(hval:∀i v,i<cnt->R i v->v= .bl (bv i)):∀(k i:Nat) (s:Shared),cnt-i=k->i<=cnt->
  vQ X X.A.in1.in1 sc N' code sC HC fp [a] tn cnt R W a i s->(∀j,j<i->bv j=true) ->
  ((∀j,j<cnt->bv j=true) -> ∀s' σ' H',Inv X pins σ H' s'->W cnt σ' H'->Rr (.ok (.ret (.bool true))) s') ->
  (∀j,j<cnt->bv j=false->(∀l,l<j->bv l=true) -> ∀s' σ' H',Inv X pins σ H' s'->W (j+1) σ' H'->Rr (.ok (.ret (.bool false))) s') ->codeAny (model X.prog X.w) X.A (.builtin "all.loop" ⟨[.ref a],[]⟩) Rr s:=by
 intro k
 induction k with
 |zero=>
  intro i s hk hi G hp hT hF
  obtain rfl:i=cnt:=by omega
  have ex:∀b∈ [a],∃o,s.heap.get? b=some o:=λb hb=>by
   obtain⟨o,_,_,q,_⟩:=G.gen;rw[List.mem_singleton.mp hb];exact⟨o,q⟩
  refine codeAny_builtin PySem.F.entry_all_loop (by
   rw[Around.under_plainId PySem.F.plain_all_loop _]
   show wpAny _ X.A.in1 (pyNext (.ref a)>>=_) _ _ s
   exact wpAny_bind (G.done (D:=X.A.in1) IC hf hh hroom ex λs' σ' H' I' w'=>wpAny_bind (wpAny_rule (wpAny_pure (hT hp s' σ' H' I' w')))))
 |succ k ih=>
  intro i s hk hi G hp hT hF
  have hlt:i<cnt:=by omega
  have ex:∀b∈ [a],∃o,s.heap.get? b=some o:=λb hb=>by
   obtain⟨o,_,_,q,_⟩:=G.gen;rw[List.mem_singleton.mp hb];exact⟨o,q⟩
  refine codeAny_builtin PySem.F.entry_all_loop (by
   rw[Around.under_plainId PySem.F.plain_all_loop _]
   show wpAny _ X.A.in1 (pyNext (.ref a)>>=_) _ _ s
   refine wpAny_bind (G.item (D:=X.A.in1) hh hroom (by simp) ex hlt λv x s' rx NK G' kp=> ?_)
   obtain rfl:=hval i x hlt NK
   cases rx
   refine wpAny_bind (wpAny_holding (wpAny_truthy_bool (wpAny_bind (wpAny_letGo ?_))))
   cases hb:bv i with
   |true=>
    simp only[if_true]
    exact wpAny_pure ⟨plainId_quiet PySem.F.plain_all_loop _,ih (i+1) _ (by omega) hlt G' (λj hj=>by
     rcases Nat.lt_or_ge j i with q|q
     ·exact hp j q
     ·rw[show j=i by omega];exact hb) hT hF⟩
   |false=>
    simp only[Bool.false_eq_true,if_false]
    obtain⟨σ',H',I',w'⟩:=G'.out IC hf
    exact wpAny_bind (wpAny_rule (wpAny_pure (hF i hlt hb hp s' σ' H' I' w'))))
theorem GP{Q:Value->Shared->Prop}{E:Value->Shared->Prop}{s:Shared}(IC:Inv X pins σ HC sC)(hf:∀b∈fp,fO X pins HC b)(hh:X.A.handled=none)(hroom:X.A.depth<recursionLimit)(bv:Nat->Bool)(hval:∀i v,i<cnt->R i v->v= .bl (bv i))(G:vQ X X.A.in1.in1 sc N' code sC HC fp [a] tn cnt R W a 0 s)
  (hT:(∀j,j<cnt->bv j=true) -> ∀s' σ' H',Inv X pins σ H' s'->W cnt σ' H'->Q (.bool true) s')
  (hF:∀j,j<cnt->bv j=false->(∀l,l<j->bv l=true) -> ∀s' σ' H',Inv X pins σ H' s'->W (j+1) σ' H'->Q (.bool false) s'):wpAny (model X.prog X.w) X.A (call (.builtin "all") [.ref a]) Q E s:=by
 refine call_function_tree PySem.F.kind_all PySem.F.plain_all PySem.F.entry_all (PySem.F.args_all1 _) ?_
 unfold Builtin.«all»
 refine wpAny_bind (m:=oneArg "all" _) (wpAny_pure (wpAny_bind (wpAny_pyIter_gen G.gen ?_)))
 exact wpAny_pure ⟨plainId_quiet PySem.F.plain_all_loop _,GO IC hf hh hroom bv hval cnt 0 s rfl (Nat.zero_le _) G (λj hj=>absurd hj (Nat.not_lt_zero _)) hT hF⟩
theorem GQ(IC:Inv X pins σ HC sC)(hf:∀b∈fp,fO X pins HC b)(hh:X.A.handled=none)(hroom:X.A.depth<recursionLimit)(bv:Nat->Bool)(hval:∀i v,i<cnt->R i v->v= .bl (bv i)):∀(k i:Nat) (s:Shared),cnt-i=k->i<=cnt->
  vQ X X.A.in1.in1 sc N' code sC HC fp [a] tn cnt R W a i s->(∀j,j<i->bv j=false) ->
  ((∀j,j<cnt->bv j=false) -> ∀s' σ' H',Inv X pins σ H' s'->W cnt σ' H'->Rr (.ok (.ret (.bool false))) s') ->
  (∀j,j<cnt->bv j=true->(∀l,l<j->bv l=false) -> ∀s' σ' H',Inv X pins σ H' s'->W (j+1) σ' H'->Rr (.ok (.ret (.bool true))) s') ->codeAny (model X.prog X.w) X.A (.builtin "any.loop" ⟨[.ref a],[]⟩) Rr s:=by
 intro k
 induction k with
 |zero=>
  intro i s hk hi G hp hT hF
  obtain rfl:i=cnt:=by omega
  have ex:∀b∈ [a],∃o,s.heap.get? b=some o:=λb hb=>by
   obtain⟨o,_,_,q,_⟩:=G.gen;rw[List.mem_singleton.mp hb];exact⟨o,q⟩
  refine codeAny_builtin PySem.F.entry_any_loop (by
   rw[Around.under_plainId PySem.F.plain_any_loop _]
   show wpAny _ X.A.in1 (pyNext (.ref a)>>=_) _ _ s
   exact wpAny_bind (G.done (D:=X.A.in1) IC hf hh hroom ex λs' σ' H' I' w'=>wpAny_bind (wpAny_rule (wpAny_pure (hT hp s' σ' H' I' w')))))
 |succ k ih=>
  intro i s hk hi G hp hT hF
  have hlt:i<cnt:=by omega
  have ex:∀b∈ [a],∃o,s.heap.get? b=some o:=λb hb=>by
   obtain⟨o,_,_,q,_⟩:=G.gen;rw[List.mem_singleton.mp hb];exact⟨o,q⟩
  refine codeAny_builtin PySem.F.entry_any_loop (by
   rw[Around.under_plainId PySem.F.plain_any_loop _]
   show wpAny _ X.A.in1 (pyNext (.ref a)>>=_) _ _ s
   refine wpAny_bind (G.item (D:=X.A.in1) hh hroom (by simp) ex hlt λv x s' rx NK G' kp=> ?_)
   obtain rfl:=hval i x hlt NK
   cases rx
   refine wpAny_bind (wpAny_holding (wpAny_truthy_bool (wpAny_bind (wpAny_letGo ?_))))
   cases hb:bv i with
   |false=>
    simp only[Bool.false_eq_true,if_false]
    exact wpAny_pure ⟨plainId_quiet PySem.F.plain_any_loop _,ih (i+1) _ (by omega) hlt G' (λj hj=>by
     rcases Nat.lt_or_ge j i with q|q
     ·exact hp j q
     ·rw[show j=i by omega];exact hb) hT hF⟩
   |true=>
    simp only[if_true]
    obtain⟨σ',H',I',w'⟩:=G'.out IC hf
    exact wpAny_bind (wpAny_rule (wpAny_pure (hF i hlt hb hp s' σ' H' I' w'))))
theorem GR{Q:Value->Shared->Prop}{E:Value->Shared->Prop}{s:Shared}(IC:Inv X pins σ HC sC)(hf:∀b∈fp,fO X pins HC b)(hh:X.A.handled=none)(hroom:X.A.depth<recursionLimit)(bv:Nat->Bool)(hval:∀i v,i<cnt->R i v->v= .bl (bv i))(G:vQ X X.A.in1.in1 sc N' code sC HC fp [a] tn cnt R W a 0 s)
  (hT:(∀j,j<cnt->bv j=false) -> ∀s' σ' H',Inv X pins σ H' s'->W cnt σ' H'->Q (.bool false) s')
  (hF:∀j,j<cnt->bv j=true->(∀l,l<j->bv l=false) -> ∀s' σ' H',Inv X pins σ H' s'->W (j+1) σ' H'->Q (.bool true) s'):wpAny (model X.prog X.w) X.A (call (.builtin "any") [.ref a]) Q E s:=by
 refine call_function_tree PySem.F.kind_any PySem.F.plain_any PySem.F.entry_any (PySem.F.args_any1 _) ?_
 unfold Builtin.«any»
 refine wpAny_bind (m:=oneArg "any" _) (wpAny_pure (wpAny_bind (wpAny_pyIter_gen G.gen ?_)))
 exact wpAny_pure ⟨plainId_quiet PySem.F.plain_any_loop _,GQ IC hf hh hroom bv hval cnt 0 s rfl (Nat.zero_le _) G (λj hj=>absurd hj (Nat.not_lt_zero _)) hT hF⟩
end
def JT(k:Nat)(P:Addr)(g:TG)(te:TE)(σ:St)(J:It)(H1:Hp)(Q:VK):Prop:=H1 P=some (cu P)/\vR k g te σ (λcnt R W=> ∃val:Nat->Int,(∀i v,i<cnt->R i v->v= .int (val i))/\ ∀σ' H',W cnt σ' H'->Q (.int (preSum val cnt)) H') J H1
def yQ(k:Nat)(P:Addr)(wi:TI)(g:TG)(te:TE):TE:=λσ H Q=>wi σ H λJ H1=>JT k P g te σ J H1 Q
def PU(k:Nat)(P:Addr)(g:TG)(te:TE)(σ:St)(J:It)(H1:Hp)(Q:VK):Prop:=H1 P=some (cu P)/\vR k g te σ (λcnt R W=> ∃bv:Nat->Bool,(∀i v,i<cnt->R i v->v= .bl (bv i))/\
 ((∀j,j<cnt->bv j=true) -> ∀σ' H',W cnt σ' H'->Q (.bl true) H')/\(∀j,j<cnt->bv j=false->(∀l,l<j->bv l=true) -> ∀σ' H',W (j+1) σ' H'->Q (.bl false) H')) J H1
def PV(k:Nat)(P:Addr)(wi:TI)(g:TG)(te:TE):TE:=λσ H Q=>wi σ H λJ H1=>PU k P g te σ J H1 Q
def PX(k:Nat)(P:Addr)(g:TG)(te:TE)(σ:St)(J:It)(H1:Hp)(Q:VK):Prop:=H1 P=some (cu P)/\vR k g te σ (λcnt R W=> ∃bv:Nat->Bool,(∀i v,i<cnt->R i v->v= .bl (bv i))/\
 ((∀j,j<cnt->bv j=false) -> ∀σ' H',W cnt σ' H'->Q (.bl false) H')/\(∀j,j<cnt->bv j=true->(∀l,l<j->bv l=false) -> ∀σ' H',W (j+1) σ' H'->Q (.bl true) H')) J H1
def PY(k:Nat)(P:Addr)(wi:TI)(g:TG)(te:TE):TE:=λσ H Q=>wi σ H λJ H1=>PX k P g te σ J H1 Q
section
variable{X:Cx}{sc:Scope}{own N2:List Str}{elt iter tg:Expr}{gC p pos:Pos}{wi:TI}{g:TG}{te:TE}{P:Addr}
structure Bs(X:Cx)(sc:Scope)(own N2:List Str)(P:Addr):Prop where
 calm:X.calm=true
 room:X.A.depth<recursionLimit
 NL:rj sc.names X.env.scope.names own N2 X.N
 kind:sc.kind= .function
 co:sc.isCoroutine=false
 nc:∀y∈sc.names,y.2≠ .cell
 Vh:sc.names.lookup (".0":Str)=some NameKind.local
 code:gx X.K X.env.code P
 bm:BM X.mg X.base
theorem Fp(K:Bs X sc own N2 P)(Bt:Gl X "sum")(hm:X.mg "sum"=none)(hi:PI X tg iter wi)
  (hg:∀code s H fp,PG (X.gen X.A.in1.in1 sc (own++N2) code s H fp) tg g)(he:∀code s H fp,PE (X.gen X.A.in1.in1 sc (own++N2) code s H fp) elt te)
  (hs:∀x,genFold iter X.env x=pure x:=by intro _;rfl)(hst:starEach [.GeneratorExp elt [⟨tg,iter,[],0⟩] sc gC] X.env=[(false,eval (.GeneratorExp elt [⟨tg,iter,[],0⟩] sc gC) X.env)]:=by rfl):
  PE X (.Call (.Name "sum" p) [.GeneratorExp elt [⟨tg,iter,[],0⟩] sc gC] [] pos) (yQ own.length P wi g te):=by
 intro pins s σ H Q I h
 refine wpAny_Call_Name_kw (kG I Bt hm PyProof.Rows.boot_sum ?_)
 refine PyProof.Rows.callWith_builtin1 ?_ hst rfl
 rw[hst]
 refine Calls.spliced_cons (fZ (zW (pos:=gC) (λa=>[a+1]) (λa b hb=>by rw[List.mem_singleton.mp hb];exact Nat.lt_succ_self _) K.calm K.room hi K.NL K.kind K.co K.nc K.Vh K.code K.bm hg he hs I h) λu s5 h5=> ?_)
 obtain⟨a,cnt,R,W,sC,HC,fp,code,tn,rfl,hsz,G,IC,hf,hC,hlt,yP,val,hval,hq⟩:=h5
 exact Calls.spliced_nil (GN IC hf (I.ok.hd K.calm) K.room hsz hC hlt yP val hval G λs' t' σ' H' I' w'=>⟨.int (preSum val cnt),H',I',⟨_,rfl⟩,hq σ' H' w'⟩)
theorem NN(K:Bs X sc own N2 P)(Bt:Gl X "all")(hm:X.mg "all"=none)(hi:PI X tg iter wi)
  (hg:∀code s H fp,PG (X.gen X.A.in1.in1 sc (own++N2) code s H fp) tg g)(he:∀code s H fp,PE (X.gen X.A.in1.in1 sc (own++N2) code s H fp) elt te)
  (hs:∀x,genFold iter X.env x=pure x:=by intro _;rfl)(hst:starEach [.GeneratorExp elt [⟨tg,iter,[],0⟩] sc gC] X.env=[(false,eval (.GeneratorExp elt [⟨tg,iter,[],0⟩] sc gC) X.env)]:=by rfl):
  PE X (.Call (.Name "all" p) [.GeneratorExp elt [⟨tg,iter,[],0⟩] sc gC] [] pos) (PV own.length P wi g te):=by
 intro pins s σ H Q I h
 refine wpAny_Call_Name_kw (kG I Bt hm PyProof.Rows.boot_all ?_)
 refine PyProof.Rows.callWith_builtin1 ?_ hst rfl
 rw[hst]
 refine Calls.spliced_cons (fZ (zW (pos:=gC) (λa=>[]) (λa b hb=>by cases hb) K.calm K.room hi K.NL K.kind K.co K.nc K.Vh K.code K.bm hg he hs I h) λu s5 h5=> ?_)
 obtain⟨a,cnt,R,W,sC,HC,fp,code,tn,rfl,hsz,G,IC,hf,hC,hlt,yP,bv,hval,hT,hF⟩:=h5
 exact Calls.spliced_nil (GP IC hf (I.ok.hd K.calm) K.room bv hval G (λhb s' σ' H' I' w'=>⟨.bl true,H',I',rfl,hT hb σ' H' w'⟩) (λj hj hb hp s' σ' H' I' w'=>⟨.bl false,H',I',rfl,hF j hj hb hp σ' H' w'⟩))
theorem NO(K:Bs X sc own N2 P)(Bt:Gl X "any")(hm:X.mg "any"=none)(hi:PI X tg iter wi)
  (hg:∀code s H fp,PG (X.gen X.A.in1.in1 sc (own++N2) code s H fp) tg g)(he:∀code s H fp,PE (X.gen X.A.in1.in1 sc (own++N2) code s H fp) elt te)
  (hs:∀x,genFold iter X.env x=pure x:=by intro _;rfl)(hst:starEach [.GeneratorExp elt [⟨tg,iter,[],0⟩] sc gC] X.env=[(false,eval (.GeneratorExp elt [⟨tg,iter,[],0⟩] sc gC) X.env)]:=by rfl):
  PE X (.Call (.Name "any" p) [.GeneratorExp elt [⟨tg,iter,[],0⟩] sc gC] [] pos) (PY own.length P wi g te):=by
 intro pins s σ H Q I h
 refine wpAny_Call_Name_kw (kG I Bt hm PyProof.Rows.boot_any ?_)
 refine PyProof.Rows.callWith_builtin1 ?_ hst rfl
 rw[hst]
 refine Calls.spliced_cons (fZ (zW (pos:=gC) (λa=>[]) (λa b hb=>by cases hb) K.calm K.room hi K.NL K.kind K.co K.nc K.Vh K.code K.bm hg he hs I h) λu s5 h5=> ?_)
 obtain⟨a,cnt,R,W,sC,HC,fp,code,tn,rfl,hsz,G,IC,hf,hC,hlt,yP,bv,hval,hT,hF⟩:=h5
 exact Calls.spliced_nil (GR IC hf (I.ok.hd K.calm) K.room bv hval G (λhb s' σ' H' I' w'=>⟨.bl false,H',I',rfl,hT hb σ' H' w'⟩) (λj hj hb hp s' σ' H' I' w'=>⟨.bl true,H',I',rfl,hF j hj hb hp σ' H' w'⟩))
end
section
variable{X:Cx}{B:Around}{sc:Scope}{N':List Str}{code:Value}{sC:Shared}{HC:Hp}{fp Ss:List Addr}{tn:Nat->Heap->Prop}{R:Nat->V->Prop}{W:Nat->St->Hp->Prop}
variable{elt iter tg Fq Yr:Expr}{pos:Pos}{it:Addr}{J:It}{g g':TG}{te:TE}{Vi:TI}{c1 c2:Nat}
end
section
variable{X:Cx}{B:Around}{sc:Scope}{N':List Str}{code:Value}{sC:Shared}{HC:Hp}{fp Ss:List Addr}{tn:Nat->Heap->Prop}{R:Nat->V->Prop}{W:Nat->St->Hp->Prop}
variable{elt iter tg Fq Yr:Expr}{pos:Pos}{it:Addr}{J:It}{g g':TG}{te:TE}{Vi:TI}{c1 c2:Nat}
end
section
variable{X:Cx}{sc:Scope}{own N2:List Str}{elt iter tg Fq Yr:Expr}{gC p pos:Pos}{wi Vi:TI}{g g':TG}{te:TE}{P:Addr}
end
mutual
inductive zX (K:PySem.W.Frag) (H:Hp):V->PyData->Prop
 |gu:zX K H .gu .none
 |bl (b:Bool):zX K H (.bl b) (.bool b)
 |int (i:Int):zX K H (.int i) (.int i)
 |str (x:Str):zX K H (.str x) (.str x)
 |lst {a:Addr} {xs:List V} {ds:List PyData}:aN K H a xs->xY K H xs ds->zX K H (.ref a) (.list ds)
 |tup {a:Addr} {xs:List V} {ds:List PyData}:p6 K H a xs->xY K H xs ds->zX K H (.ref a) (.tuple ds)
inductive xY (K:PySem.W.Frag) (H:Hp):List V->List PyData->Prop
 |nil:xY K H [] []
 |cons {x:V} {d:PyData} {xs:List V} {ds:List PyData}:zX K H x d->xY K H xs ds->xY K H (x::xs) (d::ds)
end
section
variable{X:Cx}{pins:List (Addr×Obj)}{σ:St}{H:Hp}{s:Shared}
mutual
theorem kK(I:Inv X pins σ H s):∀{x:V} {d:PyData} {u:Value},zX X.K H x d->RelV x u-> ∃as,Reads s.heap u d as
 |_,_,_,.gu,r=>by cases r;exact⟨_,.none⟩
 |_,_,_,.bl b,r=>by cases r;exact⟨_,.bool b⟩
 |_,_,_,.int i,r=>by obtain⟨t,rfl⟩:=r;exact⟨_,.int i t⟩
 |_,_,_,.str x,r=>by obtain⟨t,rfl⟩:=r;exact⟨_,.str x t⟩
 |_,_,_,.lst hq hs,r=>by
  cases r
  obtain⟨its,rv,⟨o,n,e,c,_,dd⟩,_⟩:=I.list hq
  obtain⟨as,q⟩:=oV I hs rv
  exact⟨_,.list e c dd (by simpa using q)⟩
 |_,_,_,.tup hq hs,r=>by
  cases r
  obtain⟨its,rv,⟨o,e,c,n,dd⟩,_⟩:=I.tuple hq
  obtain⟨as,q⟩:=oV I hs rv
  exact⟨_,.tuple e c dd (by simpa using q)⟩
theorem oV(I:Inv X pins σ H s):∀{xs:List V} {ds:List PyData} {us:List Value},xY X.K H xs ds->Vals xs us-> ∃as,ReadsAll s.heap us ds as
 |_,_,_,.nil,r=>by cases r;exact⟨_,.nil⟩
 |_,_,_,.cons h t,r=>by
  cases r with
  |cons r1 r2=>
   obtain⟨as,q1⟩:=kK I h r1
   obtain⟨bs,q2⟩:=oV I t r2
   exact⟨_,.cons q1 q2⟩
end
end
def GS(K:PySem.W.Frag)(neg:Bool):R2:=λx y H Q=> ∃da db,zX K H x da/\zX K H y db/\SeqAt.shaped da=true/\SeqAt.shaped db=true/\Q (.bl (if neg then !PyData.eqv da db else PyData.eqv da db)) H
section
variable{X:Cx}
theorem JU(hu:X.A.units+64<cLine):sr X (compareOp .Eq) (GS X.K false):=by
 intro pins s σ H x y v u Q I rx ry h
 obtain⟨da,db,h1,h2,s1,s2,q⟩:=h
 obtain⟨as,r1⟩:=kK I h1 rx
 obtain⟨bs,r2⟩:=kK I h2 ry
 exact eq_dataH r1 r2 s1 s2 hu ⟨.bl _,H,I,rfl,q⟩
theorem vS(hu:X.A.units+64<cLine):sr X (compareOp .NotEq) (GS X.K true):=by
 intro pins s σ H x y v u Q I rx ry h
 obtain⟨da,db,h1,h2,s1,s2,q⟩:=h
 obtain⟨as,r1⟩:=kK I h1 rx
 obtain⟨bs,r2⟩:=kK I h2 ry
 exact ne_dataH r1 r2 s1 s2 hu ⟨.bl _,H,I,rfl,q⟩
theorem eH:oQ X (.builtin "isinstance") (λxs H Q=> ∃x n t b,xs=[x,.ty n]/\rA X.K H x t/\PySem.W.kitOne X.K t (.type n)=some b/\Q (.bl b) H):=by
 intro pins s σ H xs us Q I r h
 obtain⟨x,n,t,b,rfl,ty,e,q⟩:=h
 cases r with
 |cons r1 r2=>
  cases r2 with
  |cons r2 r3=>
   cases r3
   cases r2
   exact GB I r1 ty e λtk=>⟨.bl b,H,I.tok _,rfl,q⟩
end
abbrev lM (r:List Int):PyData:= .list (r.map .int)
abbrev uO (m:List (List Int)):PyData:= .list (m.map lM)
theorem oW:∀m:List (List Int),PyData.canLayAll0 (m.map lM)=true
 | []=>rfl
 |r::m=>by simp[PyData.canLayAll0,PyData.canLay0,PySem.W.ke_canLayAll0,oW m]
theorem nE:∀m:List (List Int),PyData.depthAll (m.map lM)<=1
 | []=>by simp[PyData.depthAll]
 |r::m=>by
  have:=nE m
  simp only[List.map_cons,PyData.depthAll,PyData.depth,PySem.W.ke_depthAll]
  omega
theorem qE(m:List (List Int)):SeqAt.shaped (uO m)=true:=by
 have q:=nE m
 simp only[SeqAt.shaped,PyData.canLay0,PyData.depth,oW,Bool.true_and,decide_eq_true_eq]
 exact decide_eq_true (show PyData.depthAll (m.map lM)+1<=64 by omega)
theorem ir(r:List Int):SeqAt.shaped (lM r)=true:=PySem.W.ke_shaped_ints r
theorem Ft(r t:List Int):PyData.eqv (lM r) (lM t)=decide (r=t):=by
 simp only[PyData.eqv]
 exact PySem.W.ked_eqvAll r t
structure Rk(tz:Addr->HO):Prop where
 new:∀{P:Program} {w:World} {H:Hp} {h:Heap} {T:Addr},h.get? T=some {cls:= .none,data:= .fields #[]} ->gb P w H h T (tz T)
 get:∀{P:Program} {w:World} {H:Hp} {h:Heap} {T:Addr},gb P w H h T (tz T) -> ∃ps:Array Value,h.get? T=some {cls:= .none,data:= .fields ps}
theorem Fv:Rk cu:=⟨λe=>JM e (by simp[TriplesOk]),λh=>let⟨⟨ps,e,_⟩,_⟩:=h;⟨ps,e⟩⟩
theorem Rl(iu:List Addr):Rk (λT=>if T∈iu then .EU else cu T):=by
 refine⟨λ {P w H h T} e=> ?_,λ {P w H h T} x=> ?_⟩
 ·by_cases c:T∈iu
  ·rw[if_pos c]
   exact⟨#[],e,trivial,λpos cv z=>nomatch z⟩
  ·rw[if_neg c]
   exact Fv.new e
 ·by_cases c:T∈iu
  ·rw[if_pos c]at x
   obtain⟨ps,e,_⟩:=x
   exact⟨ps,e⟩
  ·rw[if_neg c]at x
   exact Fv.get x
theorem GU{P:Program}{w:World}{K:PySem.W.Frag}{mg mb:Str->Option Value}{k:Nat}{fa a:Addr}{fd:FuncData}{x:Str}{sp:Sp}{s₁:Shared}{vs:List Value}{ns:List Int}{tabs:List Addr}{tz:Addr->HO}(TZ:Rk tz)
  (KX:K.In s₁.heap)(hns:s₁.heap.Ns mainGlobals mg)(hb:s₁.heap.Ns builtinsNs mb)(ZJ:∀x:Str,x≠ "__name__" ->mb x=bootBuiltins x)(hlim:s₁.heap.NoLimit)(hbm:BM mg s₁.heap)(hg:s₁.gens= #[])
  (htab:∀T∈tabs,isCodeTable s₁.heap T/\s₁.heap.get? T=some {cls:= .none,data:= .fields #[]})
  (ha:s₁.heap.get? a=some {cls:= .type "list",data:= .seq vs.toArray})(hi:IntsAre vs ns)(hl:ns.length<=sizeLine)(hr:gw k callerA)(hcl:PySem.W.kb_classed K=true)
  (F:∀base:Heap,K.In base->base.Ns mainGlobals mg->BM mg base->rB P w K mg base cj k fa fd [x] sp)(hbind:∀(s:Shared) (u:Value),BindsTo s fd ⟨[u],[]⟩ [(x,u)])
  (Ng:∀H:Hp,(∀T∈tabs,H T=some (tz T)) ->aN K H a (ns.map V.int) ->sp [.ref a] H (λv H'=>v= .bl true/\ ∀T∈tabs,H' T=some (tz T)) λ_ _ _=>False):
  codeAny (model P w) callerA (.call (.ref fa) ⟨[.ref a],[]⟩) (λr s'=>r= .ok (.ret (.bool true))/\OldK s₁.heap s'.heap/\s'.os=s₁.os/\AllBare s'.gens) s₁:=by
 have rv:=yN hi
 have WA:=hi.length
 have Ys:a∉tabs:=λz=>by
  have e:=(htab a z).2
  rw[ha]at e
  cases e
 have core:∀H:Hp,(∀T∈tabs,H T=some (tz T)) ->(∀b u,H b=some u->b∈tabs∨(b=a/\ ∃o xs,u= .zJ o (.lst xs))) ->aN K H a (ns.map V.int) ->vj P w H s₁.heap->(H a≠none->K.lookup a=none) ->
   codeAny (model P w) callerA (.call (.ref fa) ⟨[.ref a],[]⟩) (λr s'=>r= .ok (.ret (.bool true))/\OldK s₁.heap s'.heap/\s'.os=s₁.os/\AllBare s'.gens) s₁:=by
  intro H hT hO hS hok hK
  have free:∀{b:Addr} {o:Obj},s₁.heap.get? b=some o->o.cls≠ .none->b≠a->H b=none:=λ {b o} e hc hba=>by
   cases q:H b with
   |none=>rfl
   |some u=>
    rcases hO b u q with z|⟨z,_⟩
    ·have e':=(htab b z).2
     rw[e]at e'
     cases e'
     exact absurd rfl hc
    ·exact absurd z hba
  have zY:∀{b:Addr} {o:Obj},s₁.heap.get? b=some o->H b=none->(xS s₁.heap H).get? b=some o:=λe n=>Jj e n
  have WB:∀{b:Addr} {o:Obj} {es:Array DictEntry} {ep:Nat},s₁.heap.get? b=some o->o.data= .dict es ep->H b=none:=λ {b o es ep} e d=>by
   cases q:H b with
   |none=>rfl
   |some u=>
    rcases hO b u q with z|⟨z,_⟩
    ·have e':=(htab b z).2
     rw[e]at e'
     cases e'
     cases d
    ·rw[z,ha]at e
     cases e
     cases d
  have Vj:∀{b:Addr} {m:Str->Option Value},s₁.heap.Ns b m->(xS s₁.heap H).Ns b m:=λ {b m} ⟨o,es,ep,e,d,r⟩=>⟨o,es,ep,zY e (WB e d),d,r⟩
  have Yt:K.In (xS s₁.heap H):=λb o e=>zY (KX b o e) (by
   by_cases hba:b=a
   ·cases q:H b with
    |none=>rfl
    |some u=>
     subst hba
     rw[hK (by rw[q];simp)]at e
     cases e
   ·have q:=List.all_eq_true.mp hcl (b,o) (PySem.W.kb_mem e)
    simp only[Bool.or_eq_true,decide_eq_true_eq,beq_iff_eq]at q
    rcases q with(q|q)|q
    ·exact free (KX b o e) q hba
    ·obtain⟨mc,⟨oc,es,ep,z1,z2,_⟩,_⟩:=hlim
     rw[q];exact WB z1 z2
    ·obtain⟨oc,es,ep,z1,z2,_⟩:=hns
     rw[q];exact WB z1 z2)
  have hM:Mod K mg (xS s₁.heap H):=⟨Yt,Vj hns,⟨mb,Vj hb,ZJ⟩,let⟨mc,h1,h2⟩:=hlim;⟨mc,Vj h1,h2⟩⟩
  have ZK:BM mg (xS s₁.heap H):=by
   obtain⟨bm,ob,q1,q2,q3,q4,q5,q6⟩:=hbm
   refine⟨bm,ob,q1,q2,zY q3 (free q3 (by rw[q4];simp) λz=> ?_),q4,q5,q6⟩
   rw[z,ha]at q3
   rw[<-Option.some.inj q3]at q4
   exact absurd q4 (by simp)
  have e0:JD P w K mg (xS s₁.heap H) callerA [] s₁ H:=⟨rfl,hM,λb o e=>Nj e,Nat.le_of_eq (Gv _ _),trivial,λb hb=>absurd (show b∈([]:List Addr)from hb) (by simp),hok,.of_eq hg⟩
  refine codeAny_mono ((F _ Yt (Vj hns) ZK).run callerA [] s₁ H ⟨[.ref a],[]⟩ [.ref a] [.ref a] _ _ hr e0 (hbind s₁ (.ref a)) (.cons rfl .nil) (Ng H hT hS)) λr s' h=> ?_
  cases r with
  |error e=>exact False.elim h
  |ok fl=>
   cases fl with
   |next=>exact False.elim h
   |brk=>exact False.elim h
   |cont=>exact False.elim h
   |ret u=>
    obtain⟨v,H',os,bare,un,TY,r',q⟩:=h
    obtain⟨q',ZL⟩:=q
    have q':v= .bl true:=q'
    subst q'
    obtain rfl:u=Value.bool true:=r'
    refine⟨rfl,⟨λb o e=> ?_,λb o e=>un.there b o e (by simp)⟩,os,bare.bare⟩
    cases q:H b with
    |none=>exact .inl (un.keep b o e q (by intro z;exact absurd (show b∈([]:List Addr)from z) (by simp)) (by simp))
    |some u=>
     rcases hO b u q with z|⟨z,ob,xs,eu⟩
     ·obtain⟨ct,e'⟩:=htab b z
      obtain⟨ps,ep⟩:=TZ.get (TY b _ (ZL b z))
      rw[e]at e'
      cases e'
      exact .inr (.inl ⟨ct,rfl, #[],ps,rfl,by simpa using ep⟩)
     ·subst eu
      have z2:=un.uL b ob _ q
      obtain⟨e1,_⟩:=hok b _ q
      obtain⟨e2,_⟩:=TY b _ z2
      rw[e]at e1;cases e1
      exact .inl e2
 have Yu:∀(H:Hp) (T:Addr),T∈tabs->gb P w H s₁.heap T (tz T):=λH T hT=>TZ.new (htab T hT).2
 cases hk:K.lookup a with
 |some o=>
  have e:=KX a o hk
  rw[ha]at e
  cases e
  refine core (λb=>if b∈tabs then some (tz b)else none) (λT hT=>if_pos hT) (λb u z=> ?_) (.inr ⟨_,vs.toArray,_,hk,rfl,rfl,rfl,by rw[List.size_toArray,WA];exact hl,by simpa using rv⟩) (λb u z=> ?_) (λz=>absurd (if_neg Ys) z)
  ·by_cases hb:b∈tabs
   ·exact .inl hb
   ·have z':=(if_neg hb).symm.trans z;cases z'
  ·by_cases hb:b∈tabs
   ·have z':=(if_pos hb).symm.trans z;cases z';exact Yu _ b hb
   ·have z':=(if_neg hb).symm.trans z;cases z'
 |none=>
  have q1:∀{b:Addr},b∈tabs->(if b=a then some (HO.zJ {cls:= .type "list",data:= .seq vs.toArray} (.lst (ns.map V.int)))else if b∈tabs then some (tz b)else none)=some (tz b):=λ {b} hb=>by
   rw[if_neg (λ (z:b=a)=>Ys (by rw[<-z];exact hb)),if_pos hb]
  refine core (λb=>if b=a then some (.zJ {cls:= .type "list",data:= .seq vs.toArray} (.lst (ns.map V.int)))else if b∈tabs then some (tz b)else none) (λT hT=>q1 hT) (λb u z=> ?_) (.inl (.inr ⟨{cls:= .type "list",data:= .seq vs.toArray},if_pos rfl⟩)) (λb u z=> ?_) λ_=>hk
  ·by_cases hb:b=a
   ·have z':=(if_pos hb).symm.trans z
    cases z'
    exact .inr ⟨hb,_,_,rfl⟩
   ·by_cases hb2:b∈tabs
    ·exact .inl hb2
    ·have z':=((if_neg hb).trans (if_neg hb2)).symm.trans z;cases z'
  ·by_cases hb:b=a
   ·have z':=(if_pos hb).symm.trans z
    cases z'
    subst hb
    exact⟨ha,by rw[List.length_map];exact hl,vs,_,rv,ha⟩
   ·by_cases hb2:b∈tabs
    ·have z':=(q1 hb2).symm.trans z
     cases z'
     exact Yu _ b hb2
    ·have z':=((if_neg hb).trans (if_neg hb2)).symm.trans z;cases z'
theorem Dk{p:Program}{loose:List Str}{mean:ExcName->Option Value}{mg mb:Str->Option Value}{h:Heap}(T:Top p loose mean mg mb h){d:DefRec}{x qual:Str}(hf:(recsOf p).find? (λe=>e.name==x)=some d){K:PySem.W.Frag}(KX:K.In h){f:Addr}
  (hm:mg x=some (.ref f)){oc:Value}{od:Option Addr}{sl:Array (Option Value)}{fd:FuncData}(l:K.lookup f=some ⟨oc,od,.func fd,sl⟩)(c:PySem.W.codeIn K fd.code qual=true):
  ∃P,gx K fd.code P/\isCodeTable h P/\h.get? P=some {cls:= .none,data:= .fields #[]}:=by
 have hn:d.name=x:=beq_iff_eq.mp (List.find?_some (p:=λe:DefRec=>e.name==x) hf)
 obtain⟨a',o',fd',cc,P,h1,h2,h3,h4,h5,h6⟩:=T.tab d (List.mem_of_find?_eq_some hf)
 rw[hn,hm]at h1;cases h1
 rw[KX f _ l]at h2;cases h2
 cases h3
 refine⟨P,?_,h6.isCodeTable,h6.2⟩
 obtain⟨o,vs,file,tf,flags,tg,JL,text,tt,op,ho,hd,h11,TQ,h7,h9,TR,_⟩:=h5
 obtain⟨⟨o2,vs2,g1,g2,g3,g4⟩,_⟩:=h6
 rw[ho]at g1;cases g1
 rw[hd]at g3;cases g3
 rw[h4]at c
 cases q:K.lookup cc with
 |none=>unfold PySem.W.codeIn at c;simp[q]at c
 |some o3=>
  have e3:=KX cc o3 q
  rw[ho]at e3
  have e4:o=o3:=Option.some.inj e3
  subst e4
  exact⟨cc,o,vs,file,tf,flags,tg,JL,text,tt,h4,q,g2,hd,g4,TQ,h7,h9,TR⟩
def tabOf(K:PySem.W.Frag)(f:Addr):Option Value:=match K.lookup f with
 |some ⟨_,_,.func fd,_⟩=>match fd.code with
  | .ref c=>match K.lookup c with
   |some o=>match o.data with
    | .fields vs=>vs[11]?
    |_=>none
   |none=>none
  |_=>none
 |_=>none
def JV(K:PySem.W.Frag)(fs gs:List Addr):Bool:=fs.all λf=>gs.all λg=>tabOf K f !=tabOf K g
theorem Bu{K:PySem.W.Frag}{f P:Addr}{oc:Value}{od:Option Addr}{sl:Array (Option Value)}{fd:FuncData}(l:K.lookup f=some ⟨oc,od,.func fd,sl⟩)(c:gx K fd.code P):tabOf K f=some (.ref P):=by
 obtain⟨cc,o,vs,_,_,_,_,_,_,_,e1,e2,e3,e4,e5,_⟩:=c.ex
 unfold tabOf
 rw[l]
 simp only[e1,e2,e4,e5]
theorem iF{K:PySem.W.Frag}{fs gs:List Addr}(h:JV K fs gs=true){f g P Q:Addr}(hf:f∈fs)(hg:g∈gs)(a:tabOf K f=some (.ref P))(b:tabOf K g=some (.ref Q)):P≠Q:=λe=>by
 have h1:=List.all_eq_true.mp (List.all_eq_true.mp h f hf) g hg
 rw[a,b,e]at h1
 simp at h1
theorem JX{l:PySem.W.OpenLaw}{n k:Nat}{q:Program}{loose:List Str}{XP:(Str->Option Value) ->Heap->Prop}{YP:World->Heap->Prop}{d:DefRec}{K:Params->PySem.W.Frag}{x:Str}{sp:PySem.W.Frag->List Addr->List Addr->Sp}
  (hn:l.most=some n)(hn2:n<=sizeLine)(hdf:d.params.defaults=[])(hr:gw k callerA)
  (hY:∀(w:World) (h:Heap),YP w h->(K w.params).In h)
  (hcl:∀(w:World),PySem.W.kb_classed (K w.params)=true)
  (F:∀(w:World) (mg mb:Str->Option Value) (mean:ExcName->Option Value) (fa:Addr) (h:Heap),(K w.params).In h->Top q (PySem.W.looseW q loose) mean mg mb h->mg d.name=some (.ref fa) ->
   ∃(fd:FuncData) (tabs iu:List Addr),(∀(s:Shared) (u:Value),BindsTo s fd ⟨[u],[]⟩ [(x,u)])/\(∀T∈tabs++iu,isCodeTable h T/\h.get? T=some {cls:= .none,data:= .fields #[]})/\(∀T∈tabs,T∉iu)/\
    ∀base:Heap,(K w.params).In base->base.Ns mainGlobals mg->BM mg base->rB l.prog w (K w.params) mg base cj k fa fd [x] (sp (K w.params) tabs iu))
  (Ng:∀(K:PySem.W.Frag) (tabs iu:List Addr) (H:Hp) (a:Addr) (ns:List Int),ns.length<=n->(∀T∈tabs,H T=some (cu T)) ->(∀T∈iu,H T=some .EU) ->aN K H a (ns.map V.int) -> ∀Q:VK,(∀H',au H H'->Q (.bl true) H') ->sp K tabs iu [.ref a] H Q λ_ _ _=>False):
  PySem.W.WalkO q loose XP YP l.row.toRowW d [] (λf vs=>PySem.call f vs):=by
 refine Yn.Bj hn hdf λw s₀ s₁ mg mb fa o pm cd doc a vs ns G Y ho hd hcd hmg hobj hints hlen hg=> ?_
 have KX:=hY w _ Y
 obtain⟨fd,tabs,iu,hb,ht,zV,hF⟩:=F w mg mb _ fa _ KX G.T hmg
 have e1:∀T∈tabs,(if T∈iu then HO.EU else cu T)=cu T:=λT hT=>if_neg (zV T hT)
 have e2:∀T∈iu,(if T∈iu then HO.EU else cu T)= .EU:=λT hT=>if_pos hT
 refine GU (Rl iu) KX G.T.g G.T.b G.T.builtins G.T.nolimit G.T.bmain hg ht hobj hints (Nat.le_trans hlen hn2) hr (hcl w) hF hb (λH hO hS=> ?_)
 refine Ng _ tabs iu H a ns hlen (λT hT=>by rw[hO T (List.mem_append_left _ hT),e1 T hT]) (λT hT=>by rw[hO T (List.mem_append_right _ hT),e2 T hT]) hS _ λH' s=>⟨rfl,λT hT=>s _ _ (hO T hT)⟩
theorem au.up{H:Hp}{D:Addr}{o:HO}(h:H D=none):au H (upd H D o):=λb u q=>by rw[aF (d8 q h)];exact q
theorem au.upd{H H':Hp}{D:Addr}{o:HO}(s:au H H')(h:H D=none):au H (upd H' D o):=λb u q=>by rw[aF (d8 q h)];exact s b u q
theorem au.none{H H':Hp}(s:au H H'){D:Addr}(h:H' D=Option.none):H D=Option.none:=s.free h
theorem au.WC{K:PySem.W.Frag}{H H':Hp}{a:Addr}{xs:List V}(e:au H H')(h:p6 K H a xs):p6 K H' a xs:=by
 rcases h with(h|⟨o,h⟩)|h
 ·exact .inl (.inl (e _ _ h))
 ·exact .inl (.inr ⟨o,e _ _ h⟩)
 ·exact .inr h
theorem _root_.PySem.Paired.zZ{α β:Type}{F F':α->β->Prop}:∀{l:List α} {m:List β},Paired F l m->(∀a b,b∈m->F a b->F' a b) ->Paired F' l m
 |_,_,.nil,_=> .nil
 |_,_,.cons h t,k=> .cons (k _ _ List.mem_cons_self h) (t.zZ λa b hb q=>k a b (List.mem_cons_of_mem _ hb) q)
structure JW(J:It)(H1:Hp)(xs:List V):Prop where
 go:∀i H',au H1 H'->i<xs.length->J.go i H'
 xU:∀i H' x H2,au H1 H'->i<xs.length->J.xU i H' x H2->H2=H'/\xs[i]?=some x
 stop:∀H',au H1 H'->J.stop xs.length H'
theorem bU{K:PySem.W.Frag}{H1:Hp}{a:Addr}{xs:List V}(h:aN K H1 a xs):JW (QE K a) H1 xs where
 go:=λi H' s hi=>⟨xs,xs[i],s.seq h,by simp[hi]⟩
 xU:=λi H' x H2 s hi ⟨e,y⟩=>⟨e,y xs (s.seq h)⟩
 stop:=λH' s=>⟨xs,s.seq h,Nat.le_refl _⟩
theorem Rm{K:PySem.W.Frag}{H1:Hp}{a:Addr}{xs:List V}(h:p6 K H1 a xs):JW (VZ K a) H1 xs where
 go:=λi H' s hi=>⟨xs,xs[i],s.WC h,by simp[hi]⟩
 xU:=λi H' x H2 s hi ⟨e,y⟩=>⟨e,y xs (s.WC h)⟩
 stop:=λH' s=>⟨xs,s.WC h,Nat.le_refl _⟩
def iG(n:Nat):List V:=(List.range n).map λ (i:Nat)=>V.int (i:Int)
theorem dh{H1:Hp}{n:Nat}:JW (Jg 0 n) H1 (iG n) where
 go:=λi H' s hi=>by simpa [iG,Jg]using hi
 xU:=λi H' x H2 s hi ⟨e,y⟩=>⟨e,by
  have hi':i<n:=by simpa [iG]using hi
  subst y
  simp[iG,hi']⟩
 stop:=λH' s=>by simp[iG,Jg]
theorem p9{J:It}{H1:Hp}{xs:List V}{σ:St}{te:TE}{Q:VK}(jw:JW J H1 xs)(hz:xs.length<=sizeLine){D:Addr}(hD:H1 D=none)(P:List V->List V->Hp->Prop)(h0:P [] [] (upd H1 D (.lst [])))
  (hs:∀pre x post acc H' (Q':VK),xs=pre++x::post->acc.length=pre.length->au H1 H'->H' D=some (.lst acc) ->P pre acc H'->(∀v H4,au H' H4->P (pre++ [x]) (acc++ [v]) (upd H4 D (.lst (acc++ [v]))) ->Q' v H4) ->te (some x::σ) H' Q')
  (hq:∀acc H',acc.length=xs.length->au H1 H'->H' D=some (.lst acc) ->P xs acc H'->Q (.ref D) H'):
  lZ 1 (cg 0) te σ J H1 D Q:=by
 refine⟨λi m acc σ' H'=>m=xs.length-i/\i<=xs.length/\acc.length=i/\(∃o,σ'=o::σ)/\au H1 H'/\H' D=some (.lst acc)/\P (xs.take i) acc H',⟨xs.length,rfl,Nat.zero_le _,rfl,⟨none,rfl⟩,au.up hD,aA,h0⟩,?_⟩
 rintro i m acc σ' H' ⟨rfl,hi,hl,⟨o,rfl⟩,sm,eD,p⟩
 by_cases hlt:i<xs.length
 ·refine .inr ⟨jw.go i H' sm hlt,by omega,λx H2 y=> ?_⟩
  obtain⟨rfl,ex⟩:=jw.xU i H' x H2 sm hlt y
  have hx:xs[i]=x:=by rw[List.getElem?_eq_getElem hlt]at ex;exact Option.some.inj ex
  have sp:xs=xs.take i++x::xs.drop (i+1):=by
   rw[<-hx,<-List.drop_eq_getElem_cons hlt,List.take_append_drop]
  have tk:xs.take (i+1)=xs.take i++ [x]:=by rw[List.take_succ,ex];rfl
  show te (some x::σ) H2 _
  refine hs (xs.take i) x (xs.drop (i+1)) acc H2 _ sp (by rw[hl,List.length_take];omega) sm eD p λv H4 s4 p4=> ?_
  refine⟨s4 _ _ eD,xs.length- (i+1),by omega,rfl,hlt,by simp[hl],⟨_,rfl⟩,(sm.trans s4).upd hD,aA,?_⟩
  rw[tk]
  exact p4
 ·have e:i=xs.length:=by omega
  subst e
  refine .inl ⟨jw.stop H' sm,eD,hq acc H' hl sm eD ?_⟩
  rw[List.take_length]at p
  exact p
section
variable{X:Cx}{sc:Scope}{N2:List Str}{x:Str}{px:Pos}{elt iter:Expr}{gC p pos:Pos}{wi:TI}{te:TE}{P:Addr}
theorem vn(B:rj sc.names X.env.scope.names [x] N2 X.N)(s:Shared)(H:Hp)(fp:List Addr):PG (X.comp sc ([x]++N2) s H fp) (.Name x px) (cg 0):=by
 rcases B.own x (by simp)with e|e
 ·exact bL (i:=0) B.NF rfl (.inl (kJ (env:=X.env) e (.inl rfl))) (.inr (kJ (env:=X.env) e (.inl rfl)))
 ·refine bL (i:=0) B.NF rfl (.inr (kJ (env:=X.env) e (.inr rfl))) (.inl ?_)
  show(sc.names.lookup x==some NameKind.cell)=true
  rw[e];rfl
theorem dP(hc:X.calm=true)(hi:PI X (.Name x px) iter wi)(hB:zQ sc.names X.env.scope.names [x] N2 X.N=true)(hk:sc.kind= .function)(he:∀s H fp,PE (X.comp sc ([x]++N2) s H fp) elt te)
  (hs:∀x,foldedSetIterable iter X.env x=pure x:=by intro _;rfl):PE X (.ListComp elt [⟨.Name x px,iter,[],0⟩] sc pos) (iT 1 wi (cg 0) te):=
 Bp (own:=[x]) hc hi (jN hB) hk (λs H fp=>vn (jN hB) s H fp) he hs
theorem sL{i:Nat}{y:Str}{py spos:Pos}(hN:X.N.Nodup)(hi':X.N[i]?=some y)(hy:X.env.scope.names.lookup y=some .local)(hc:X.calm=true)(hi:PI X (.Name x px) iter wi)(hB:zQ sc.names X.env.scope.names [x] N2 X.N=true)(hk:sc.kind= .function)(he:∀s H fp,PE (X.comp sc ([x]++N2) s H fp) elt te)
  (hsw:swapsWith (.ListComp elt [⟨.Name x px,iter,[],0⟩] sc pos) (some (.Name y py)) spos.line X.env=pure true:=by rfl)(hs:∀x,foldedSetIterable iter X.env x=pure x:=by intro _;rfl):
  PS X (.Assign [.Name y py] (.ListComp elt [⟨.Name x px,iter,[],0⟩] sc pos) spos) (CV (iT 1 wi (cg 0) te) (cg i)):=
 JK (own:=[x]) hN hi' hy hc hi (jN hB) hk (λs H fp=>vn (jN hB) s H fp) he hsw hs
theorem Dl{B:Around}(Bk:rj sc.names X.env.scope.names [x] N2 X.N)(hnc:∀y∈sc.names,y.2≠ .cell)(code:Value)(s:Shared)(H:Hp)(fp:List Addr):PG (X.gen B sc ([x]++N2) code s H fp) (.Name x px) (cg 0):=by
 rcases Bk.own x (by simp)with e|e
 ·exact bL (i:=0) Bk.NF rfl (.inl e) (.inr e)
 ·exact absurd rfl (hnc _ (mem_of_lookup e))
def Dm(sc:Scope)(ks:List (Str×NameKind))(own N2 N:List Str):Bool:=
 zQ sc.names ks own N2 N && (sc.kind== .function) && !sc.isCoroutine && sc.names.all (λy=>y.2 != .cell) && (sc.names.lookup (".0":Str)==some NameKind.local)
theorem oX{own:List Str}(hc:X.calm=true)(hr:X.A.depth<recursionLimit)(cd:gx X.K X.env.code P)(bm:BM X.mg X.base)(h:Dm sc X.env.scope.names own N2 X.N=true):Bs X sc own N2 P:=by
 unfold Dm at h
 simp only[Bool.and_eq_true]at h
 obtain⟨⟨⟨⟨h1,h2⟩,h3⟩,h4⟩,h5⟩:=h
 refine⟨hc,hr,jN h1,by simpa using h2,by simpa using h3,λy hy=> ?_,by simpa using h5,cd,bm⟩
 have q:=List.all_eq_true.mp h4 y hy
 simpa using q
theorem Fw(hc:X.calm=true)(hr:X.A.depth<recursionLimit)(cd:gx X.K X.env.code P)(bm:BM X.mg X.base)(Bt:Gl X "sum")(hm:X.mg "sum"=none)(hi:PI X (.Name x px) iter wi)(hB:Dm sc X.env.scope.names [x] N2 X.N=true)
  (he:∀code s H fp,PE (X.gen X.A.in1.in1 sc ([x]++N2) code s H fp) elt te)
  (hs:∀x,genFold iter X.env x=pure x:=by intro _;rfl)(hst:starEach [.GeneratorExp elt [⟨.Name x px,iter,[],0⟩] sc gC] X.env=[(false,eval (.GeneratorExp elt [⟨.Name x px,iter,[],0⟩] sc gC) X.env)]:=by rfl):
  PE X (.Call (.Name "sum" p) [.GeneratorExp elt [⟨.Name x px,iter,[],0⟩] sc gC] [] pos) (yQ 1 P wi (cg 0) te):=
 have K:=oX hc hr cd bm hB
 Fp (own:=[x]) K Bt hm hi (λcode s H fp=>Dl K.NL K.nc code s H fp) he hs hst
theorem vp(hc:X.calm=true)(hr:X.A.depth<recursionLimit)(cd:gx X.K X.env.code P)(bm:BM X.mg X.base)(Bt:Gl X "all")(hm:X.mg "all"=none)(hi:PI X (.Name x px) iter wi)(hB:Dm sc X.env.scope.names [x] N2 X.N=true)
  (he:∀code s H fp,PE (X.gen X.A.in1.in1 sc ([x]++N2) code s H fp) elt te)
  (hs:∀x,genFold iter X.env x=pure x:=by intro _;rfl)(hst:starEach [.GeneratorExp elt [⟨.Name x px,iter,[],0⟩] sc gC] X.env=[(false,eval (.GeneratorExp elt [⟨.Name x px,iter,[],0⟩] sc gC) X.env)]:=by rfl):
  PE X (.Call (.Name "all" p) [.GeneratorExp elt [⟨.Name x px,iter,[],0⟩] sc gC] [] pos) (PV 1 P wi (cg 0) te):=
 have K:=oX hc hr cd bm hB
 NN (own:=[x]) K Bt hm hi (λcode s H fp=>Dl K.NL K.nc code s H fp) he hs hst
theorem vU{k:Nat}{A:Around}{e:Env}(r:gw (k+1) A):gw k (NH A.in1.in1 e):=
 ⟨r.hd,by have:=r.dp;show A.depth+1+3*k+5<_;omega,by have:=r.un;show A.units+1+1+3+16*k+200<_;omega⟩
end
theorem JY{J:It}{H1:Hp}{xs:List V}{σ:St}{te:TE}{F:Nat->(Nat->V->Prop) ->(Nat->St->Hp->Prop) ->Prop}(jw:JW J H1 xs)(R:Nat->V->Prop)
  (hs:∀i x,xs[i]?=some x-> ∀H' (Q':VK),au H1 H'->(∀v H2,R i v->au H' H2->Q' v H2) ->te (some x::σ) H' Q')
  (hF:F xs.length R (λ_ σ' H'=>(∃o,σ'=o::σ)/\au H1 H')):vR 1 (cg 0) te σ F J H1:=by
 refine⟨xs.length,R,_,⟨⟨none,rfl⟩,au.refl _⟩,λi σ' H' hi w=> ?_,λσ' H' w=>jw.stop H' w.2,hF⟩
 obtain⟨⟨o,rfl⟩,sm⟩:=w
 refine⟨jw.go i H' sm hi,λx H2 y=> ?_⟩
 obtain⟨rfl,ex⟩:=jw.xU i H' x H2 sm hi y
 show te (some x::σ) H2 _
 exact hs i x ex H2 _ sm λv H3 r s3=>⟨r,⟨_,rfl⟩,sm.trans s3⟩
theorem JZ{J:It}{H1:Hp}{xs:List V}{σ:St}{te:TE}{Q:VK}{P:Addr}(jw:JW J H1 xs)(hP:H1 P=some (cu P))(val:Nat->Int)
  (hs:∀i x,xs[i]?=some x-> ∀H' (Q':VK),au H1 H'->(∀H2,au H' H2->Q' (.int (val i)) H2) ->te (some x::σ) H' Q')
  (hq:∀H',au H1 H'->Q (.int (preSum val xs.length)) H'):
  JT 1 P (cg 0) te σ J H1 Q:=
 ⟨hP,JY jw (λi v=>v= .int (val i)) (λi x ex H' Q' sm k=>hs i x ex H' Q' sm λH2 s2=>k _ _ rfl s2) ⟨val,λi v _ r=>r,λσ' H' w=>hq H' w.2⟩⟩
theorem z6{J:It}{H1:Hp}{xs:List V}{σ:St}{te:TE}{Q:VK}{P:Addr}(jw:JW J H1 xs)(hP:H1 P=some (cu P))(bv:Nat->Bool)
  (hs:∀i x,xs[i]?=some x-> ∀H' (Q':VK),au H1 H'->(∀H2,au H' H2->Q' (.bl (bv i)) H2) ->te (some x::σ) H' Q')
  (hq:∀b H',au H1 H'->(b=true↔ ∀j,j<xs.length->bv j=true) ->Q (.bl b) H'):
  PU 1 P (cg 0) te σ J H1 Q:=
 ⟨hP,JY jw (λi v=>v= .bl (bv i)) (λi x ex H' Q' sm k=>hs i x ex H' Q' sm λH2 s2=>k _ _ rfl s2) ⟨bv,λi v _ r=>r,λhb σ' H' w=>hq _ H' w.2 ⟨λ_=>hb,λ_=>rfl⟩,
  λj hj hb _ σ' H' w=>hq _ H' w.2 ⟨λz=>(by cases z),λz=>by rw[z j hj]at hb;cases hb⟩⟩⟩
structure GV(K:PySem.W.Frag)(x qual:Str)(st:Stmt)(f:Addr)(fd:FuncData)(T:Addr):Prop where
 ex:∃(oc:Value) (od:Option Addr) (kV doc pm:Value) (an:Option Addr) (cdv ct:Value) (osl:Array (Option Value)),
  fd=PySem.W.fnOf x qual (ie st) (fM st) (aB st) .none kV doc pm an cdv ct/\K.lookup f=some ⟨oc,od,.func fd,osl⟩/\PySem.W.codeIn K cdv qual=true/\gx K cdv T
 kp:PySem.W.keepIn K (.ref f)=true
theorem GV.ok{P:Program}{w:World}{K:PySem.W.Frag}{mg:Str->Option Value}{base:Heap}{x qual:Str}{st:Stmt}{f T:Addr}{fd:FuncData}{N ps:List Str}{k:Nat}{sp:Sp}(F:GV K x qual st f fd T)(S:aP N ps (aB st))(len:∀vs H Q E,sp vs H Q E->vs.length=ps.length)
  (hbody:∀(cdv:Value) (A:Around) (outer:List Env) (s:Shared) (H:Hp) (vs:List V) (Q:VK) (E:XK),gx K cdv T->gw k (A.deeper (envOfC qual (aB st) s.heap.objs.size f cdv)) ->sp vs H Q E->
   ∃t,zL (zN cj P w K mg base N qual (aB st) f cdv A outer s H E).Jf (fM st) t/\t {nx:=λ_ H'=>Q .gu H',rt:=Q} (start N vs) H):rB P w K mg base cj (k+1) f fd ps sp:=by
 obtain⟨oc,od,kV,doc,pm,an,cdv,ct,osl,rfl,lk,hcd,cd⟩:=F.ex
 refine PL lk hcd S len λA outer s H vs Q E hr Ng=> ?_
 obtain⟨t,h,q⟩:=hbody cdv A outer s H vs Q E cd hr Ng
 exact⟨t,h.Jf,q⟩
theorem GV.fn{K:PySem.W.Frag}{x qual:Str}{st:Stmt}{f T:Addr}{fd:FuncData}(F:GV K x qual st f fd T):PM K x qual st f fd:=by
 obtain⟨oc,od,kV,doc,pm,an,cdv,ct,osl,e,lk,hcd,cd⟩:=F.ex
 exact⟨⟨oc,od,kV,doc,pm,an,cdv,ct,osl,e,lk,hcd⟩,F.kp⟩
abbrev z8 (K:PySem.W.Frag):List V->Hp->VK->Prop:=λxs H Q=> ∃p ys,xs=[.ref p]/\(aN K H p ys∨p6 K H p ys)/\ ∀l,H l=none->Q (.ref l) (upd H l (.lst ys))
abbrev Fx (K:PySem.W.Frag):List V->Hp->VK->Prop:=λxs H Q=> ∃x n t b,xs=[x,.ty n]/\rA K H x t/\PySem.W.kitOne K t (.type n)=some b/\Q (.bl b) H
abbrev WD:List V->Hp->VK->Prop:=λxs H Q=> ∃i,xs=[.int i]/\Q (.int (if i<0 then-i else i)) H
theorem dJ{X:Cx}{e:Expr}{t:TE}(h:PE X e t):PE X e t:=h
theorem bits_le{k:Int}{n:Nat}(h:k.natAbs<2^n):Builtin.Int.intBits k<=n:=by
 unfold Builtin.Int.intBits
 split
 ·exact Nat.zero_le _
 ·rename_i h0
  have h1:k.natAbs≠0:=λz=>h0 (by have:k=0:=Int.natAbs_eq_zero.mp z;rw[this];rfl)
  exact(Nat.log2_lt h1).mpr h
def iH(i j:Int):Prop:=i.natAbs<2^4096/\j.natAbs<2^4096
theorem iH.ok{i j:Int}(h:iH i j):IntMulOk i j:=by
 have h1:=bits_le h.1
 have h2:=bits_le h.2
 have h3:Builtin.Int.intTooBig (Builtin.Int.intBits i+Builtin.Int.intBits j)=false:=by
  unfold Builtin.Int.intTooBig
  refine decide_eq_false ?_
  have:((Builtin.Int.intBits i+Builtin.Int.intBits j:Nat):Int)<=8192:=by omega
  have e:(8192:Int)<=((bitsLine:Nat):Int):=by decide
  omega
 unfold IntMulOk
 rw[h3]
 simp
section
variable{X:Cx}
theorem bA:sr X (binaryOp .Mult) (rI iH λi j=> .int (i*j)):=QI λ_ _ _ _ _ _ _ hc q=>mul_int q hc.ok
def Ua(i j:Int):Prop:=0<j/\j.natAbs.log2<9000
theorem Ka:sr X (binaryOp .FloorDiv) (rI Ua λi j=> .int (i/j)):=QI λi j _ _ _ _ _ hc q=>by
 have h1:(0:Int)<j:=hc.1
 exact floordiv_int (by omega) (by rw[Int.fdiv_eq_ediv_of_nonneg i (by omega)];exact q) (.inl (PyProof.noPylong_of_log2 hc.2))
end
def Tab(H:Hp)(t:Addr)(bs:List Addr)(m:List (List Int)):Prop:=H t=some (.lst (bs.map V.ref))/\Paired (λrow b=>H b=some (.lst (row.map V.int))) m bs
theorem Tab.same{H H':Hp}{t:Addr}{bs:List Addr}{m:List (List Int)}(s:au H H')(h:Tab H t bs m):Tab H' t bs m:=⟨s _ _ h.1,h.2.zZ λ_ _ _ q=>s _ _ q⟩
def bC(m:List (List Int)):Prop:=m.length=3/\ ∀r∈m,r.length=3
theorem z9{H:Hp}{m:List (List Int)}{bs:List Addr}(pr:Paired (λrow b=>H b=some (.lst (row.map V.int))) m bs){b:Addr}(hb:b∈bs):∃row,row∈m/\H b=some (.lst (row.map V.int)):=by
 induction pr with
 |nil=>cases hb
 | @cons r c m bs h t ih=>
  rcases List.mem_cons.mp hb with e|hb
  ·exact⟨r,List.mem_cons_self,by rw[e];exact h⟩
  ·obtain⟨row,q1,q2⟩:=ih hb
   exact⟨row,List.mem_cons_of_mem _ q1,q2⟩
theorem Tab.upd{H:Hp}{t x:Addr}{bs:List Addr}{m:List (List Int)}{o:HO}(h:Tab H t bs m)(h1:t≠x)(h2:x∉bs):Tab (upd H x o) t bs m:=
 ⟨by rw[aF h1];exact h.1,h.2.zZ λr b hb e=>by rw[aF (λz=>h2 (by rw[<-z];exact hb))];exact e⟩
theorem Fy{K:PySem.W.Frag}{H:Hp}:∀r:List Int,xY K H (r.map V.int) (r.map PyData.int)
 | []=> .nil
 |x::r=> .cons (.int x) (Fy r)
theorem uB{K:PySem.W.Frag}{H:Hp}{t:Addr}{bs:List Addr}{m:List (List Int)}(h:Tab H t bs m):zX K H (.ref t) (uO m):=by
 obtain⟨e,pr⟩:=h
 refine .lst (aN.of e) ?_
 clear e
 induction pr with
 |nil=>exact .nil
 | @cons r b m bs h t ih=>exact .cons (.lst (aN.of h) (Fy r)) ih
theorem rE{bs:List Addr}{x:V}(h:x∈bs.map V.ref):∃b,x= .ref b/\b∈bs:=by
 obtain⟨b,hb,e⟩:=List.mem_map.mp h
 exact⟨b,e.symm,hb⟩
def itemsOf(H:Hp)(g:V->V)(x:V):List V:=match x with
 | .ref b=>(match H b with|some (.lst xs)=>xs.map g|_=>[])
 |_=>[]
theorem uC{H:Hp}{g:V->V}{b:Addr}{xs:List V}(h:H b=some (.lst xs)):itemsOf H g (.ref b)=xs.map g:=by
 show(match H b with|some (.lst xs)=>xs.map g|_=>[])=_
 rw[h]
theorem yR{H H':Hp}{f:V->List V}{g:List Int->List Int}:∀{m:List (List Int)} {bs bs':List Addr},Paired (λrow b=>H b=some (.lst (row.map V.int))) m bs->Paired (λx b'=>H' b'=some (.lst (f x))) (bs.map V.ref) bs'->
  (∀row b,H b=some (.lst (row.map V.int)) ->f (.ref b)=(g row).map V.int) ->Paired (λrow b'=>H' b'=some (.lst (row.map V.int))) (m.map g) bs'
 |_,_,_,.nil,h2,_=>by cases h2;exact .nil
 |_,_,_,.cons h t,h2,k=>by
  cases h2 with
  |cons h' t'=>exact .cons (by rw[h',k _ _ h]) (yR t t' k)
def ent(m:List (List Int))(i j:Nat):Int:=(m.getD i []).getD j 0
def mk3(g:Nat->Nat->Int):List (List Int):=[[g 0 0,g 0 1,g 0 2],[g 1 0,g 1 1,g 1 2],[g 2 0,g 2 1,g 2 2]]
theorem bP(g:Nat->Nat->Int):bC (mk3 g):=⟨rfl,λr hr=>by
 simp only[mk3,List.mem_cons,List.not_mem_nil,or_false]at hr
 rcases hr with rfl|rfl|rfl<;>rfl⟩
theorem aC{i:Nat}(h:i<3):i=0∨i=1∨i=2:=by omega
theorem cy(g:Nat->Nat->Int){i j:Nat}(hi:i<3)(hj:j<3):ent (mk3 g) i j=g i j:=by
 rcases aC hi with rfl|rfl|rfl<;>rcases aC hj with rfl|rfl|rfl<;>rfl
theorem oY{m:List (List Int)}(h:bC m):m=mk3 (ent m):=by
 obtain⟨h1,h2⟩:=h
 match m,h1,h2 with
 | [r0,r1,r2],_,h2=>
  have l0:=h2 r0 (by simp)
  have l1:=h2 r1 (by simp)
  have l2:=h2 r2 (by simp)
  match r0,r1,r2,l0,l1,l2 with
  | [a,b,c],[d,e,f],[g,h,i],_,_,_=>rfl
theorem dU{xs:List V}{i:Nat}{v:V}(h:xs[i]?=some v):xV xs (i:Int)=some v:=zO h
theorem Fz{H:Hp}{t:Addr}{bs:List Addr}{m:List (List Int)}(h:Tab H t bs m){i:Nat}(hi:i<m.length):∃b row,xV (bs.map V.ref) (i:Int)=some (.ref b)/\H b=some (.lst (row.map V.int))/\m[i]?=some row/\b∈bs:=by
 obtain⟨_,pr⟩:=h
 have q:∀{m:List (List Int)} {bs:List Addr} {i:Nat},Paired (λrow b=>H b=some (.lst (row.map V.int))) m bs->i<m.length-> ∃b row,bs[i]?=some b/\H b=some (.lst (row.map V.int))/\m[i]?=some row:=by
  intro m bs i pr
  induction pr generalizing i with
  |nil=>intro hi;exact absurd hi (Nat.not_lt_zero _)
  | @cons r b m bs h t ih=>
   intro hi
   cases i with
   |zero=>exact⟨b,r,rfl,h,rfl⟩
   |succ i=>
    obtain⟨b',r',e1,e2,e3⟩:=ih (i:=i) (by simpa using hi)
    exact⟨b',r',by simpa using e1,e2,by simpa using e3⟩
 obtain⟨b,row,e1,e2,e3⟩:=q pr hi
 exact⟨b,row,dU (by rw[List.getElem?_map,e1];rfl),e2,e3,List.mem_of_getElem? e1⟩
theorem nF{H:Hp}{t:Addr}{bs:List Addr}{m:List (List Int)}(h:Tab H t bs m)(cN:bC m){i j:Nat}(hi:i<3)(hj:j<3):
  ∃(b:Addr) (row:List Int),xV (bs.map V.ref) (i:Int)=some (.ref b)/\H b=some (.lst (row.map V.int))/\xV (row.map V.int) (j:Int)=some (.int (ent m i j)):=by
 obtain⟨b,row,e1,e2,e3,_⟩:=Fz h (i:=i) (by rw[cN.1];exact hi)
 refine⟨b,row,e1,e2,dU ?_⟩
 have rl:row.length=3:=cN.2 row (List.mem_of_getElem? e3)
 have e4:m.getD i []=row:=by rw[List.getD_eq_getElem?_getD,e3];rfl
 rw[List.getElem?_map,List.getElem?_eq_getElem (by rw[rl];exact hj)]
 unfold ent
 rw[e4,List.getD_eq_getElem?_getD,List.getElem?_eq_getElem (by rw[rl];exact hj)]
 rfl
theorem aY{H:Hp}{t:Addr}{bs:List Addr}{m:List (List Int)}(h:Tab H t bs m)(cN:bC m){i:Nat}(hi:i<3):
  ∃b,xV (bs.map V.ref) (i:Int)=some (.ref b)/\H b=some (.lst [.int (ent m i 0),.int (ent m i 1),.int (ent m i 2)])/\b∈bs:=by
 obtain⟨b,row,e1,e2,e3,e5⟩:=Fz h (i:=i) (by rw[cN.1];exact hi)
 refine⟨b,e1,?_,e5⟩
 have rl:row.length=3:=cN.2 row (List.mem_of_getElem? e3)
 have e4:m.getD i []=row:=by rw[List.getD_eq_getElem?_getD,e3];rfl
 rw[e2]
 unfold ent
 rw[e4]
 match row,rl with
 | [a,b,c],_=>rfl
def Bd(n:Nat)(m:List (List Int)):Prop:=∀i j,i<3->j<3->(ent m i j).natAbs<2^n
theorem Bd.mono{a b:Nat}{m:List (List Int)}(h:Bd a m)(hab:a<=b):Bd b m:=λi j hi hj=>Nat.lt_of_lt_of_le (h i j hi hj) (Nat.pow_le_pow_right (by decide) hab)
theorem dz{x y:Int}{a b:Nat}(hx:x.natAbs<2^a)(hy:y.natAbs<2^b):(x*y).natAbs<2^(a+b):=by
 rw[Int.natAbs_mul,Nat.pow_add]
 exact Nat.mul_lt_mul_of_lt_of_lt hx hy
theorem oZ{x y:Int}{a:Nat}(hx:x.natAbs<2^a)(hy:y.natAbs<2^a):(x+y).natAbs<2^(a+1):=by
 have e:2^(a+1)=2^a+2^a:=by rw[Nat.pow_succ];omega
 omega
theorem qF{x y:Int}{a:Nat}(hx:x.natAbs<2^a)(hy:y.natAbs<2^a):(x-y).natAbs<2^(a+1):=by
 have e:2^(a+1)=2^a+2^a:=by rw[Nat.pow_succ];omega
 omega
theorem aL{x:Int}{a b:Nat}(hx:x.natAbs<2^a)(h:a<=b):x.natAbs<2^b:=Nat.lt_of_lt_of_le hx (Nat.pow_le_pow_right (by decide) h)
def fq(a b:List (List Int)):List (List Int):=mk3 λi j=>ent a i 0*ent b 0 j+ent a i 1*ent b 1 j+ent a i 2*ent b 2 j
def dR(a:List (List Int)):List (List Int):=mk3 λi j=>ent a j i
theorem qa{a b:List (List Int)}{p q:Nat}(ha:Bd p a)(hb:Bd q b):Bd (p+q+2) (fq a b):=λi j hi hj=>by
 unfold fq
 rw[cy _ hi hj]
 exact oZ (oZ (dz (ha i 0 hi (by decide)) (hb 0 j (by decide) hj)) (dz (ha i 1 hi (by decide)) (hb 1 j (by decide) hj))) (aL (dz (ha i 2 hi (by decide)) (hb 2 j (by decide) hj)) (Nat.le_succ _))
theorem vV{a:List (List Int)}{p:Nat}(ha:Bd p a):Bd p (dR a):=λi j hi hj=>by
 unfold dR
 rw[cy _ hi hj]
 exact ha j i hj hi
theorem jy(K:PySem.W.Frag)(n:String):PySem.W.kitOne K (.type n) (.type n)=some true:=by
 unfold PySem.W.kitOne
 rw[if_pos (by simp)]
theorem rF(K:PySem.W.Frag):PySem.W.kitOne K (.type "int") (.type "bool")=some false:=by kernel_rfl
theorem Dn{xs:List V}{k:Int}(h0:0<=k)(h:k<(xs.length:Int)):∃v,xV xs k=some v/\xs[k.toNat]?=some v:=by
 have hk:k.toNat<xs.length:=by omega
 have ek:k=((k.toNat:Nat):Int):=by omega
 have q:xV xs ((k.toNat:Nat):Int)=some xs[k.toNat]:=zO (by rw[List.getElem?_eq_getElem hk])
 rw[<-ek]at q
 exact⟨xs[k.toNat],q,by rw[List.getElem?_eq_getElem hk]⟩
theorem NP{ns:List Int}{k:Int}(h0:0<=k)(h:k<(ns.length:Int)):∃z:Int,xV (ns.map V.int) k=some (.int z):=by
 obtain⟨v,h1,h2⟩:=Dn (xs:=ns.map V.int) h0 (by rw[List.length_map];exact h)
 rw[List.getElem?_map]at h2
 cases q:ns[k.toNat]? with
 |none=>rw[q]at h2;cases h2
 |some z=>rw[q]at h2;cases h2;exact⟨z,h1⟩
theorem small{n:Nat}(h:n<=1000):n<=sizeLine:=Nat.le_of_lt (iY h)
theorem at2{x y:V}{i:Int}(h0:0<=i)(h:i<2):∃v,xV [x,y] i=some v/\(v=x∨v=y):=by
 have c:i=0∨i=1:=by omega
 rcases c with rfl|rfl
 ·exact⟨x,rfl,.inl rfl⟩
 ·exact⟨y,rfl,.inr rfl⟩
section
variable{X:Cx}
theorem Kc{bs:List Bool}{its:List Value}{i:Nat}{v:Value}(r:Vals (bs.map V.bl) its)(h:its[i]?=some v):∃b,bs[i]?=some b/\v= .bool b:=by
 have hl:=r.length
 rw[List.length_map]at hl
 have hi:i<bs.length:=by
  have:=(List.getElem?_eq_some_iff.mp h).1
  omega
 have e:(bs.map V.bl)[i]?=some (.bl bs[i]):=by rw[List.getElem?_map,List.getElem?_eq_getElem hi];rfl
 obtain⟨u,h1,h2⟩:=r.get e
 rw[h]at h1
 cases h1
 exact⟨bs[i],List.getElem?_eq_getElem hi,h2⟩
theorem qu(hc:X.calm=true):oQ X (.builtin "all") (λxs H Q=> ∃p bs,xs=[.ref p]/\aN X.K H p ((bs:List Bool).map V.bl)/\Q (.bl (bs.all id)) H):=by
 intro pins s σ H xs us Q I r h
 obtain⟨p,bs,rfl,hq,q⟩:=h
 obtain⟨u,rfl,rx⟩:=vals1 r
 cases rx
 obtain⟨its,rv,pl,hz⟩:=I.list hq
 have hl:=rv.length
 rw[List.length_map]at hl
 refine call_all_walk (wpAny_pyIter_list pl.isList ?_)
 have hp:p<s.heap.objs.size:=let⟨o,n,e,_⟩:=pl;Heap.lt_size e
 have keep:∀b o,s.heap.get? b=some o->(s.heap.push {cls:= .type "list_iterator",data:= .fields #[rawInt 0,.ref p]}).get? b=some o:=λb o e=>Heap.get?_push_of_some _ e
 refine⟨s.heap.objs.size,[s.heap.objs.size,p],[s.heap.objs.size],its.toArray.size,_,_,λi=>(bs[i]?).getD true,rfl,Walks.list (A:=X.A.in1) (show X.A.in1.handled=none from I.ok.hd hc) s.heap.objs.size p (Nat.ne_of_lt hp) its.toArray,⟨⟨_,Heap.get?_push_size _ rfl,rfl,rfl⟩,pl.isList.at λo e=>Heap.get?_push_of_some _ e⟩,λi v s' Q' E' hv WE=> ?_,λh' tk k=> ?_⟩
 ·obtain⟨b,e1,rfl⟩:=Kc rv (by simpa using hv)
  have PZ:Q' ((bs[i]?).getD true) s':=WE
  rw[e1]at PZ
  exact wpAny_truthy_bool PZ
 ·refine⟨.bl (bs.all id),H,I.kept (t':=tk) λb o e=>k b o (λz=> ?_) (Heap.get?_push_of_some _ e),?_,q⟩
  ·exact absurd (Heap.lt_size e) (by rw[List.mem_singleton.mp z];exact Nat.lt_irrefl _)
  ·have e:(List.range its.toArray.size).all (λi=>(bs[i]?).getD true)=bs.all id:=by
    rw[List.size_toArray,<-hl,Bool.eq_iff_iff,List.all_eq_true,List.all_eq_true]
    constructor
    ·intro h b hb
     obtain⟨j,hj,rfl⟩:=List.getElem_of_mem hb
     have:=h j (List.mem_range.mpr hj)
     rw[List.getElem?_eq_getElem hj]at this
     exact this
    ·intro h j hj
     have hj':=List.mem_range.mp hj
     rw[List.getElem?_eq_getElem hj']
     exact h _ (List.getElem_mem hj')
   show Value.bool _=Value.bool _
   rw[e]
end
theorem eE{J:It}{xs:List V}{H1:Hp}{σ:St}{te:TE}{Q:VK}{D:Addr}(jw:JW J H1 xs)(h3:xs.length=3)(hD:H1 D=none)(g:Nat->Int)(hs:∀j x,j<3->xs[j]?=some x-> ∀H' (Q':VK),au H1 H'->(∀H2,au H' H2->Q' (.int (g j)) H2) ->te (some x::σ) H' Q')
  (hq:∀H',au H1 H'->H' D=some (.lst [.int (g 0),.int (g 1),.int (g 2)]) ->Q (.ref D) H'):lZ 1 (cg 0) te σ J H1 D Q:=by
 refine p9 jw (by rw[h3];decide) hD (λpre acc H'=>acc=(List.range pre.length).map λj=>V.int (g j)) rfl (λpre x post acc H' Q' e hl sm eD p k=> ?_) (λacc H' hl sm eD p=> ?_)
 ·have hlen:pre.length<3:=by
   have:=congrArg List.length e
   rw[h3]at this
   simp at this
   omega
  refine hs pre.length x hlen (by rw[e];simp) H' Q' sm λH2 s2=>k _ H2 s2 ?_
  rw[p]
  simp[List.range_succ]
 ·refine hq H' sm ?_
  rw[eD,p,h3]
  rfl
theorem vq{J:It}{xs:List V}{H1:Hp}{σ:St}{te:TE}{Q:VK}{D:Addr}(jw:JW J H1 xs)(h3:xs.length=3)(hD:H1 D=none)(g:Nat->Nat->Int)
  (hs:∀i x,i<3->xs[i]?=some x-> ∀H' (Q':VK),au H1 H'->(∀b H2,H' b=none->au H' H2->H2 b=some (.lst [.int (g i 0),.int (g i 1),.int (g i 2)]) ->Q' (.ref b) H2) ->te (some x::σ) H' Q')
  (hq:∀bs H',au H1 H'->(∀b∈bs,H1 b=none) ->D∉bs->Tab H' D bs (mk3 g) ->Q (.ref D) H'):lZ 1 (cg 0) te σ J H1 D Q:=by
 refine p9 jw (by rw[h3];decide) hD (λpre acc H'=> ∃bs:List Addr,acc=bs.map V.ref/\(∀b∈bs,H1 b=none)/\D∉bs/\Paired (λi b=>H' b=some (.lst [.int (g i 0),.int (g i 1),.int (g i 2)])) (List.range pre.length) bs) ⟨[],rfl,λ_ h=>(nomatch h),by simp,.nil⟩ (λpre x post acc H' Q' e hl sm eD p k=> ?_) (λacc H' hl sm eD p=> ?_)
 ·obtain⟨bs,rfl,fr,nD,pr⟩:=p
  have hlen:pre.length<3:=by
   have:=congrArg List.length e
   rw[h3]at this
   simp at this
   omega
  refine hs pre.length x hlen (by rw[e];simp) H' _ sm λb H2 hb s2 eb=>k _ _ s2 ⟨bs++ [b],by simp,?_,?_,?_⟩
  ·intro c hc
   rcases List.mem_append.mp hc with z|z
   ·exact fr c z
   ·rw[List.mem_singleton.mp z];exact sm.none hb
  ·intro z
   rcases List.mem_append.mp z with z|z
   ·exact nD z
   ·rw[<-List.mem_singleton.mp z,eD]at hb;cases hb
  ·have nb:b≠D:=λz=>by rw[z,eD]at hb;cases hb
   have er:List.range (pre++ [x]).length=List.range pre.length++ [pre.length]:=by simp[List.range_succ]
   rw[er]
   refine Paired.snoc (pr.zZ λy c hc q=> ?_) (by rw[aF nb];exact eb)
   rw[aF (λz=>nD (by rw[<-z];exact hc))]
   exact s2 _ _ q
 ·obtain⟨bs,rfl,fr,nD,pr⟩:=p
  refine hq bs H' sm fr nD ⟨eD,?_⟩
  rw[h3]at pr
  have WG:Paired (λi b=>H' b=some (.lst [.int (g i 0),.int (g i 1),.int (g i 2)])) [0,1,2] bs:=pr
  cases WG with
  |cons h0 t0=>cases t0 with
   |cons h1 t1=>cases t1 with
    |cons h2 t2=>
     cases t2
     exact .cons h0 (.cons h1 (.cons h2 .nil))
theorem bQ{n k:Nat}{x:V}(h:(iG n)[k]?=some x):k<n/\x= .int (k:Int):=by
 unfold iG at h
 rw[List.getElem?_map]at h
 cases q:(List.range n)[k]? with
 |none=>rw[q]at h;cases h
 |some z=>
  rw[q]at h
  have hz:=List.getElem?_eq_some_iff.mp q
  obtain⟨h1,h2⟩:=hz
  have ZM:k<n:=by simpa using h1
  rw[List.getElem_range]at h2
  subst h2
  cases h
  exact⟨ZM,rfl⟩
theorem Ub(val:Nat->Int):preSum val 3=val 0+val 1+val 2:=by simp[preSum]
abbrev Uc (K:PySem.W.Frag):List V->Hp->VK->Prop:=λxs H Q=> ∃p bs,xs=[.ref p]/\aN K H p ((bs:List Bool).map V.bl)/\Q (.bl (bs.all id)) H
theorem vW{d:PyData}(h:SeqAt.shaped d=true):PyData.eqv d d=true:=SeqAt.eqv_refl d (SeqAt.canLay_of_shaped h)
theorem NQ{K:PySem.W.Frag}{H:Hp}{x y:V}{Q:VK}(d:PyData)(hx:zX K H x d)(hy:zX K H y d)(hs:SeqAt.shaped d=true)(q:Q (.bl true) H):GS K false x y H Q:=
 ⟨d,d,hx,hy,hs,hs,by rw[vW hs];exact q⟩
theorem vt{K:PySem.W.Frag}{H:Hp}{x y:V}{Q:VK}(d:PyData)(hx:zX K H x d)(hy:zX K H y d)(hs:SeqAt.shaped d=true)(q:Q (.bl false) H):GS K true x y H Q:=
 ⟨d,d,hx,hy,hs,hs,by rw[vW hs];exact q⟩
theorem iA{f g:Nat->Nat->Int}(h:∀i j,i<3->j<3->f i j=g i j):mk3 f=mk3 g:=by
 simp only[mk3,h 0 0 (by decide) (by decide),h 0 1 (by decide) (by decide),h 0 2 (by decide) (by decide),h 1 0 (by decide) (by decide),h 1 1 (by decide) (by decide),h 1 2 (by decide) (by decide),h 2 0 (by decide) (by decide),h 2 1 (by decide) (by decide),h 2 2 (by decide) (by decide)]
theorem aS(a b:List (List Int)){i j:Nat}(hi:i<3)(hj:j<3):ent (fq a b) i j=ent a i 0*ent b 0 j+ent a i 1*ent b 1 j+ent a i 2*ent b 2 j:=cy _ hi hj
theorem bh(a:List (List Int)){i j:Nat}(hi:i<3)(hj:j<3):ent (dR a) i j=ent a j i:=cy _ hi hj
theorem Dp(a b c:List (List Int)):fq (fq a b) c=fq a (fq b c):=by
 refine iA λi j hi hj=> ?_
 rw[aS a b hi (by decide),aS a b hi (by decide),aS a b hi (by decide),aS b c (by decide) hj,aS b c (by decide) hj,aS b c (by decide) hj]
 grind
theorem vX(a b:List (List Int)):dR (fq a b)=fq (dR b) (dR a):=by
 refine iA λi j hi hj=> ?_
 rw[aS a b hj hi,bh b hi (by decide),bh b hi (by decide),bh b hi (by decide),bh a (by decide) hj,bh a (by decide) hj,bh a (by decide) hj]
 grind
theorem Bv{a:List (List Int)}(h:bC a):dR (dR a)=a:=by
 rw[oY h]
 refine iA λi j hi hj=> ?_
 rw[bh _ hj hi,cy _ hi hj]
def gX(m b:List (List Int)):List (List Int):=fq (fq b m) (dR b)
theorem yS{m:List (List Int)}(b:List (List Int))(hb:bC b):dR (gX m b)=gX (dR m) b:=by
 unfold gX
 rw[vX,vX,Bv hb,Dp]
def ko(m:List (List Int))(i j:Nat):Int:=ent m ((i+1)%3) ((j+1)%3)*ent m ((i+2)%3) ((j+2)%3) -ent m ((i+1)%3) ((j+2)%3)*ent m ((i+2)%3) ((j+1)%3)
def aK(m:List (List Int)):Int:=ent m 0 0*ko m 0 0+ent m 0 1*ko m 0 1+ent m 0 2*ko m 0 2
theorem bV(m:List (List Int)):aK m=ent m 0 0*(ent m 1 1*ent m 2 2-ent m 1 2*ent m 2 1)+ent m 0 1*(ent m 1 2*ent m 2 0-ent m 1 0*ent m 2 2)+ent m 0 2*(ent m 1 0*ent m 2 1-ent m 1 1*ent m 2 0):=rfl
theorem kC(a b:List (List Int)):aK (fq a b)=aK a*aK b:=by
 rw[bV,bV,bV]
 simp only[aS a b (show 0<3 by decide) (show 0<3 by decide),aS a b (show 0<3 by decide) (show 1<3 by decide),aS a b (show 0<3 by decide) (show 2<3 by decide),aS a b (show 1<3 by decide) (show 0<3 by decide),aS a b (show 1<3 by decide) (show 1<3 by decide),aS a b (show 1<3 by decide) (show 2<3 by decide),aS a b (show 2<3 by decide) (show 0<3 by decide),aS a b (show 2<3 by decide) (show 1<3 by decide),aS a b (show 2<3 by decide) (show 2<3 by decide)]
 grind
theorem m3(i:Nat)(k:Nat):((i:Int)+(k:Int))%3=(((i+k)%3:Nat):Int):=by omega
theorem qb(i:Nat):i%3<3:=Nat.mod_lt _ (by decide)
theorem jO(f:Nat->Int){c:Nat}(h:c<3):xV [V.int (f 0),.int (f 1),.int (f 2)] (c:Int)=some (.int (f c)):=by
 rcases aC h with rfl|rfl|rfl<;>rfl
theorem FD{m:List (List Int)}{n:Nat}(h:Bd n m)(i j:Nat):(ko m i j).natAbs<2^(n+n+1):=
 qF (dz (h _ _ (qb _) (qb _)) (h _ _ (qb _) (qb _))) (dz (h _ _ (qb _) (qb _)) (h _ _ (qb _) (qb _)))
theorem nH{H:Hp}{t b0 b1 b2:Addr}(g:Nat->Nat->Int)(e:H t=some (.lst [.ref b0,.ref b1,.ref b2]))(h0:H b0=some (.lst [.int (g 0 0),.int (g 0 1),.int (g 0 2)]))(h1:H b1=some (.lst [.int (g 1 0),.int (g 1 1),.int (g 1 2)]))
  (h2:H b2=some (.lst [.int (g 2 0),.int (g 2 1),.int (g 2 2)])):Tab H t [b0,b1,b2] (mk3 g):=⟨e,.cons h0 (.cons h1 (.cons h2 .nil))⟩
def gy(m:List (List Int)):List (List Int):=mk3 λi j=>ko m j i
def kL(d:Int):List (List Int):=mk3 λi j=>if i=j then d else 0
theorem cD(m:List (List Int)){i j:Nat}(hi:i<3)(hj:j<3):ent (gy m) i j=ko m j i:=cy _ hi hj
theorem Bw(m:List (List Int)):fq (gy m) m=kL (aK m):=by
 refine iA λi j hi hj=> ?_
 rw[cD m hi (by decide),cD m hi (by decide),cD m hi (by decide),bV]
 rcases aC hi with rfl|rfl|rfl<;>rcases aC hj with rfl|rfl|rfl<;>simp only[ko,Nat.reduceAdd,Nat.reduceMod,Nat.reduceEqDiff,if_true,if_false]<;>grind
theorem GW(m:List (List Int)):fq m (gy m)=kL (aK m):=by
 refine iA λi j hi hj=> ?_
 rw[cD m (by decide) hj,cD m (by decide) hj,cD m (by decide) hj,bV]
 rcases aC hi with rfl|rfl|rfl<;>rcases aC hj with rfl|rfl|rfl<;>simp only[ko,Nat.reduceAdd,Nat.reduceMod,Nat.reduceEqDiff,if_true,if_false]<;>grind
structure Kd(X:Cx)(st:List Stmt)(t:TS):Prop where
 h:zL X st t
theorem mR{X:Cx}{st:List Stmt}{t:TS}(h:Kd X st t):zL X st t:=h.h
theorem ao{X:Cx}{a:Stmt}{b:List Stmt}{ta tb:TS}(ha:PS X a ta)(hb:Kd X b tb):Kd X (a::b) (QA ta tb):=⟨Jm ha hb.h⟩
theorem aM{X:Cx}{a:Stmt}{ta:TS}(ha:PS X a ta):Kd X [a] ta:=⟨c6 ha⟩
section
variable{X:Cx}{pins:List (Addr×Obj)}{σ:St}{H:Hp}{s:Shared}{h':Heap}
theorem Inv.rG{t':Nat}{ch:List Addr}(I:Inv X pins σ H s)(k:∀b o,b∉ch->s.heap.get? b=some o->h'.get? b=some o)(hf:∀b∈ch,fO X pins H b):Inv X pins σ H {s with heap:=h',toks:=t'}:=by
 have SK:∀b u,H b=some u->b∉ch:=λb u e z=>by have:=(hf b z).1;rw[e]at this;cases this
 refine I.step (g':=s.gens) (d':=s.drawn) (ch:=ch) (λb hb=> ?_) (λb o _ _ hc e _=>k b o hc e) (λb o _ _ hc e _=>⟨o.slots,k b o hc e⟩) (λ_ _ _ _ n=>n)
  (λb o hc e=>⟨o,k b o hc e⟩) (λ_ _ e=>e) (λ_ _ _ e=>e) (λb ps e=>⟨#[],by rw[e];simp⟩) (λm hm=> ?_) (λb u e=> ?_) (.refl I.bare.bare)
 ·obtain⟨f0,f1,f2,f3,f4,f5⟩:=hf b hb
  exact⟨f3,f1,f4,f5⟩
 ·obtain⟨o,es,ep,ho,r⟩:=hm
  exact⟨o,es,ep,k _ o (λz=>(hf _ z).2.1 rfl) ho,r⟩
 ·refine(I.hok b u e).stay (λc v hc q=>k c v ?_ q) (λ_ q=>q) λ_ _ q=>q
  rcases hc with z|z
  ·rw[z];exact SK b u e
  ·exact SK c _ z
theorem Inv.Qa{T:Addr}{o:HO}(I:Inv X pins σ H s)(hf:fO X pins H T)(new:gb X.prog X.w (upd H T o) s.heap T o):Inv X pins σ (upd H T o) s:=by
 obtain⟨f0,f1,f2,f3,f4,f5⟩:=hf
 have ne:∀{b u},H b=some u->b≠T:=λ {b u} e z=>by rw[z,f0]at e;cases e
 refine I.step (g':=s.gens) (d':=s.drawn) (t':=s.toks) (h':=s.heap) (ch:=[T]) (λb hb=> ?_) (λb o _ _ _ e _=>e) (λb o _ _ _ e _=>⟨o.slots,e⟩) (λb o hc _ n=> ?_)
  (λb o _ e=>⟨o,e⟩) (λb xs e=>by rw[aF (ne e)];exact e) (λb _ _ e=>by rw[aF (ne e)];exact e) (λb ps e=>⟨#[],by rw[aF (ne e),e];simp⟩) (λm hm=>hm) (λb u e=> ?_) (.refl I.bare.bare)
 ·have e:b=T:=by simpa using hb
  subst e
  exact⟨f3,f1,f4,f5⟩
 ·rw[aF (λz=>hc (by simp[z]))];exact n
 ·by_cases hb:b=T
  ·subst hb;rw[aA]at e;cases e;exact new
  ·rw[aF hb]at e
   exact(I.hok b u e).stay (λc v _ q=>q) (λc q=>by rw[aF (ne q)];exact q) (λc xs q=>by rw[aF (ne q)];exact q) λc ob xs q=>by rw[aF (ne q)];exact q
end
def Sl(K:PySem.W.Frag)(a b:Addr):It:=
 ⟨λi H=> ∃xs ys x y,aN K H a xs/\aN K H b ys/\xs[i]?=some x/\ys[i]?=some y,
  λi H v H'=> ∃T x y,v= .ref T/\H T=none/\(∀xs,aN K H a xs->xs[i]?=some x)/\(∀ys,aN K H b ys->ys[i]?=some y)/\H'=upd H T (.tup [x,y]),
  λi H=> ∃xs ys,aN K H a xs/\aN K H b ys/\(xs.length<=i∨ys.length<=i)⟩
def Ud(z TI TO i1 i2 a b:Addr)(i:Nat)(h:Heap):Prop:=
 IsZip h z TI TO .none/\IsPair h TI (.ref i1) (.ref i2)/\(∃p q,IsPair h TO p q)/\h.IsListIter i1 a i/\h.IsListIter i2 b i
theorem Ke{P:Program}{w:World}{K:PySem.W.Frag}{elts:List Expr}{x1}{pos:Pos}(z TI TO i1 i2 a b:Addr)(D:ZipApart z TI TO i1 i2 a b):Turn P w K (.Tuple elts x1 pos) (Sl K a b) [z,TI,TO,i1,i2] z (Ud z TI TO i1 i2 a b) where
 mem:=by simp
 obj:=λi h st c hc=>by
  obtain⟨hz,hTI,⟨p,q,hTO⟩,⟨o1,e1,c1,d1⟩,⟨o2,e2,c2,d2⟩⟩:=st
  simp only[List.mem_cons,List.not_mem_nil,or_false]at hc
  rcases hc with rfl|rfl|rfl|rfl|rfl
  ·exact⟨_,hz,λv e=>by cases e⟩
  ·exact⟨_,hTI,λv e=>by cases e⟩
  ·exact⟨_,hTO,λv e=>by cases e⟩
  ·exact⟨_,e1,λv e=>by rw[d1]at e;cases e⟩
  ·exact⟨_,e2,λv e=>by rw[d2]at e;cases e⟩
 keep:=λi h h' st k=>by
  obtain⟨hz,hTI,⟨p,q,hTO⟩,h1,h2⟩:=st
  exact⟨k z (by simp) _ hz,k TI (by simp) _ hTI,⟨p,q,k TO (by simp) _ hTO⟩,h1.at λo e=>k i1 (by simp) o e,h2.at λo e=>k i2 (by simp) o e⟩
 item:=by
  intro X hP hw hK hc i pins s σ H E I hf st hg
  subst hP hw hK
  obtain⟨xs,ys,x,y,Vk,Vl,hx,hy⟩:=hg
  obtain⟨hz,hTI,⟨p,q,hTO⟩,h1,h2⟩:=st
  obtain⟨ia,ra,pa,za⟩:=I.list Vk
  obtain⟨ib,rb,pb,zb⟩:=I.list Vl
  obtain⟨u,hu,ru⟩:=ra.get hx
  obtain⟨v,hv,rv⟩:=rb.get hy
  refine wpAny_pyNext_zip_item D hz hTI hTO h1 h2 pa.isList pb.isList (x:=u) (y:=v) (by simpa using hu) (by simpa using hv) λh' a1 a2 a3 a4 a5 a6 hk=> ?_
  refine⟨_,rfl,?_⟩
  have WH:=hk _ _ D.TIz D.TITO D.TIi1 D.TIi2 hTI
  have f4:∀c∈ [z,TO,i1,i2],fO X pins H c:=λc hc=>hf c (by simp only[List.mem_cons,List.not_mem_nil,or_false]at hc ⊢;rcases hc with rfl|rfl|rfl|rfl<;>simp)
  have I1:Inv X pins σ H {s with heap:=h'}:=I.rG (t':=s.toks) (ch:=[z,TO,i1,i2]) (λc o hc e=>hk c o (λq=>hc (by simp[q])) (λq=>hc (by simp[q])) (λq=>hc (by simp[q])) (λq=>hc (by simp[q])) e) f4
  have hn:H s.heap.objs.size=none:=I.hok.fresh (Nat.le_refl _)
  have fT:=I.CW (b:=s.heap.objs.size) (Nat.le_refl _) hn
  have I2:Inv X pins σ (upd H s.heap.objs.size (.tup [x,y])) {s with heap:=h'}:=I1.Qa fT ⟨by show 2<=sizeLine;decide,[u,v],.cons ru (.cons rv .nil),⟨_,a5,rfl,_,rfl⟩⟩
  refine wpAny_letOwnedTupleGo_zip (s:={s with heap:=h'}) a1 λh2' hz' hs'=> ?_
  have lt:∀{c o},s.heap.get? c=some o->c≠s.heap.objs.size:=λe=>Nat.ne_of_lt (Heap.lt_size e)
  obtain⟨o1,e1,_⟩:=id h1
  obtain⟨o2,e2,_⟩:=id h2
  have neT:∀c∈ [z,TI,TO,i1,i2],c≠s.heap.objs.size:=λc hc=>by
   simp only[List.mem_cons,List.not_mem_nil,or_false]at hc
   rcases hc with rfl|rfl|rfl|rfl|rfl
   ·exact lt hz
   ·exact lt hTI
   ·exact lt hTO
   ·exact lt e1
   ·exact lt e2
  obtain⟨g0,g1,g2,g3,g4,g5⟩:=hf z (by simp)
  have I3:Inv X pins σ (upd H s.heap.objs.size (.tup [x,y])) {s with heap:=h2'}:=Inv.turned (s:={s with heap:=h'}) (h':=h2') I2 (it:=z) (t':=s.toks) (λc o hc e=>hs'.extBut _ _ hc e) (by rw[aF (neT z (by simp))];exact g0) g1 g3 g4 g5
  refine⟨.ref s.heap.objs.size,_,I3,rfl,⟨_,x,y,rfl,hn,λzs hzs=>by rw[I.vK hzs Vk];exact hx,λzs hzs=>by rw[I.vK hzs Vl];exact hy,rfl⟩,?_,λc hc=> ?_⟩
  ·exact⟨hz',hs'.extBut _ _ D.TIz WH,⟨_,_,hs'.extBut _ _ D.TOz a2⟩,a3.extBut hs'.extBut D.i1z,a4.extBut hs'.extBut D.i2z⟩
  ·rw[aF (neT c hc)];exact(hf c hc).1
 done:=by
  intro X hP hw hK hc i pins s σ H E I hf st hg
  subst hP hw hK
  obtain⟨xs,ys,Vk,Vl,hend⟩:=hg
  obtain⟨hz,hTI,⟨p,q,hTO⟩,h1,h2⟩:=st
  obtain⟨ia,ra,pa,za⟩:=I.list Vk
  obtain⟨ib,rb,pb,zb⟩:=I.list Vl
  have la:=ra.length
  have lb:=rb.length
  have f4:∀c∈ [z,TO,i1,i2],fO X pins H c:=λc hc=>hf c (by simp only[List.mem_cons,List.not_mem_nil,or_false]at hc ⊢;rcases hc with rfl|rfl|rfl|rfl<;>simp)
  refine wpAny_pyNext_zip_end (I.ok.hd hc) D hz hTI hTO h1 h2 pa.isList pb.isList (hend.imp (λq=>by simp;omega) (λq=>by simp;omega)) λh' hk=>⟨rfl,?_⟩
  exact I.rG (t':=s.toks) (ch:=[z,TO,i1,i2]) (λc o hc e=>hk c o (λq=>hc (by simp[q])) (λq=>hc (by simp[q])) (λq=>hc (by simp[q])) (λq=>hc (by simp[q])) e) f4
 self:=λ_ _ _ _ _ st h=>wpAny_pyIter_zip st.1 h
def WI(K:PySem.W.Frag)(ta:TA):TI:=λσ H R=>ta σ H λvs H1=> ∃a b xs ys,vs=[.ref a,.ref b]/\aN K H1 a xs/\aN K H1 b ys/\R (Sl K a b) H1
section
variable{X:Cx}
theorem Aa{elts:List Expr}{x1}{tpos:Pos}{a b:Expr}{ta:TA}{p pos:Pos}(hg:Gl X "zip")(hm:X.mg "zip"=none)(ha:PA X [a,b] ta)(hs:starEach [a,b] X.env=[(false,eval a X.env),(false,eval b X.env)]:=by rfl)(hs2:starEach [b] X.env=[(false,eval b X.env)]:=by rfl):
  PI X (.Tuple elts x1 tpos) (.Call (.Name "zip" p) [a,b] [] pos) (WI X.K ta):=by
 intro pins s σ H R I h
 refine Call_ (kG I hg hm boot_zip (PyProof.Rows.callWith_type1 (fZ (ha pos pins s σ H _ I h) λus s1 ⟨vs,H1,I1,r1,q1⟩=> ?_) (by rw[hs,hs2]) (by rw[hs2];rfl)))
 obtain⟨l1,l2,xs,ys,e,q1,q2,q⟩:=q1
 subst e
 cases r1 with
 |cons r rr=>
  cases rr with
  |cons r' rr=>
   cases rr
   cases r
   cases r'
   obtain⟨ia,ra,pa,za⟩:=I1.list q1
   obtain⟨ib,rb,pb,zb⟩:=I1.list q2
   have ZN:l1<s1.heap.objs.size:=by obtain⟨o,e,_⟩:=pa.isList;exact Heap.lt_size e
   have Vm:l2<s1.heap.objs.size:=by obtain⟨o,e,_⟩:=pb.isList;exact Heap.lt_size e
   refine call_zip_2 pa.isList pb.isList λh' hz hTI hTO hi1 hi2 hsz hk=> ?_
   refine wpAny_pyIter_zip hz ?_
   refine⟨_,[s1.heap.objs.size+4,s1.heap.objs.size+2,s1.heap.objs.size+3,s1.heap.objs.size,s1.heap.objs.size+1],_,_,H1,rfl,I1.kept (t':=s1.toks) hk,Ke _ _ _ _ _ l1 l2 (zipApart_new ZN Vm),⟨hz,hTI,⟨_,_,hTO⟩,hi1,hi2⟩,λc hc=> ?_,q⟩
   have hc':s1.heap.objs.size<=c:=by
    simp only[List.mem_cons,List.not_mem_nil,or_false]at hc
    rcases hc with rfl|rfl|rfl|rfl|rfl<;>first|exact Nat.le_refl _|exact Nat.le_add_right _ _
   exact I1.CW hc' (I1.hok.fresh hc')
end
section
variable{X:Cx}{sc:Scope}{N2:List Str}{x y:Str}{px CP tpos:Pos}{x1:Nat}{elt iter:Expr}{gC p pos:Pos}{wi:TI}{te:TE}{P:Addr}
theorem Bx{own:List Str}{i:Nat}{z:Str}(B:rj sc.names X.env.scope.names own N2 X.N)(hz:own[i]?=some z)(s:Shared)(H:Hp)(fp:List Addr):PG (X.comp sc (own++N2) s H fp) (.Name z px) (cg i):=by
 have hi:(X.comp sc (own++N2) s H fp).N[i]?=some z:=by
  show(own++N2)[i]?=some z
  rw[List.getElem?_append_left (List.getElem?_eq_some_iff.mp hz).1];exact hz
 rcases B.own z (List.mem_of_getElem? hz)with e|e
 ·exact bL (i:=i) B.NF hi (.inl (kJ (env:=X.env) e (.inl rfl))) (.inr (kJ (env:=X.env) e (.inl rfl)))
 ·refine bL (i:=i) B.NF hi (.inr (kJ (env:=X.env) e (.inr rfl))) (.inl ?_)
  show(sc.names.lookup z==some NameKind.cell)=true
  rw[e];rfl
def g2(K:PySem.W.Frag):TG:=Tc K 2 (Jp (cg 0) (Jp (cg 1) SY))
theorem Kf(hc:X.calm=true)(B:rj sc.names X.env.scope.names [x,y] N2 X.N)(s:Shared)(H:Hp)(fp:List Addr):PG (X.comp sc ([x,y]++N2) s H fp) (.Tuple [.Name x px,.Name y CP] x1 tpos) (g2 X.K):=
 zM (X:=X.comp sc ([x,y]++N2) s H fp) hc (cz (Bx (i:=0) B rfl s H fp) (cz (Bx (i:=1) B rfl s H fp) kg))
theorem Kg(hc:X.calm=true)(hi:PI X (.Tuple [.Name x px,.Name y CP] x1 tpos) iter wi)(hB:zQ sc.names X.env.scope.names [x,y] N2 X.N=true)(hk:sc.kind= .function)(he:∀s H fp,PE (X.comp sc ([x,y]++N2) s H fp) elt te)
  (hs:∀x,foldedSetIterable iter X.env x=pure x:=by intro _;rfl):PE X (.ListComp elt [⟨.Tuple [.Name x px,.Name y CP] x1 tpos,iter,[],0⟩] sc pos) (iT 2 wi (g2 X.K) te):=
 Bp (own:=[x,y]) hc hi (jN hB) hk (λs H fp=>Kf hc (jN hB) s H fp) he hs
end
theorem By{K:PySem.W.Frag}{H1:Hp}{a b:Addr}{xs ys:List V}{σ:St}{te:TE}{Q:VK}(ha:aN K H1 a xs)(hb:aN K H1 b ys)(hl:xs.length=ys.length)(hz:xs.length<=sizeLine){D:Addr}(hD:H1 D=none)(f:V->V->V)
  (hs:∀(i:Nat) x y,xs[i]?=some x->ys[i]?=some y-> ∀H' (Q':VK),au H1 H'->Q' (f x y) H'->te (some x::some y::σ) H' Q')
  (hq:∀H',au H1 H'->H' D=some (.lst (List.zipWith f xs ys)) ->Q (.ref D) H'):lZ 2 (g2 K) te σ (Sl K a b) H1 D Q:=by
 refine⟨λi m acc σ' H'=>m=xs.length-i/\i<=xs.length/\acc=(List.zipWith f xs ys).take i/\(∃o o',σ'=o::o'::σ)/\au H1 H'/\H' D=some (.lst acc),⟨xs.length,rfl,Nat.zero_le _,by simp,⟨none,none,rfl⟩,au.up hD,aA⟩,?_⟩
 rintro i m acc σ' H' ⟨rfl,hi,hacc,⟨o,o',rfl⟩,sm,eD⟩
 have ZO:acc.length=i:=by rw[hacc];simp;omega
 by_cases hlt:i<xs.length
 ·have hlt':i<ys.length:=by omega
  refine .inr ⟨⟨xs,ys,xs[i],ys[i],sm.seq ha,sm.seq hb,by simp[hlt],by simp[hlt']⟩,by omega,λv H2 yl=> ?_⟩
  obtain⟨T,x,y,rfl,hT,hx,hy,rfl⟩:=yl
  have ex:=hx xs (sm.seq ha)
  have ey:=hy ys (sm.seq hb)
  have s2:au H' (upd H' T (.tup [x,y])):=au.up hT
  refine⟨T,[x,y],rfl,p6.of aA,rfl,x,[y],rfl,y,[],rfl,rfl,?_⟩
  show te (some x::some y::σ) _ _
  refine hs i x y ex ey _ _ (sm.trans s2) ?_
  refine⟨s2 _ _ eD,xs.length- (i+1),by omega,rfl,hlt,?_,⟨_,_,rfl⟩,(sm.trans s2).upd hD,aA⟩
  rw[hacc,List.take_succ,List.getElem?_zipWith,ex,ey]
  rfl
 ·have e:i=xs.length:=by omega
  subst e
  refine .inl ⟨⟨xs,ys,sm.seq ha,sm.seq hb,.inl (Nat.le_refl _)⟩,eD,hq H' sm ?_⟩
  rw[eD,hacc]
  rw[List.take_of_length_le (by rw[List.length_zipWith];exact Nat.min_le_left ..)]
section
variable{X:Cx}{sc:Scope}{N2:List Str}{x y:Str}{px CP:Pos}{elt iter Fq:Expr}{gC p pos:Pos}{wi Vi:TI}{te:TE}{P:Addr}
theorem FF{B:Around}{own:List Str}{i:Nat}{z:Str}(Bk:rj sc.names X.env.scope.names own N2 X.N)(hnc:∀y∈sc.names,y.2≠ .cell)(hz:own[i]?=some z)(code:Value)(s:Shared)(H:Hp)(fp:List Addr):PG (X.gen B sc (own++N2) code s H fp) (.Name z px) (cg i):=by
 have hi:(X.gen B sc (own++N2) code s H fp).N[i]?=some z:=by
  show(own++N2)[i]?=some z
  rw[List.getElem?_append_left (List.getElem?_eq_some_iff.mp hz).1];exact hz
 rcases Bk.own z (List.mem_of_getElem? hz)with e|e
 ·exact bL (i:=i) Bk.NF hi (.inl e) (.inr e)
 ·exact absurd rfl (hnc _ (mem_of_lookup e))
end
section
variable{prog:Program}{w:World}{A:Around}{E:Value->Shared->Prop}{s:Shared}
theorem yT{it t:Addr}{items:Array Value}(hne:t≠it):∀(n i:Nat) (s:Shared) (Q:List Value->Shared->Prop),s.heap.IsListIter it t i->s.heap.IsList t items->i+n<=items.size->
  (∀h',h'.IsListIter it t (i+n) ->Heap.SameBut it s.heap h'->Q ((items.toList.drop i).take n) {s with heap:=h'}) ->wpAny (model prog w) A (draw (.ref it) n) Q E s
 |0,i,s,Q,hit,_,_,hQ=>by
  show wpAny _ _ (pure []) Q E s
  exact wpAny_pure (by simpa using hQ s.heap hit (Heap.SameBut.refl ..))
 |n+1,i,s,Q,hit,ht,hle,hQ=>by
  have hlt:i<items.size:=by omega
  show wpAny _ _ (pyNext (.ref it)>>=_) Q E s
  refine wpAny_bind (wpAny_pyNext_list_item hit ht (x:=items[i]) (by simp[hlt]) λh₁ Dq hs₁=> ?_)
  refine wpAny_bind (wpAny_holding (yT hne n (i+1) _ _ Dq (ht.extBut hs₁.extBut hne) (by omega) λh₂ Rn hs₂=>wpAny_pure ?_))
  have hd:items.toList.drop i=items[i]::items.toList.drop (i+1):=by simp[List.drop_eq_getElem_cons,hlt]
  have:=hQ h₂ (by rw[show i+(n+1)=i+1+n by omega];exact Rn) (hs₁.trans hs₂)
  rw[hd,List.take_succ_cons]at this
  exact this
theorem Ab{t:Addr}{items:Array Value}{targets:List (Bool×(Value->Sem Unit))}{Q:Unit->Shared->Prop}(hh:A.handled=none)(ht:s.heap.IsList t items)
  (hn:targets.length=items.size)(hstar:targets.findIdx? (·.1)=none)
  (h:∀h',Heap.ExtBut s.heap.objs.size s.heap h'->wpAny (model prog w) A (assignInOrder (targets.map (·.2)) items.toList) Q E {s with heap:=h'}):
  wpAny (model prog w) A (unpack (.ref t) targets) Q E s:=by
 have hlt:t≠s.heap.objs.size:=by obtain⟨o,ho,_⟩:=ht;exact Nat.ne_of_lt (Heap.lt_size ho)
 unfold unpack
 rw[hn,hstar]
 refine wpAny_bind (wpAny_holding ?_)
 unfold unpackItems
 refine wpAny_bind ?_
 unfold notIterableAtAll
 refine wpAny_bind (wpAny_specialOf ht.typeIs PySem.F.slot_list_iter.lookup ?_)
 refine wpAny_pure ?_
 simp only[Bool.false_eq_true,if_false]
 refine wpAny_bind (wpAny_holding (wpAny_pyIter_list ht ?_))
 refine wpAny_bind (wpAny_holding (yT hlt items.size 0 _ _ ⟨_,Heap.get?_push_size _ rfl,rfl,rfl⟩ (Heap.IsList.push ht _) (by omega) λh₁ Dq hs₁=> ?_))
 have hall:List.take items.size (List.drop 0 items.toList)=items.toList:=by
  rw[List.drop_zero];exact List.take_of_length_le (by simp)
 rw[hall]
 rw[if_neg (by simp)]
 have ht₁:h₁.IsList t items:=(Heap.IsList.push ht _).extBut hs₁.extBut hlt
 refine wpAny_bind (wpAny_holding (wpAny_pyNext_list_end hh Dq ht₁ (by simp) λh₂ Ue=> ?_))
 simp only[Option.isSome_none,Bool.false_eq_true,if_false]
 refine wpAny_pure (h h₂ λb o hb e=>Ue b o hb (hs₁.extBut b o hb (Heap.get?_push_of_some _ e)))
end
section
variable{X:Cx}
def Ug(K:PySem.W.Frag)(n:Nat)(t:Np):TG:=λv σ H Q=> ∃a xs,v= .ref a/\aN K H a xs/\xs.length=n/\t xs σ H Q
theorem rH{es:List Expr}{k:Nat}{t:Np}{n:Nat}{pos:Pos}(hc:X.calm=true)(h:SX X es t)
  (hn:(assignEach es X.env).length=n:=by rfl)(hst:(assignEach es X.env).findIdx? (·.1)=none:=by rfl):PG X (.Tuple es k pos) (Ug X.K n t):=by
 intro pins s σ H v u Q I r hw
 obtain⟨a,xs,e1,hq,hl,hw⟩:=hw
 subst e1
 cases r
 obtain⟨its,rv,ht,hz⟩:=I.list hq
 rw[PyProof.Rows.assign_Tuple]
 refine wpAny_bind (wpAny_standAt (Ab (I.ok.hd hc) ht.isList (by simp[hn,<-hl,rv.length]) hst λh' hx=> ?_))
 have I1:Inv X pins σ H {s with heap:=h'}:=I.kept (t':=s.toks) λb o e=>hx b o (Nat.ne_of_lt (Heap.lt_size e)) e
 exact h pins _ σ H xs _ Q I1 (by simpa using rv) hw
end
def cP(H:Hp)(a:Addr)(x:Nat->Int):Prop:=H a=some (.lst [.int (x 0),.int (x 1),.int (x 2)])
theorem cP.same{H H':Hp}{a:Addr}{x:Nat->Int}(h:cP H a x)(s:au H H'):cP H' a x:=s _ _ h
def pairF(m:List (List Int))(x y:Nat->Int)(t:Nat):Int:=x (t/3)*ent m (t/3) (t%3)*y (t%3)
def aJ(m:List (List Int))(x y:Nat->Int):Int:=PySem.preSum (pairF m x y) 9
theorem bH(m:List (List Int))(x y:Nat->Int):aJ m x y=
  x 0*ent m 0 0*y 0+x 0*ent m 0 1*y 1+x 0*ent m 0 2*y 2+x 1*ent m 1 0*y 0+x 1*ent m 1 1*y 1+x 1*ent m 1 2*y 2+x 2*ent m 2 0*y 0+x 2*ent m 2 1*y 1+x 2*ent m 2 2*y 2:=by
 show PySem.preSum (pairF m x y) 9=_
 simp only[PySem.preSum,pairF,Nat.reduceDiv,Nat.reduceMod]
 omega
structure bI(m:List (List Int)):Prop where
 sym:ent m 1 0=ent m 0 1/\ent m 2 0=ent m 0 2/\ent m 2 1=ent m 1 2
 ZP:∃a b c,ent m 0 0=2*a/\ent m 1 1=2*b/\ent m 2 2=2*c
def aH(m:List (List Int))(x:Nat->Int):Int:=aJ m x x/2
theorem eO{m:List (List Int)}(h:bI m)(x:Nat->Int):aJ m x x=2*aH m x:=by
 obtain⟨⟨s1,s2,s3⟩,a,b,c,e1,e2,e3⟩:=h
 have q:aJ m x x=2*(x 0*a*x 0+x 1*b*x 1+x 2*c*x 2+x 0*ent m 0 1*x 1+x 0*ent m 0 2*x 2+x 1*ent m 1 2*x 2):=by
  rw[bH,s1,s2,s3,e1,e2,e3];grind
 unfold aH
 rw[q,Int.mul_ediv_cancel_left _ (by decide)]
theorem Kh{f:Nat->Int}{n:Nat}:∀k,(∀t,t<k->(f t).natAbs<2^n) ->(PySem.preSum f k).natAbs<2^(n+k)
 |0,_=>Nat.two_pow_pos _
 |k+1,h=>oZ (Kh k λt ht=>h t (by omega)) (aL (h k (by omega)) (Nat.le_add_right n k))
theorem Kl{m:List (List Int)}{x y:Nat->Int}{a b c:Nat}(hm:Bd a m)(hx:∀i,i<3->(x i).natAbs<2^b)(hy:∀i,i<3->(y i).natAbs<2^c):(aJ m x y).natAbs<2^(b+a+c+9):=
 Kh 9 λt ht=>dz (dz (hx _ (by omega)) (hm _ _ (by omega) (Nat.mod_lt _ (by decide)))) (hy _ (Nat.mod_lt _ (by decide)))
section
variable{X:Cx}{pos:Pos}
end
def mS(a b c p q r:Int):List (List Int):=mk3 λi j=>match i,j with|0,0=>a|0,1=>p|0,_=>q|1,0=>p|1,1=>b|1,_=>r|_,0=>q|_,1=>r|_,_=>c
theorem Km(a b c p q r:Int):aK (mS a b c p q r)=a*b*c+2*(p*q*r) -a*(r*r) -b*(q*q) -c*(p*p):=by
 rw[bV]
 show a*(b*c-r*r)+p*(r*q-p*c)+q*(p*r-b*q)=_
 grind
theorem FG{n:Nat}{a b c p q r:Int}(ha:a.natAbs<2^n)(hb:b.natAbs<2^n)(hc:c.natAbs<2^n)(hp:p.natAbs<2^n)(hq:q.natAbs<2^n)(hr:r.natAbs<2^n):Bd n (mS a b c p q r):=λi j hi hj=>by
 unfold mS
 rw[cy _ hi hj]
 rcases aC hi with rfl|rfl|rfl<;>rcases aC hj with rfl|rfl|rfl<;>assumption
theorem sM(a b c p q r:Int):bI (mS (2*a) (2*b) (2*c) p q r):=⟨⟨rfl,rfl,rfl⟩,a,b,c,rfl,rfl,rfl⟩
theorem Uh{p a:Int}(h: -a<=p)(h':p<=a):p*p<=a*a:=by
 have h1:0<=a-p:=by omega
 have h2:0<=a+p:=by omega
 have:=Int.mul_nonneg h1 h2
 grind
theorem Dr{H:Hp}{a b c d:Addr}{x y z:HO}(h0:H a=none)(h1:upd H a x b=none)(h2:upd (upd H a x) b y c=none)(h3:upd (upd (upd H a x) b y) c z d=none):H d=none/\(∀e∈ [a,b,c],H e=none)/\d∉ [a,b,c]:=by
 have s0:au H (upd H a x):=au.up h0
 have s1:au (upd H a x) (upd (upd H a x) b y):=au.up h1
 have s2:au (upd (upd H a x) b y) (upd (upd (upd H a x) b y) c z):=au.up h2
 refine⟨(s0.trans (s1.trans s2)).none h3,λe he=> ?_,λhd=> ?_⟩
 ·simp only[List.mem_cons,List.not_mem_nil,or_false]at he
  rcases he with rfl|rfl|rfl
  ·exact h0
  ·exact s0.none h1
  ·exact(s0.trans s1).none h2
 ·simp only[List.mem_cons,List.not_mem_nil,or_false]at hd
  rcases hd with rfl|rfl|rfl
  ·have:=(s1.trans s2) _ _ (aA (H:=H) (a:=d) (o:=x));rw[h3]at this;cases this
  ·have:=s2 _ _ (aA (H:=upd H a x) (a:=d) (o:=y));rw[h3]at this;cases this
  ·rw[aA]at h3;cases h3
def xZ(m:List (List Int))(i:Nat)(g:Nat->Int):List (List Int):=mk3 λr s=>if r=i then g s else ent m r s
theorem Ac{H:Hp}{D R:Addr}{bs:List Addr}{m:List (List Int)}{i:Nat}{g:Nat->Int}(hT:Tab H D bs m)(cN:bC m)(hi:i<3)(hR:H R=some (.lst [.int (g 0),.int (g 1),.int (g 2)]))(nR:R≠D)(nD:D∉bs):
  Tab (upd H D (.lst ((bs.map V.ref).set i (.ref R)))) D (bs.set i R) (xZ m i g):=by
 obtain⟨b0,x1,x2,_⟩:=aY hT cN (i:=0) (by decide)
 obtain⟨b1,y1,y2,_⟩:=aY hT cN (i:=1) (by decide)
 obtain⟨b2,w1,w2,_⟩:=aY hT cN (i:=2) (by decide)
 have hl3:bs.length=3:=by rw[<-hT.2.length,cN.1]
 obtain⟨a0,a1,a2,rfl⟩:∃a0 a1 a2,bs=[a0,a1,a2]:=by
  match bs,hl3 with
  | [a,b,c],_=>exact⟨a,b,c,rfl⟩
 obtain rfl:a0=b0:=V.ref.inj (Option.some.inj x1)
 obtain rfl:a1=b1:=V.ref.inj (Option.some.inj y1)
 obtain rfl:a2=b2:=V.ref.inj (Option.some.inj w1)
 have n0:a0≠D:=λz=>nD (by rw[<-z];simp)
 have n1:a1≠D:=λz=>nD (by rw[<-z];simp)
 have n2:a2≠D:=λz=>nD (by rw[<-z];simp)
 rcases aC hi with rfl|rfl|rfl
 ·exact nH _ aA (by rw[aF nR];exact hR) (by rw[aF n1];exact y2) (by rw[aF n2];exact w2)
 ·exact nH _ aA (by rw[aF n0];exact x2) (by rw[aF nR];exact hR) (by rw[aF n2];exact w2)
 ·exact nH _ aA (by rw[aF n0];exact x2) (by rw[aF n1];exact y2) (by rw[aF nR];exact hR)
theorem cY(m:List (List Int)){i r s:Nat}(g:Nat->Int)(hr:r<3)(hs:s<3):ent (xZ m i g) r s=if r=i then g s else ent m r s:=cy _ hr hs
theorem NR(m:List (List Int)){i j:Nat}(hi:i<3)(hj:j<3)(hij:i≠j)(o:Int):aK (xZ m i λs=>ent m i s+o*ent m j s)=aK m:=by
 rw[bV,bV]
 simp only[cY m _ (show 0<3 by decide) (show 0<3 by decide),cY m _ (show 0<3 by decide) (show 1<3 by decide),cY m _ (show 0<3 by decide) (show 2<3 by decide),cY m _ (show 1<3 by decide) (show 0<3 by decide),cY m _ (show 1<3 by decide) (show 1<3 by decide),cY m _ (show 1<3 by decide) (show 2<3 by decide),cY m _ (show 2<3 by decide) (show 0<3 by decide),cY m _ (show 2<3 by decide) (show 1<3 by decide),cY m _ (show 2<3 by decide) (show 2<3 by decide)]
 rcases aC hi with rfl|rfl|rfl<;>rcases aC hj with rfl|rfl|rfl<;>first|(exact absurd rfl hij)|(simp only[Nat.reduceEqDiff,if_true,if_false];grind)
structure FE(X:Cx)(e:Expr)(t:TE):Prop where
 h:PE X e t
structure FA(X:Cx)(es:List Expr)(t:TA):Prop where
 h:PA X es t
variable{X:Cx}
theorem eV{i j pos}:FE X (.Constant (.int i) j pos) (tC (.int i)):=⟨ah⟩
theorem fe{e t}(h:PE X e t):FE X e t:=⟨h⟩
theorem kM:FA X [] gM:=⟨ak⟩
theorem bR{e es te t}(ha:FE X e te)(hr:FA X es t)(hs:starEach (e::es) X.env=(false,eval e X.env)::starEach es X.env):FA X (e::es) (bK te t):=⟨af ha.h hr.h hs⟩
theorem kN{es t pos}(h:FA X es t):FE X (.List es pos) (TH t):=⟨fQ h.h⟩
theorem Kn{i:Nat}{x:Str}{e:Expr}{te:TE}{pos' pos:Pos}{b:List Stmt}{tb:TS}(hN:X.N.Nodup)(hi:X.N[i]?=some x)(hx:Loc X.env.scope x)(he:FE X e te)(hs:swapsWith e (some (.Name x pos')) pos.line X.env=pure false)(hf:X.fn x=true∨X.env.scope.names.lookup x=some .local)(hb:Kd X b tb):
  Kd X (.Assign [.Name x pos'] e pos::b) (QA (CV te (cg i)) tb):=ao (aX hN hi hx he.h hs hf) hb
theorem Ko{e:Expr}{te:TE}{pos:Pos}(he:FE X e te):Kd X [.Return (some e) pos] (SS te):=aM (aO he.h)
theorem toF{st:List Stmt}{R:TS->Prop}(h:∃t,Kd X st t/\R t):∃t,zL X st t/\R t:=by
 obtain⟨t,a,b⟩:=h
 exact⟨t,a.h,b⟩
def dQ(m:List (List Int)):Bool:=decide (0<ent m 0 0) && (decide (ent m 0 1*ent m 0 1<ent m 0 0*ent m 1 1) && decide (0<aK m))
theorem kq{m:List (List Int)}(h:dR m=m){i j:Nat}(hi:i<3)(hj:j<3):ent m j i=ent m i j:=by
 rw[<-bh m hi hj,h]
theorem Ui(m:List (List Int)):aJ m (λi=>if i=0 then 1 else 0) (λi=>if i=0 then 1 else 0)=ent m 0 0:=by
 rw[bH]
 simp
theorem Uj{m:List (List Int)}(h:dR m=m)(x:Nat->Int)(h0:x 0= -ent m 0 1)(h1:x 1=ent m 0 0)(h2:x 2=0):aJ m x x=ent m 0 0*(ent m 0 0*ent m 1 1-ent m 0 1*ent m 0 1):=by
 rw[bH,h0,h1,h2,kq h (i:=0) (j:=1) (by decide) (by decide)]
 grind
theorem Uk(m:List (List Int)):aJ m (λj=>ent (gy m) 2 j) (λj=>ent (gy m) 2 j)=aK m*ent (gy m) 2 2:=by
 have e:∀j,j<3->ent (gy m) 2 0*ent m 0 j+ent (gy m) 2 1*ent m 1 j+ent (gy m) 2 2*ent m 2 j=if 2=j then aK m else 0:=λj hj=>by
  rw[<-aS _ _ (by decide) hj,Bw,kL,cy _ (by decide) hj]
 have e0:=e 0 (by decide)
 have e1:=e 1 (by decide)
 have e2:=e 2 (by decide)
 rw[if_neg (by decide)]at e0 e1
 rw[if_pos rfl]at e2
 rw[bH,<-e2]
 grind
theorem Qc(m:List (List Int)):ent (gy m) 2 2=ent m 0 0*ent m 1 1-ent m 0 1*ent m 1 0:=by
 rw[cD m (by decide) (by decide)]
 rfl
theorem Kp{H:Hp}{a b c:Addr}{x y:HO}(h0:H a=none)(h1:upd H a x b=none)(h2:upd (upd H a x) b y c=none): [a,b,c].Nodup:=by
 have n1:a≠b:=λe=>by rw[e,aA]at h1;cases h1
 have n2:b≠c:=λe=>by rw[e,aA]at h2;cases h2
 have n3:a≠c:=λe=>by rw[aF (λz=>n2 z.symm),e,aA]at h2;cases h2
 simp[n1,n2,n3]
theorem Ro{a:Bool}{X A B:Prop}(hB:B)(h:a=true->B->X):if a=true then X else(if false=true then A else B):=by
 cases a with
 |false=>exact jv (jv hB)
 |true=>exact xW (h rfl hB)
section
variable{X:Cx}
end
def oM(x:Nat->Int)(b:List (List Int)):Nat->Int:=λj=>x 0*ent b 0 j+x 1*ent b 1 j+x 2*ent b 2 j
theorem GX(b m:List (List Int))(x y:Nat->Int):aJ (fq b m) x y=aJ m (oM x b) y:=by
 rw[bH,bH]
 unfold oM
 simp only[aS b m (show 0<3 by decide) (show 0<3 by decide),aS b m (show 0<3 by decide) (show 1<3 by decide),aS b m (show 0<3 by decide) (show 2<3 by decide),aS b m (show 1<3 by decide) (show 0<3 by decide),aS b m (show 1<3 by decide) (show 1<3 by decide),aS b m (show 1<3 by decide) (show 2<3 by decide),aS b m (show 2<3 by decide) (show 0<3 by decide),aS b m (show 2<3 by decide) (show 1<3 by decide),aS b m (show 2<3 by decide) (show 2<3 by decide)]
 grind
theorem Ds(b m:List (List Int))(x y:Nat->Int):aJ (fq m (dR b)) x y=aJ m x (oM y b):=by
 rw[bH,bH]
 unfold oM
 simp only[aS m (dR b) (show 0<3 by decide) (show 0<3 by decide),aS m (dR b) (show 0<3 by decide) (show 1<3 by decide),aS m (dR b) (show 0<3 by decide) (show 2<3 by decide),aS m (dR b) (show 1<3 by decide) (show 0<3 by decide),aS m (dR b) (show 1<3 by decide) (show 1<3 by decide),aS m (dR b) (show 1<3 by decide) (show 2<3 by decide),aS m (dR b) (show 2<3 by decide) (show 0<3 by decide),aS m (dR b) (show 2<3 by decide) (show 1<3 by decide),aS m (dR b) (show 2<3 by decide) (show 2<3 by decide),
  bh b (show 0<3 by decide) (show 0<3 by decide),bh b (show 0<3 by decide) (show 1<3 by decide),bh b (show 0<3 by decide) (show 2<3 by decide),bh b (show 1<3 by decide) (show 0<3 by decide),bh b (show 1<3 by decide) (show 1<3 by decide),bh b (show 1<3 by decide) (show 2<3 by decide),bh b (show 2<3 by decide) (show 0<3 by decide),bh b (show 2<3 by decide) (show 1<3 by decide),bh b (show 2<3 by decide) (show 2<3 by decide)]
 grind
theorem sN(m b:List (List Int))(x y:Nat->Int):aJ (gX m b) x y=aJ m (oM x b) (oM y b):=by
 unfold gX
 rw[Ds,GX]
theorem Ad{a b:Int}(h:0<a*b)(ha:0<a):0<b:=by
 rcases Int.lt_or_le 0 b with z|z
 ·exact z
 ·have:=Int.mul_nonpos_of_nonneg_of_nonpos (show 0<=a by omega) z
  omega
def NS(m:List (List Int)):Prop:=∀x:Nat->Int,¬(x 0=0/\x 1=0/\x 2=0) ->0<aJ m x x
theorem yU{m:List (List Int)}(hS:dR m=m)(h:NS m):dQ m=true:=by
 have c1:0<ent m 0 0:=by
  have:=h (λi=>if i=0 then 1 else 0) (λz=>by simp at z)
  rw[Ui]at this
  exact this
 have c2:ent m 0 1*ent m 0 1<ent m 0 0*ent m 1 1:=by
  have:=h (λi=>match i with|0=> -ent m 0 1|1=>ent m 0 0|_=>0) (λz=>by have y:ent m 0 0=0:=z.2.1;omega)
  rw[Uj hS _ rfl rfl rfl]at this
  have:=Ad this c1
  omega
 have Yv:0<ent (gy m) 2 2:=by
  rw[Qc,kq hS (i:=0) (j:=1) (by decide) (by decide)]
  omega
 have c3:0<aK m:=by
  have:=h (λj=>ent (gy m) 2 j) (λz=>by have y:ent (gy m) 2 2=0:=z.2.2;omega)
  rw[Uk]at this
  exact Ad (by rw[Int.mul_comm];exact this) Yv
 unfold dQ
 rw[decide_eq_true c1,decide_eq_true c2,decide_eq_true c3]
 rfl
theorem yV{m:List (List Int)}(h:dQ m=true):0<ent m 0 0/\ent m 0 1*ent m 0 1<ent m 0 0*ent m 1 1/\0<aK m:=by
 unfold dQ at h
 simp only[Bool.and_eq_true,decide_eq_true_eq]at h
 exact⟨h.1,h.2.1,h.2.2⟩
theorem nI(a:Int):0<=a*a:=by
 rcases Int.le_total 0 a with h|h
 ·exact Int.mul_nonneg h h
 ·have:=Int.mul_nonneg (show 0<= -a by omega) (show 0<= -a by omega)
  rwa [Int.neg_mul_neg]at this
theorem Ae{a:Int}(h:a*a<=0):a=0:=by
 have:=nI a
 have:a*a=0:=by omega
 rcases Int.mul_eq_zero.mp this with z|z<;>exact z
theorem Rp{m:List (List Int)}(hS:dR m=m)(x:Nat->Int):ent m 0 0*(ent m 0 0*ent m 1 1-ent m 0 1*ent m 0 1)*aJ m x x=
  (ent m 0 0*ent m 1 1-ent m 0 1*ent m 0 1)*((ent m 0 0*x 0+ent m 0 1*x 1+ent m 0 2*x 2)*(ent m 0 0*x 0+ent m 0 1*x 1+ent m 0 2*x 2))
  +((ent m 0 0*ent m 1 1-ent m 0 1*ent m 0 1)*x 1+(ent m 0 0*ent m 1 2-ent m 0 1*ent m 0 2)*x 2)*((ent m 0 0*ent m 1 1-ent m 0 1*ent m 0 1)*x 1+(ent m 0 0*ent m 1 2-ent m 0 1*ent m 0 2)*x 2)
  +ent m 0 0*aK m*(x 2*x 2):=by
 rw[bH,bV,kq hS (i:=0) (j:=1) (by decide) (by decide),kq hS (i:=0) (j:=2) (by decide) (by decide),kq hS (i:=1) (j:=2) (by decide) (by decide)]
 generalize ent m 0 0=a,ent m 0 1=p,ent m 0 2=q,ent m 1 1=b,ent m 1 2=r,ent m 2 2=c
 generalize x 0=u,x 1=v,x 2=w
 grind
theorem yW{m:List (List Int)}(hS:dR m=m)(h:dQ m=true):NS m:=by
 intro x n0
 obtain⟨c1,c2,c3⟩:=yV h
 have e:=Rp hS x
 have f1:0<ent m 0 0*ent m 1 1-ent m 0 1*ent m 0 1:=by omega
 generalize ent m 0 0*ent m 1 1-ent m 0 1*ent m 0 1=fl at e f1
 have q1:=nI (ent m 0 0*x 0+ent m 0 1*x 1+ent m 0 2*x 2)
 have q2:=nI (fl*x 1+(ent m 0 0*ent m 1 2-ent m 0 1*ent m 0 2)*x 2)
 have q3:=nI (x 2)
 have r1:=Int.mul_nonneg (show 0<=fl by omega) q1
 have d1:=Int.mul_pos c1 c3
 have r3:=Int.mul_nonneg (show 0<=ent m 0 0*aK m by omega) q3
 have g1:=Int.mul_pos c1 f1
 refine Ad ?_ g1
 rcases Int.lt_or_le 0 (ent m 0 0*fl*aJ m x x)with z|z
 ·exact z
 ·exfalso
  have s3:ent m 0 0*aK m*(x 2*x 2)<=0:=by omega
  have s2:=Ae (a:=fl*x 1+(ent m 0 0*ent m 1 2-ent m 0 1*ent m 0 2)*x 2) (by omega)
  have s1:fl*((ent m 0 0*x 0+ent m 0 1*x 1+ent m 0 2*x 2)*(ent m 0 0*x 0+ent m 0 1*x 1+ent m 0 2*x 2))<=0:=by omega
  have x2:x 2=0:=by
   refine Ae ?_
   rcases Int.lt_or_le 0 (x 2*x 2)with y|y
   ·have:=Int.mul_pos d1 y
    omega
   ·exact y
  rw[x2,Int.mul_zero,Int.add_zero]at s2
  have x1:x 1=0:=by
   rcases Int.mul_eq_zero.mp s2 with y|y
   ·omega
   ·exact y
  rw[x1,x2,Int.mul_zero,Int.mul_zero,Int.add_zero,Int.add_zero]at s1
  have x0:x 0=0:=by
   have:ent m 0 0*x 0=0:=by
    refine Ae ?_
    rcases Int.lt_or_le 0 (ent m 0 0*x 0*(ent m 0 0*x 0))with y|y
    ·have:=Int.mul_pos f1 y
     omega
    ·exact y
   rcases Int.mul_eq_zero.mp this with y|y
   ·omega
   ·exact y
  exact n0 ⟨x0,x1,x2⟩
theorem vY(b:List (List Int)):aK (dR b)=aK b:=by
 rw[bV,bV]
 simp only[bh b (show 0<3 by decide) (show 0<3 by decide),bh b (show 0<3 by decide) (show 1<3 by decide),bh b (show 0<3 by decide) (show 2<3 by decide),bh b (show 1<3 by decide) (show 0<3 by decide),bh b (show 1<3 by decide) (show 1<3 by decide),bh b (show 1<3 by decide) (show 2<3 by decide),bh b (show 2<3 by decide) (show 0<3 by decide),bh b (show 2<3 by decide) (show 1<3 by decide),bh b (show 2<3 by decide) (show 2<3 by decide)]
 grind
def FH(d:Int):Prop:=d=1∨d= -1
theorem BA{m b:List (List Int)}(hb:FH (aK b)):aK (gX m b)=aK m:=by
 unfold gX
 rw[kC,kC,vY]
 rcases hb with h|h<;>rw[h]<;>omega
theorem Kq{b:List (List Int)}(hb:FH (aK b))(x:Nat->Int)(h:oM x b 0=0/\oM x b 1=0/\oM x b 2=0):x 0=0/\x 1=0/\x 2=0:=by
 obtain⟨h0,h1,h2⟩:=h
 unfold oM at h0 h1 h2
 have d0:aK b≠0:=by rcases hb with z|z<;>rw[z]<;>decide
 have k:∀z:Int,aK b*z=0->z=0:=λz e=>by
  rcases Int.mul_eq_zero.mp e with y|y
  ·exact absurd y d0
  ·exact y
 refine⟨k _ ?_,k _ ?_,k _ ?_⟩<;>rw[bV]<;>grind
theorem Kr{m b:List (List Int)}(h:NS m)(hb:FH (aK b)):NS (gX m b):=λx n0=>by
 rw[sN]
 exact h _ λz=>n0 (Kq hb x z)
theorem vZ{m b:List (List Int)}(hS:dR m=m)(h:dQ m=true)(cb:bC b)(hb:FH (aK b)):dQ (gX m b)=true:=
 yU ((yS b cb).trans (congrArg (gX · b) hS)) (Kr (yW hS h) hb)
theorem iZ{m:List (List Int)}(h:bI m)(c:bC m):dR m=m:=by
 obtain⟨⟨s1,s2,s3⟩,_⟩:=h
 conv=>rhs;rw[oY c]
 refine iA λi j hi hj=> ?_
 rcases aC hi with rfl|rfl|rfl<;>rcases aC hj with rfl|rfl|rfl<;>first|rfl|assumption|(symm;assumption)
theorem kO(m b:List (List Int)){i j:Nat}(hi:i<3)(hj:j<3):ent (gX m b) i j=aJ m (λk=>ent b i k) (λk=>ent b j k):=by
 unfold gX
 rw[aS _ _ hi hj,aS _ _ hi (by decide),aS _ _ hi (by decide),aS _ _ hi (by decide),bh b (by decide) hj,bh b (by decide) hj,bh b (by decide) hj,bH]
 grind
theorem yX{m b:List (List Int)}(h:bI m)(c:bC m)(cb:bC b):bI (gX m b):=by
 have hS:=(yS b cb).trans (congrArg (gX · b) (iZ h c))
 refine⟨⟨kq hS (i:=0) (j:=1) (by decide) (by decide),kq hS (i:=0) (j:=2) (by decide) (by decide),kq hS (i:=1) (j:=2) (by decide) (by decide)⟩,aH m (λk=>ent b 0 k),aH m (λk=>ent b 1 k),aH m (λk=>ent b 2 k),?_,?_,?_⟩<;>rw[kO m b (by decide) (by decide),eO h]
theorem v5{a b c p q r:Int}(ha:0<a)(hab:a<=b)(hp: -a<=p)(xR:p<=a)(hd:0<aK (mS (2*a) (2*b) (2*c) p q r)):dQ (mS (2*a) (2*b) (2*c) p q r)=true:=by
 have h1:=Uh hp xR
 have h2:a*a<=a*b:=Int.mul_le_mul_of_nonneg_left hab (by omega)
 have h3:0<a*b:=Int.mul_pos ha (by omega)
 have h4:p*p<2*a*(2*b):=by
  have:2*a*(2*b)=4*(a*b):=by grind
  omega
 unfold dQ
 rw[decide_eq_true hd,decide_eq_true (p:=0<ent (mS (2*a) (2*b) (2*c) p q r) 0 0) (by show 0<2*a;omega),decide_eq_true (p:=ent (mS (2*a) (2*b) (2*c) p q r) 0 1*ent (mS (2*a) (2*b) (2*c) p q r) 0 1<ent (mS (2*a) (2*b) (2*c) p q r) 0 0*ent (mS (2*a) (2*b) (2*c) p q r) 1 1) h4]
 rfl
section
variable{X:Cx}{sc:Scope}{N2:List Str}{x y:Str}{px CP tpos:Pos}{x1:Nat}{elt iter:Expr}{gC p pos:Pos}{wi:TI}{te:TE}{P:Addr}
end
mutual
inductive DV (H:Hp):V->PyData->Prop
 |gu:DV H .gu .none
 |bl (b:Bool):DV H (.bl b) (.bool b)
 |int (i:Int):DV H (.int i) (.int i)
 |str (x:Str):DV H (.str x) (.str x)
 |lst {a:Addr} {xs:List V} {ds:List PyData}:H a=some (.lst xs) ->CQ H xs ds->DV H (.ref a) (.list ds)
 |tup {a:Addr} {xs:List V} {ds:List PyData}:H a=some (.tup xs) ->CQ H xs ds->DV H (.ref a) (.tuple ds)
inductive CQ (H:Hp):List V->List PyData->Prop
 |nil:CQ H [] []
 |cons {x:V} {d:PyData} {xs:List V} {ds:List PyData}:DV H x d->CQ H xs ds->CQ H (x::xs) (d::ds)
end
theorem CQ.length{H:Hp}:∀{xs:List V} {ds:List PyData},CQ H xs ds->xs.length=ds.length
 |_,_,.nil=>rfl
 |_,_,.cons _ q=>congrArg (· +1) (CQ.length q)
theorem CQ.get{H:Hp}:∀{xs:List V} {ds:List PyData} {i:Nat} {x:V},CQ H xs ds->xs[i]?=some x-> ∃d,ds[i]?=some d/\DV H x d
 |_,_,0,_,.cons a q,e=>by cases e;exact⟨_,rfl,a⟩
 |_,_,i+1,_,.cons a q,e=>CQ.get (i:=i) q (by simpa using e)
theorem Dt{J:It}{H1:Hp}{xs:List V}{σ:St}{te:TE}{Q:VK}(jw:JW J H1 xs)(hz:xs.length<=sizeLine){D:Addr}(hD:H1 D=none)(f:V->HO)
  (hs:∀x∈xs,∀H' (Q':VK),au H1 H'->(∀b H2,H' b=none->au H' H2->H2 b=some (f x) ->Q' (.ref b) H2) ->te (some x::σ) H' Q')
  (hq:∀bs H',au H1 H'->H' D=some (.lst (bs.map V.ref)) ->(∀b∈bs,H1 b=none) ->D∉bs->bs.Nodup->Paired (λx b=>H' b=some (f x)) xs bs->Q (.ref D) H'):
  lZ 1 (cg 0) te σ J H1 D Q:=by
 refine p9 jw hz hD (λpre acc H'=> ∃bs:List Addr,acc=bs.map V.ref/\(∀b∈bs,H1 b=none/\H' b≠none)/\D∉bs/\bs.Nodup/\Paired (λx b=>H' b=some (f x)) pre bs) ⟨[],rfl,λ_ h=>(nomatch h),by simp,List.nodup_nil,.nil⟩ (λpre x post acc H' Q' e hl sm eD p k=> ?_) (λacc H' hl sm eD p=> ?_)
 ·obtain⟨bs,rfl,fr,nD,nn,pr⟩:=p
  refine hs x (by rw[e];simp) H' _ sm λb H2 hb s2 eb=> ?_
  have nb:b≠D:=λz=>by rw[z,eD]at hb;cases hb
  refine k _ _ s2 ⟨bs++ [b],by simp,?_,?_,?_,?_⟩
  ·intro c hc
   rcases List.mem_append.mp hc with z|z
   ·refine⟨(fr c z).1,λy=> ?_⟩
    rw[aF (λw=>nD (by rw[<-w];exact z))]at y
    exact(fr c z).2 (s2.none y)
   ·rw[List.mem_singleton.mp z]
    refine⟨sm.none hb,λy=> ?_⟩
    rw[aF nb,eb]at y
    cases y
  ·intro z
   rcases List.mem_append.mp z with z|z
   ·exact nD z
   ·exact nb (List.mem_singleton.mp z).symm
  ·rw[List.nodup_append]
   refine⟨nn,by simp,λc hc d hd z=> ?_⟩
   rw[List.mem_singleton.mp hd]at z
   exact(fr c hc).2 (by rw[z];exact hb)
  ·refine Paired.snoc (pr.zZ λy c hc q=> ?_) (by rw[aF nb];exact eb)
   rw[aF (λz=>nD (by rw[<-z];exact hc))]
   exact s2 _ _ q
 ·obtain⟨bs,rfl,fr,nD,nn,pr⟩:=p
  exact hq bs H' sm eD (λb hb=>(fr b hb).1) nD nn pr
theorem BB{K:PySem.W.Frag}{H:Hp}{t:Addr}{bs:List Addr}{m:List (List Int)}{σ:St}{Q:VK}(h:Tab H t bs m)(hz:m.length<=sizeLine){D:Addr}(hD:H D=none)
  (hq:∀bs' H',au H H'->(∀b∈bs',H b=none) ->D∉bs'->bs'.Nodup->Tab H' D bs' m->Q (.ref D) H'):lZ 1 (cg 0) (Fd (z8 K) (bK (aD 0) gM)) σ (QE K t) H D Q:=by
 refine Dt (bU (aN.of h.1)) (by rw[List.length_map,<-h.2.length];exact hz) hD (λx=> .lst (itemsOf H id x)) (λx hx H' Q' sm k=> ?_) (λbs' H' sm eD fr nD nn pr=> ?_)
 ·obtain⟨b,rfl,hb⟩:=rE hx
  obtain⟨row,ZQ,eb⟩:=z9 h.2 hb
  refine⟨_,rfl,b,_,rfl,.inl (aN.of (sm _ _ eb)),λl hl=>k l _ hl (au.up hl) ?_⟩
  rw[aA,uC eb,List.map_id]
 ·refine hq bs' H' sm fr nD nn ⟨eD,?_⟩
  have:=yR (g:=id) h.2 pr λrow b e=>by rw[uC e,List.map_id];rfl
  rwa [List.map_id]at this
theorem Ks{X:Cx}:Te X (λo i H Q=> ∃(p:Addr) (xs:List V) (k:Nat) (v:V),o= .ref p/\i= .int (k:Int)/\aN X.K H p xs/\xs[k]?=some v/\Q v H):=by
 intro pins s σ H o i ov iv Q I ro ri h
 obtain⟨p,xs,k,v,rfl,rfl,hq,he,q⟩:=h
 cases ro
 obtain⟨t,rfl⟩:=ri
 obtain⟨its,r,pl,hz⟩:=I.list hq
 obtain⟨w,ew,rw'⟩:=r.get he
 have hl:=r.length
 have hk:k<xs.length:=(List.getElem?_eq_some_iff.mp he).1
 have hn:=sF
 exact wpAny_getItem_list pl.isList (by omega) (by omega) (by simpa using ew) ⟨v,H,I,rw',q⟩
section
variable{X:Cx}
theorem cU:Kd X [] PC:=⟨Nn⟩
end
theorem cV{X:Cx}{c:Expr}{a b:List Stmt}{tc:TT}{t u:TS}{pos:Pos}(hc:PT X c tc)(ha:Kd X a t)(hb:Kd X b u):PS X (.If c a b pos) (SV tc t u):=SW hc ha.h hb.h
theorem pe{J:It}{xs:List V}{H1:Hp}{σ:St}{te:TE}{Q:VK}{D:Addr}(jw:JW J H1 xs)(h3:xs.length=3)(hD:H1 D=none)(g:Nat->Nat->Int)
  (hs:∀i x,i<3->xs[i]?=some x-> ∀H' (Q':VK),au H1 H'->(∀b H2,H' b=none->au H' H2->H2 b=some (.lst [.int (g i 0),.int (g i 1),.int (g i 2)]) ->Q' (.ref b) H2) ->te (some x::σ) H' Q')
  (hq:∀bs H',au H1 H'->(∀b∈bs,H1 b=none) ->D∉bs->bs.Nodup->Tab H' D bs (mk3 g) ->Q (.ref D) H'):lZ 1 (cg 0) te σ J H1 D Q:=by
 refine p9 jw (by rw[h3];decide) hD (λpre acc H'=> ∃bs:List Addr,acc=bs.map V.ref/\(∀b∈bs,H1 b=none/\H' b≠none)/\D∉bs/\bs.Nodup/\Paired (λi b=>H' b=some (.lst [.int (g i 0),.int (g i 1),.int (g i 2)])) (List.range pre.length) bs) ⟨[],rfl,λ_ h=>(nomatch h),by simp,List.nodup_nil,.nil⟩ (λpre x post acc H' Q' e hl sm eD p k=> ?_) (λacc H' hl sm eD p=> ?_)
 ·obtain⟨bs,rfl,fr,nD,nn,pr⟩:=p
  have hlen:pre.length<3:=by
   have:=congrArg List.length e
   rw[h3]at this
   simp at this
   omega
  refine hs pre.length x hlen (by rw[e];simp) H' _ sm λb H2 hb s2 eb=> ?_
  have nb:b≠D:=λz=>by rw[z,eD]at hb;cases hb
  refine k _ _ s2 ⟨bs++ [b],by simp,?_,?_,?_,?_⟩
  ·intro c hc
   rcases List.mem_append.mp hc with z|z
   ·refine⟨(fr c z).1,λy=> ?_⟩
    rw[aF (λw=>nD (by rw[<-w];exact z))]at y
    exact(fr c z).2 (s2.none y)
   ·rw[List.mem_singleton.mp z]
    refine⟨sm.none hb,λy=> ?_⟩
    rw[aF nb,eb]at y
    cases y
  ·intro z
   rcases List.mem_append.mp z with z|z
   ·exact nD z
   ·exact nb (List.mem_singleton.mp z).symm
  ·rw[List.nodup_append]
   refine⟨nn,by simp,λc hc d hd z=> ?_⟩
   rw[List.mem_singleton.mp hd]at z
   exact(fr c hc).2 (by rw[z];exact hb)
  ·have er:List.range (pre++ [x]).length=List.range pre.length++ [pre.length]:=by simp[List.range_succ]
   rw[er]
   refine Paired.snoc (pr.zZ λy c hc q=> ?_) (by rw[aF nb];exact eb)
   rw[aF (λz=>nD (by rw[<-z];exact hc))]
   exact s2 _ _ q
 ·obtain⟨bs,rfl,fr,nD,nn,pr⟩:=p
  refine hq bs H' sm (λb hb=>(fr b hb).1) nD nn ⟨eD,?_⟩
  rw[h3]at pr
  have WG:Paired (λi b=>H' b=some (.lst [.int (g i 0),.int (g i 1),.int (g i 2)])) [0,1,2] bs:=pr
  cases WG with
  |cons h0 t0=>cases t0 with
   |cons h1 t1=>cases t1 with
    |cons h2 t2=>
     cases t2
     exact .cons h0 (.cons h1 (.cons h2 .nil))
theorem Ku{c:Bool}{K:St->Hp->Prop}{A:Prop}{σ:St}{H:Hp}(P:St->Hp->Prop)(hK:∀σ' H',P σ' H'->K σ' H')(hA:c=true->(∀σ' H',P σ' H'->K σ' H') ->A)(hB:P σ H):if c=true then A else K σ H:=by
 cases c with
 |true=>exact xW (hA rfl hK)
 |false=>exact jv (hK _ _ hB)
theorem BC(elt target iter c:Expr)(scope:Scope)(pos:Pos)(it acc:Value)(env:Env):
  compTurn (.ListComp elt [⟨target,iter,[c],0⟩] scope pos) 0 it acc env=(standAt iter.pos>>=λ_=>pyNext it>>=λr=>match r with
   |none=>pure (.done .next)
   |some v=>letOwnedTupleGo target it v>>=λ_=>assign target env v>>=λ_=>
    (forIn [c] true λc r=>if r=true then(do let ok<-isTrue c env (eval c env);pure (ForInStep.yield ok))else pure (ForInStep.yield r))>>=λok=>
     if ok=true then(eval elt env>>=λx=>call (.builtin "list.append") [acc,x]>>=λ_=>pure ())>>=λ_=>again (.compLoop (.ListComp elt [⟨target,iter,[c],0⟩] scope pos) 0 it acc env)
     else again (.compLoop (.ListComp elt [⟨target,iter,[c],0⟩] scope pos) 0 it acc env)):=by rfl
section
variable{prog:Program}{w:World}{A:Around}{R:Result->Shared->Prop}{s:Shared}
theorem qm{elt target iter c:Expr}{scope:Scope}{pos:Pos}{it acc:Value}{env:Env}(I:Nat->Shared->Prop)
  (turn:∀n s,I n s->wpAny (model prog w) A (pyNext it) (λr s₁=>match r with
   |none=>R (.ok .next) s₁
   |some v=>wpAny (model prog w) A (letOwnedTupleGo target it v) (λ_ s₁'=>wpAny (model prog w) A (assign target env v) (λ_ s₂=>wpAny (model prog w) A (isTrue c env (eval c env)) (λok s₂'=>
     if ok=true then wpAny (model prog w) A (eval elt env) (λx s₃=>wpAny (model prog w) A (call (.builtin "list.append") [acc,x]) (λ_ s₄=> ∃m,m<n/\I m s₄) (λ_ _=>False) s₃) (λ_ _=>False) s₂'
     else ∃m,m<n/\I m s₂') (λ_ _=>False) s₂) (λ_ _=>False) s₁') (λ_ _=>False) s₁) (λ_ _=>False) s)
  (n:Nat)(h:I n s):
  codeAny (model prog w) A (.compLoop (.ListComp elt [⟨target,iter,[c],0⟩] scope pos) 0 it acc env) R s:=by
 refine codeAny_loop rfl I (λn s hI=> ?_) n h
 show wpAny _ _ ((compTurn (.ListComp elt [⟨target,iter,[c],0⟩] scope pos) 0 it acc env).onRaise (λx=>do noteFrame x env;theTreesLotGoes x)) _ _ s
 refine wpAny_noted ?_
 rw[BC]
 refine wpAny_bind (wpAny_standAt (wpAny_bind (wpAny_mono (turn n s hI) (λr s₁ h₁=> ?_) λ_ _ h'=>h'.elim)))
 cases r with
 |none=>exact wpAny_pure h₁
 |some v=>
  refine wpAny_bind (wpAny_mono h₁ (λ_ s₁' h₁'=>wpAny_bind (wpAny_mono h₁' (λ_ s₂ h₂=> ?_) λ_ _ h'=>h'.elim)) λ_ _ h'=>h'.elim)
  refine wpAny_bind ?_
  simp only[List.forIn_cons,List.forIn_nil,if_true]
  refine wpAny_bind (wpAny_bind (wpAny_mono h₂ (λok s₂' h₂'=>wpAny_pure (wpAny_pure ?_)) λ_ _ h'=>h'.elim))
  cases ok with
  |true=>
   rw[if_pos rfl]at h₂'
   show wpAny _ _ _ _ _ _
   refine wpAny_bind (wpAny_bind (wpAny_mono h₂' (λx s₃ h₃=>wpAny_bind (wpAny_mono h₃ (λ_ s₄ h₄=>wpAny_pure (wpAny_pure ⟨rfl,h₄⟩)) λ_ _ h'=>h'.elim)) λ_ _ h'=>h'.elim))
  |false=>
   rw[if_neg Bool.false_ne_true]at h₂'
   exact wpAny_pure ⟨rfl,h₂'⟩
end
def FI(k:Nat)(g:TG)(tt:TT)(te:TE)(σ:St)(J:It)(H1:Hp)(D:Addr)(Q:VK):Prop:=∃W:Nat->Nat->List V->St->Hp->Prop,(∃m,W 0 m [] (List.replicate k none++σ) (upd H1 D (.lst [])))/\
 ∀i m acc σ' H',W i m acc σ' H'->(J.stop i H'/\H' D=some (.lst acc)/\Q (.ref D) H')∨
  (J.go i H'/\acc.length<sizeLine/\ ∀x H2,J.xU i H' x H2->g x σ' H2 λσ3 H3=>tt σ3 H3 λb H4=>if b=true then te σ3 H4 λv H5=>H5 D=some (.lst acc)/\ ∃m',m'<m/\W (i+1) m' (acc++ [v]) σ3 (upd H5 D (.lst (acc++ [v])))else ∃m',m'<m/\W (i+1) m' acc σ3 H4)
def v7(k:Nat)(wi:TI)(g:TG)(tt:TT)(te:TE):TE:=λσ H Q=>wi σ H λJ H1=> ∀D,H1 D=none->FI k g tt te σ J H1 D Q
section
variable{X:Cx}{sc:Scope}{own N2:List Str}
theorem uF{elt iter tg c:Expr}{pos QV:Pos}{wi:TI}{g:TG}{tt:TT}{te:TE}{use:Option (Value->Sem Unit)}{Qf:Value->Shared->Prop}(hc:X.calm=true)(hi:PI X tg iter wi)(B:rj sc.names X.env.scope.names own N2 X.N)(hk:sc.kind= .function)
  (hg:∀s H fp,PG (X.comp sc (own++N2) s H fp) tg g)(ht:∀s H fp,PT (X.comp sc (own++N2) s H fp) c tt)(he:∀s H fp,PE (X.comp sc (own++N2) s H fp) elt te)
  (hs:∀x,foldedSetIterable iter X.env x=pure x){pins:List (Addr×Obj)}{s0:Shared}{σ:St}{H0:Hp}{Q:VK}(I0:Inv X pins σ H0 s0)(h0:v7 own.length wi g tt te σ H0 Q)
  (QW:∀s H fp,Inv X pins σ H s->(∀b∈fp,fO X pins H b) -> ∀(σ':St) (H':Hp) (s':Shared),Inv (X.comp sc (own++N2) s H fp) [] σ' H' s'->Q (.ref s.heap.objs.size) H'->
   compPost (model X.prog X.w) X.A X.xe use Qf (.ref s.heap.objs.size) (s.heap.objs.size+1) (.ok .next) s'):
  wpAny (model X.prog X.w) X.A (comprehension (.ListComp elt [⟨tg,iter,[c],0⟩] sc pos) sc X.env QV (newList []) false (eval iter X.env) use) Qf X.xe s0:=by
 refine wpAny_comprehension_free (use:=use) rfl hs (rD I0 B) hk (λy hy hl=>cO B.nd (by rw[<-hl];exact hy)) ?_
 refine wpAny_mono (hi pins s0 σ H0 _ I0 h0) (λv s1 h1=>wpAny_mono h1 (λitv s h2=> ?_) λ_ _ e=>e) λ_ _ e=>e
 obtain⟨it,fp,tn,J,H,e,I,T,st,hf,rd⟩:=h2
 subst e
 have ho:∀b∈fp,∃o,s.heap.get? b=some o:=λb hb=>let⟨o,e,_⟩:=T.obj 0 _ st b hb;⟨o,e⟩
 obtain⟨W,⟨m0,w0⟩,turn⟩:=rd s.heap.objs.size I.fresh
 refine wpAny_newObj_type ?_
 refine lO ?_
 have IB:=Bo I B hk hf ho
 have QX:∀{H':Hp},(∀b∈fp,H' b=none) -> ∀b∈fp,fO (X.comp sc (own++N2) s H fp) [] H' b:=λhn b hb=>by
  have ok:=IB.ok
  refine⟨hn b hb,(ok.Pz b hb).1,ok.CU b hb,.inl hb,λy c hc=>(ok.Pz b hb).2 y c hc,λp hp=> ?_⟩
  have xR:p∈([]:List (Addr×Obj)):=hp
  cases xR
 have lt:∀b∈fp,b≠s.heap.objs.size:=λb hb=>let⟨o,e⟩:=ho b hb;Nat.ne_of_lt (Heap.lt_size e)
 have fin:=QW s H fp I hf
 have loop:∀s3:Shared,s3={s with heap:=pushCells ((s.heap.push {cls:= .type "list",dict:=none,data:= .seq ([]:List Value).toArray}).push {cls:= .type "dict",data:= .dict #[]}) sc.names} ->
   codeAny (model X.prog X.w) X.A (.compLoop (.ListComp elt [⟨tg,iter,[c],0⟩] sc pos) 0 (.ref it) (.ref s.heap.objs.size) (X.comp sc (own++N2) s H fp).env)
    (compPost (model X.prog X.w) X.A X.xe use Qf (.ref s.heap.objs.size) (s.heap.objs.size+1)) s3:=by
  rintro s3 rfl
  refine qm (λn s'=> ∃i acc σ' H',Inv (X.comp sc (own++N2) s H fp) [] σ' H' s'/\tn i s'.heap/\(∀b∈fp,H' b=none)/\W i n acc σ' H') ?_ m0
   ⟨0,[],_,_,IB,T.keep _ _ _ st λb _ o e=>pushCells_keeps _ _ b o (Heap.get?_push_of_some _ (Heap.get?_push_of_some _ e)),λb hb=> ?_,w0⟩
  ·rintro n s3 ⟨i,acc,σ3,H3,I3,st3,Nf,w3⟩
   rcases turn i n acc σ3 H3 w3 with⟨stop,hD,qn⟩|⟨go,hz,step⟩
   ·refine fZ (T.done (X.comp sc (own++N2) s H fp) rfl rfl rfl hc i [] s3 σ3 H3 _ I3 (QX Nf) st3 stop) λr s4 ⟨hr,I4⟩=> ?_
    subst hr
    exact fin σ3 H3 s4 I4 qn
   ·refine fZ (T.item (X.comp sc (own++N2) s H fp) rfl rfl rfl hc i [] s3 σ3 H3 _ I3 (QX Nf) st3 go) λr s4 ⟨u,hr,h4⟩=> ?_
    subst hr
    refine fZ h4 λ_ s5 ⟨x,H5,I5,r5,y5,Gz,Ti⟩=> ?_
    have Tj:=I5.pinned (QX Ti) (T.obj _ _ Gz)
    refine fZ (hg s H fp _ s5 σ3 H5 x u _ Tj r5 (step x H5 y5)) λ_ s6 ⟨Ju,H6,I6,q6⟩=> ?_
    refine fZ (ht s H fp _ s6 Ju H6 _ I6 q6) λok ZR ⟨ZS,Vn,Vo⟩=> ?_
    cases ok with
    |false=>
     rw[if_neg Bool.false_ne_true]at Vo ⊢
     obtain⟨m',hm',w7⟩:=Vo
     refine⟨m',hm',i+1,acc,Ju,_,Vn.iE,T.keep _ _ _ Gz λb hb o e=>(Vn.pin (b,o) (List.mem_append_right _ (List.mem_append_right _ (bE hb e)))).1,λb hb=> ?_,w7⟩
     obtain⟨o,e,d⟩:=T.obj _ _ Gz b hb
     exact(Vn.pin (b,o) (List.mem_append_right _ (List.mem_append_right _ (bE hb e)))).2.1
    |true=>
    rw[if_pos rfl]at Vo ⊢
    refine fZ (he s H fp _ ZR Ju ZS _ Vn Vo) λv s7 ⟨y,H7,I7,r7,Sg,m',hm',w7⟩=> ?_
    refine fZ (gO _ s7 Ju H7 (.ref s.heap.objs.size) [y] (.ref s.heap.objs.size) [v] (λz H8=>z= .gu/\H8=upd H7 s.heap.objs.size (.lst (acc++ [y]))) I7 rfl (.cons r7 .nil) ⟨s.heap.objs.size,acc,y,rfl,rfl,Sg,hz,rfl,rfl⟩) λz s8 ⟨zz,H8,I8,_,_,e8⟩=> ?_
    subst e8
    refine⟨m',hm',i+1,acc++ [y],Ju,_,I8.iE,T.keep _ _ _ Gz λb hb o e=>(I8.pin (b,o) (List.mem_append_right _ (List.mem_append_right _ (bE hb e)))).1,λb hb=> ?_,w7⟩
    obtain⟨o,e,d⟩:=T.obj _ _ Gz b hb
    exact(I8.pin (b,o) (List.mem_append_right _ (List.mem_append_right _ (bE hb e)))).2.1
  ·rw[aF (lt b hb)]
   exact(hf b hb).1
 have e1:(s.heap.push {cls:= .type "list",dict:=none,data:= .seq ([]:List Value).toArray}).objs.size=s.heap.objs.size+1:=Heap.size_push ..
 dsimp only
 rw[e1]
 exact codeAny_compStart_list (loop _ rfl) (T.self _ 0 _ _ _ (T.keep _ _ _ st λb _ o e=>pushCells_keeps _ _ b o (Heap.get?_push_of_some _ (Heap.get?_push_of_some _ e))) (loop _ rfl))
theorem GY{elt iter tg c:Expr}{pos:Pos}{wi:TI}{g:TG}{tt:TT}{te:TE}(hc:X.calm=true)(hi:PI X tg iter wi)(B:rj sc.names X.env.scope.names own N2 X.N)(hk:sc.kind= .function)
  (hg:∀s H fp,PG (X.comp sc (own++N2) s H fp) tg g)(ht:∀s H fp,PT (X.comp sc (own++N2) s H fp) c tt)(he:∀s H fp,PE (X.comp sc (own++N2) s H fp) elt te)
  (hs:∀x,foldedSetIterable iter X.env x=pure x:=by intro _;rfl):PE X (.ListComp elt [⟨tg,iter,[c],0⟩] sc pos) (v7 own.length wi g tt te):=by
 intro pins s0 σ H0 Q I0 h0
 rw[eval_ListComp]
 refine uF (use:=none) hc hi B hk hg ht he hs I0 h0 λs H fp I hf σ' H' s' JB q=> ?_
 obtain⟨m,hn,_⟩:=JB.loc
 exact⟨m,hn,λh' sb=>⟨.ref s.heap.objs.size,H',I.Fg (I.zU hf JB) JB.free sb,rfl,q⟩⟩
theorem GZ{i:Nat}{y:Str}{py spos:Pos}{elt iter tg c:Expr}{pos:Pos}{wi:TI}{g:TG}{tt:TT}{te:TE}(hN:X.N.Nodup)(hi':X.N[i]?=some y)(hy:X.env.scope.names.lookup y=some .local)(hc:X.calm=true)(hi:PI X tg iter wi)(B:rj sc.names X.env.scope.names own N2 X.N)(hk:sc.kind= .function)
  (hg:∀s H fp,PG (X.comp sc (own++N2) s H fp) tg g)(ht:∀s H fp,PT (X.comp sc (own++N2) s H fp) c tt)(he:∀s H fp,PE (X.comp sc (own++N2) s H fp) elt te)
  (hsw:swapsWith (.ListComp elt [⟨tg,iter,[c],0⟩] sc pos) (some (.Name y py)) spos.line X.env=pure true:=by rfl)(hs:∀x,foldedSetIterable iter X.env x=pure x:=by intro _;rfl):
  PS X (.Assign [.Name y py] (.ListComp elt [⟨tg,iter,[c],0⟩] sc pos) spos) (CV (v7 own.length wi g tt te) (cg i)):=by
 intro pins s0 σ H0 D I0 h0
 rw[exec_Assign_Name_used _ _ _ _ hsw]
 refine wpAny_bind (wpAny_standAt (wpAny_bind ?_))
 show wpAny _ X.A (do let _<-comprehension (.ListComp elt [⟨tg,iter,[c],0⟩] sc pos) sc X.env _ (newList []) false (eval iter X.env) (some (assign (.Name y py) X.env))) _ _ s0
 refine wpAny_bind (wpAny_mono (uF (use:=some (assign (.Name y py) X.env)) (Qf:=λ_ s'=>SP X pins D .next s') hc hi B hk hg ht he hs I0 h0 λs H fp I hf σ' H' s' JB q=> ?_) (λ_ s' hq=>wpAny_pure (wpAny_pure hq)) λ_ _ e=>e)
 have IX:=I.zU hf JB
 refine wpAny_assign_Name (su IX hN hi' (.inl hy) (v:= .ref s.heap.objs.size) rfl (λs2 I2 ⟨a,Sh,ha⟩=> ?_) (.inr hy))
 obtain⟨m,hn,_⟩:=JB.loc
 have ea:a=X.env.locals∨a<s.heap.objs.size:=by
  rcases ha with z|z
  ·exact .inl z
  ·obtain⟨v,w⟩:=I.cell y a z
   exact .inr w.lt
 have PB:s.heap.objs.size+1≠a:=by
  rcases ea with z|z
  ·rw[z];exact Nat.ne_of_gt (Nat.lt_succ_of_lt I.lt)
  ·exact Nat.ne_of_gt (Nat.lt_succ_of_lt z)
 refine⟨m,hn.sameBut Sh PB,λh' sb=>⟨_,H',I.Fg I2 JB.free sb,q⟩⟩
end
section
variable{X:Cx}{sc:Scope}{N2:List Str}{x:Str}{px:Pos}{elt iter c:Expr}{pos:Pos}{wi:TI}{tt:TT}{te:TE}
theorem lP(hc:X.calm=true)(hi:PI X (.Name x px) iter wi)(hB:zQ sc.names X.env.scope.names [x] N2 X.N=true)(hk:sc.kind= .function)(ht:∀s H fp,PT (X.comp sc ([x]++N2) s H fp) c tt)(he:∀s H fp,PE (X.comp sc ([x]++N2) s H fp) elt te)
  (hs:∀x,foldedSetIterable iter X.env x=pure x:=by intro _;rfl):PE X (.ListComp elt [⟨.Name x px,iter,[c],0⟩] sc pos) (v7 1 wi (cg 0) tt te):=
 GY (own:=[x]) hc hi (jN hB) hk (λs H fp=>vn (jN hB) s H fp) ht he hs
theorem rJ{i:Nat}{y:Str}{py spos:Pos}(hN:X.N.Nodup)(hi':X.N[i]?=some y)(hy:X.env.scope.names.lookup y=some .local)(hc:X.calm=true)(hi:PI X (.Name x px) iter wi)(hB:zQ sc.names X.env.scope.names [x] N2 X.N=true)(hk:sc.kind= .function)(ht:∀s H fp,PT (X.comp sc ([x]++N2) s H fp) c tt)(he:∀s H fp,PE (X.comp sc ([x]++N2) s H fp) elt te)
  (hsw:swapsWith (.ListComp elt [⟨.Name x px,iter,[c],0⟩] sc pos) (some (.Name y py)) spos.line X.env=pure true:=by rfl)(hs:∀x,foldedSetIterable iter X.env x=pure x:=by intro _;rfl):
  PS X (.Assign [.Name y py] (.ListComp elt [⟨.Name x px,iter,[c],0⟩] sc pos) spos) (CV (v7 1 wi (cg 0) tt te) (cg i)):=
 GZ (own:=[x]) hN hi' hy hc hi (jN hB) hk (λs H fp=>vn (jN hB) s H fp) ht he hsw hs
end
theorem di{J:It}{H1:Hp}{xs:List V}{σ:St}{tt:TT}{te:TE}{Q:VK}(jw:JW J H1 xs)(hz:xs.length<=sizeLine){D:Addr}(hD:H1 D=none)(p:V->Bool)(f:V->V)
  (ht:∀x∈xs,∀H' (R:Bool->Hp->Prop),au H1 H'->(∀H2,au H' H2->R (p x) H2) ->tt (some x::σ) H' R)
  (hs:∀x∈xs,p x=true-> ∀H' (Q':VK),au H1 H'->(∀H2,au H' H2->Q' (f x) H2) ->te (some x::σ) H' Q')
  (hq:∀H',au H1 H'->H' D=some (.lst ((xs.filter p).map f)) ->Q (.ref D) H'):FI 1 (cg 0) tt te σ J H1 D Q:=by
 refine⟨λi m acc σ' H'=>m=xs.length-i/\i<=xs.length/\acc=((xs.take i).filter p).map f/\(∃o,σ'=o::σ)/\au H1 H'/\H' D=some (.lst acc),⟨xs.length,rfl,Nat.zero_le _,by simp,⟨none,rfl⟩,au.up hD,aA⟩,?_⟩
 rintro i m acc σ' H' ⟨rfl,hi,rfl,⟨o,rfl⟩,sm,eD⟩
 by_cases hlt:i<xs.length
 ·refine .inr ⟨jw.go i H' sm hlt,?_,λx H2 y=> ?_⟩
  ·rw[List.length_map]
   have:=List.length_filter_le p (xs.take i)
   rw[List.length_take]at this
   omega
  ·obtain⟨e2,ex⟩:=jw.xU i H' x H2 sm hlt y
   subst e2
   have hx:x∈xs:=List.mem_of_getElem? ex
   have tk:xs.take (i+1)=xs.take i++ [x]:=by rw[List.take_add_one,ex];rfl
   refine ht x hx H2 _ sm λH3 s3=> ?_
   cases hp:p x with
   |false=>
    rw[if_neg Bool.false_ne_true]
    exact⟨xs.length- (i+1),by omega,rfl,by omega,by rw[tk,List.filter_append];simp[hp],⟨_,rfl⟩,sm.trans s3,s3 _ _ eD⟩
   |true=>
    rw[if_pos rfl]
    refine hs x hx hp H3 _ (sm.trans s3) λH4 s4=>⟨s4 _ _ (s3 _ _ eD),xs.length- (i+1),by omega,rfl,by omega,by rw[tk,List.filter_append];simp[hp],⟨_,rfl⟩,((sm.trans s3).trans s4).upd hD,aA⟩
 ·obtain rfl:i=xs.length:=by omega
  rw[List.take_length]at eD ⊢
  exact .inl ⟨jw.stop H' sm,eD,hq H' sm eD⟩
end L2
namespace L2
theorem rK{X:Cx}{e:PySem.Expr}{t:TT}(h:PT X e t):PT X e t:=h
end L2
namespace L2
open PySem PySem.Spec PyProof.Rows
def kP(H:Hp)(B:Addr):Prop:=∃g s:Int,H B=some (.lst [.int g,.int s])/\0<=g/\0<=s
def SB(B:Addr)(H H':Hp):Prop:=(∀a o,a≠B->H a=some o->H' a=some o)/\kP H' B
theorem SB.refl{B:Addr}{H:Hp}(h:kP H B):SB B H H:=⟨λ_ _ _ e=>e,h⟩
theorem SB.trans{B:Addr}{H H' Yw:Hp}(h:SB B H H')(h':SB B H' Yw):SB B H Yw:=⟨λa o n e=>h'.1 a o n (h.1 a o n e),h'.2⟩
theorem kP.same{H H':Hp}{B:Addr}(h:kP H B)(s:au H H'):kP H' B:=by
 obtain⟨g,t,e,r⟩:=h
 exact⟨g,t,s _ _ e,r⟩
theorem SB.of{B:Addr}{H H':Hp}(b:kP H B)(s:au H H'):SB B H H':=⟨λa o _ e=>s _ _ e,b.same s⟩
theorem SB.gone{B:Addr}{H H':Hp}(h:SB B H H'){r:Addr}(e:H' r=none):H r=none:=by
 cases q:H r with
 |none=>rfl
 |some o=>
  by_cases z:r=B
  ·obtain⟨g,t,e2,_⟩:=h.2
   rw[<-z,e]at e2
   cases e2
  ·rw[h.1 r o z q]at e
   cases e
theorem SB.ne{B:Addr}{H H':Hp}(h:SB B H H'){r:Addr}(e:H' r=none):r≠B:=λz=>by
 obtain⟨g,t,e2,_⟩:=h.2
 rw[<-z,e]at e2
 cases e2
theorem kP.ne{H:Hp}{B r:Addr}(h:kP H B)(e:H r=none):r≠B:=(SB.refl h).ne e
theorem Tab.sb{B:Addr}{H H':Hp}{t:Addr}{bs:List Addr}{m:List (List Int)}(h:Tab H t bs m)(s:SB B H H')(nt:t≠B)(nb:B∉bs):Tab H' t bs m:=
 ⟨s.1 _ _ nt h.1,h.2.zZ λr b hb e=>s.1 _ _ (λz=>nb (by rw[<-z];exact hb)) e⟩
theorem Kv{B:Addr}{H:Hp}{g s:Int}(hg:0<=g)(hs:0<=s):SB B H (upd H B (.lst [.int g,.int s])):=
 ⟨λa o n e=>by rw[aF n];exact e,g,s,aA,hg,hs⟩
end L2
namespace L2
theorem log2_small{z:Int}(h0:0<=z)(h:z<2^60):z.natAbs.log2<9000:=by
 by_cases hz:z.natAbs=0
 ·rw[hz];decide
 ·have:z.natAbs<2^60:=by omega
  exact Nat.lt_trans ((Nat.log2_lt hz).mpr this) (by decide)
end L2
namespace L2
open PySem PySem.Spec PyProof.Rows
theorem Kw(m:List (List Int)){i j:Nat}(hi:i<3)(hj:j<3)(hij:i≠j):aK (xZ (xZ m i λs=>ent m j s) j λs=>0-ent m i s)=aK m:=by
 rw[bV,bV]
 simp only[cY _ _ (show 0<3 by decide) (show 0<3 by decide),cY _ _ (show 0<3 by decide) (show 1<3 by decide),cY _ _ (show 0<3 by decide) (show 2<3 by decide),cY _ _ (show 1<3 by decide) (show 0<3 by decide),cY _ _ (show 1<3 by decide) (show 1<3 by decide),cY _ _ (show 1<3 by decide) (show 2<3 by decide),cY _ _ (show 2<3 by decide) (show 0<3 by decide),cY _ _ (show 2<3 by decide) (show 1<3 by decide),cY _ _ (show 2<3 by decide) (show 2<3 by decide)]
 rcases aC hi with rfl|rfl|rfl<;>rcases aC hj with rfl|rfl|rfl<;>first|(exact absurd rfl hij)|(simp only[Nat.reduceEqDiff,if_true,if_false];grind)
theorem SB.Rq{B D:Addr}{H H':Hp}{o:HO}(h:SB B H H')(f:H D=none)(n:D≠B):SB B H (upd H' D o):=by
 refine⟨λa u na e=> ?_,?_⟩
 ·rw[aF (λz=>by rw[z,f]at e;cases e)]
  exact h.1 a u na e
 ·obtain⟨g,s,e,r⟩:=h.2
  exact⟨g,s,by rw[aF (Ne.symm n)];exact e,r⟩
theorem Hj{X:Cx}(hc:X.calm=true):oQ X (.builtin "min") (λxs H Q=> ∃i j k,xs=[.int i,.int j,.int k]/\Q (.int (if j<i then(if k<j then k else j)else(if k<i then k else i))) H):=by
 intro pins s σ H xs us Q I r h
 obtain⟨i,j,k,rfl,q⟩:=h
 cases r with
 |cons r1 r=>cases r with
  |cons r2 r=>cases r with
   |cons r3 r=>
    cases r
    obtain⟨t1,rfl⟩:=r1
    obtain⟨t2,rfl⟩:=r2
    obtain⟨t3,rfl⟩:=r3
    refine min_three_ints (I.ok.hd hc) λh' tk kp=>⟨_,H,I.kept kp,?_,q⟩
    by_cases h1:j<i<;>by_cases h2:k<j<;>by_cases h3:k<i<;>simp only[h1,h2,h3,if_true,if_false]<;>exact⟨_,rfl⟩
theorem BD{m:List (List Int)}(h:bI m):∃k,aK m=2*k:=by
 obtain⟨⟨s1,s2,s3⟩,a,b,c,e1,e2,e3⟩:=h
 refine⟨4*(a*b*c)+ent m 0 1*ent m 0 2*ent m 1 2-a*(ent m 1 2*ent m 1 2) -b*(ent m 0 2*ent m 0 2) -c*(ent m 0 1*ent m 0 1),?_⟩
 rw[bV,s1,s2,s3,e1,e2,e3]
 grind
theorem BE{H:Hp}{t r:Addr}{bs:List Addr}{m:List (List Int)}{row:List Int}(h:Tab H t bs m)(nt:t∉bs)(hr:H r=some (.lst (row.map V.int)))(nr:r≠t):Tab (upd H t (.lst (bs.map V.ref++ [.ref r]))) t (bs++ [r]) (m++ [row]):=by
 refine⟨by rw[aA];simp,Paired.snoc (h.2.zZ λy b hb e=> ?_) (by rw[aF nr];exact hr)⟩
 rw[aF (λz=>nt (by rw[<-z];exact hb))]
 exact e
def mT(k:Nat):List (List Int):=[0,0,1]::(List.range k).map λ (a:Nat)=>[0,1,(a:Int)]
def gc(p k:Nat):List (List Int):=mT p++(List.range k).map λ (a:Nat)=>[1,((a/p:Nat):Int),((a%p:Nat):Int)]
theorem Du(k:Nat):mT (k+1)=mT k++ [[0,1,(k:Int)]]:=by simp[mT,List.range_succ]
theorem Dv(p k:Nat):gc p (k+1)=gc p k++ [[1,((k/p:Nat):Int),((k%p:Nat):Int)]]:=by simp[gc,List.range_succ]
theorem sO(k:Nat):(mT k).length=k+1:=by simp[mT]
theorem sP(p k:Nat):(gc p k).length=p+1+k:=by simp[gc,sO]
theorem uH{H:Hp}{pf:V->Bool}{g:List Int->Bool}:∀{m:List (List Int)} {bs:List Addr},Paired (λrow b=>H b=some (.lst (row.map V.int))) m bs->(∀row b,row∈m->H b=some (.lst (row.map V.int)) ->pf (.ref b)=g row) ->
  ∃bs':List Addr,(bs.map V.ref).filter pf=bs'.map V.ref/\(∀b∈bs',b∈bs)/\Paired (λrow b=>H b=some (.lst (row.map V.int))) (m.filter g) bs'
 |_,_,.nil,_=>⟨[],rfl,λ_ h=>h,.nil⟩
 |_,_,.cons (a:=row) (b:=b) h t,k=>by
  obtain⟨bs',e,i,pr⟩:=uH t λrow b hm=>k row b (List.mem_cons_of_mem _ hm)
  have q:=k row b List.mem_cons_self h
  rw[List.map_cons,List.filter_cons,List.filter_cons,q]
  cases g row with
  |true=>
   refine⟨b::bs',by simp[e],λc hc=> ?_,by simpa using .cons h pr⟩
   rcases List.mem_cons.mp hc with z|z
   ·rw[z];exact List.mem_cons_self
   ·exact List.mem_cons_of_mem _ (i c z)
  |false=>exact⟨bs',by simpa using e,λc hc=>List.mem_cons_of_mem _ (i c hc),by simpa using pr⟩
def jz(m:List (List Int))(p:Int):List (List Int):=mk3 λi j=>ent m i j%p
theorem Hl{m:List (List Int)}(h:bI m){p:Int}(hp:0<p):bI (jz m (2*p)):=by
 obtain⟨⟨s1,s2,s3⟩,a,b,c,e1,e2,e3⟩:=h
 have k:∀z:Int,2*z%(2*p)=2*(z%p):=λz=>Int.mul_emod_mul_of_pos (a:=2) z p (by decide)
 refine⟨⟨?_,?_,?_⟩,a%p,b%p,c%p,?_,?_,?_⟩
 ·unfold jz;rw[cy _ (by decide) (by decide),cy _ (by decide) (by decide),s1]
 ·unfold jz;rw[cy _ (by decide) (by decide),cy _ (by decide) (by decide),s2]
 ·unfold jz;rw[cy _ (by decide) (by decide),cy _ (by decide) (by decide),s3]
 ·unfold jz;rw[cy _ (by decide) (by decide),e1,k]
 ·unfold jz;rw[cy _ (by decide) (by decide),e2,k]
 ·unfold jz;rw[cy _ (by decide) (by decide),e3,k]
theorem Ho{m:List (List Int)}(h:bI m){p:Int}(hp:0<p)(x:Nat->Int):aH (jz m (2*p)) x%p=aH m x%p:=by
 have e1:=eO (Hl h hp) x
 have e2:=eO h x
 have d:∀i j,i<3->j<3-> ∃q,ent m i j=ent (jz m (2*p)) i j+2*p*q:=λi j hi hj=>by
  unfold jz
  rw[cy _ hi hj]
  exact⟨ent m i j/(2*p),(Int.emod_add_mul_ediv _ _).symm⟩
 obtain⟨Vp,ZT⟩:=d 0 0 (by decide) (by decide)
 obtain⟨Yx,ZU⟩:=d 0 1 (by decide) (by decide)
 obtain⟨Ul,ZV⟩:=d 0 2 (by decide) (by decide)
 obtain⟨Yy,ZW⟩:=d 1 0 (by decide) (by decide)
 obtain⟨Vq,ZX⟩:=d 1 1 (by decide) (by decide)
 obtain⟨Um,ZY⟩:=d 1 2 (by decide) (by decide)
 obtain⟨Yz,ZZ⟩:=d 2 0 (by decide) (by decide)
 obtain⟨YA,d21⟩:=d 2 1 (by decide) (by decide)
 obtain⟨Vr,d22⟩:=d 2 2 (by decide) (by decide)
 have e:aJ m x x=aJ (jz m (2*p)) x x+2*(p*(x 0*Vp*x 0+x 0*Yx*x 1+x 0*Ul*x 2+x 1*Yy*x 0+x 1*Vq*x 1+x 1*Um*x 2+x 2*Yz*x 0+x 2*YA*x 1+x 2*Vr*x 2)):=by
  rw[bH,bH,ZT,ZU,ZV,ZW,ZX,ZY,ZZ,d21,d22]
  grind
 have f:aH m x=aH (jz m (2*p)) x+p*(x 0*Vp*x 0+x 0*Yx*x 1+x 0*Ul*x 2+x 1*Yy*x 0+x 1*Vq*x 1+x 1*Um*x 2+x 2*Yz*x 0+x 2*YA*x 1+x 2*Vr*x 2):=by omega
 rw[f,Int.add_mul_emod_self_left]
def av(r:List Int):Nat->Int:=λi=>r.getD i 0
theorem yY{p k:Nat}(hp:p<14)(hk:k<=169){r:List Int}(h:r∈gc p k):r=[av r 0,av r 1,av r 2]/\ ∀i,(av r i).natAbs<2^10:=by
 unfold gc mT at h
 simp only[List.mem_append,List.mem_cons,List.mem_map,List.mem_range]at h
 rcases h with(rfl|⟨a,ha,rfl⟩)|⟨a,ha,rfl⟩
 ·refine⟨rfl,λi=> ?_⟩
  match i with
  |0=>show(0:Int).natAbs<2^10;decide
  |1=>show(0:Int).natAbs<2^10;decide
  |2=>show(1:Int).natAbs<2^10;decide
  |_+3=>show(0:Int).natAbs<2^10;decide
 ·refine⟨rfl,λi=> ?_⟩
  match i with
  |0=>show(0:Int).natAbs<2^10;decide
  |1=>show(1:Int).natAbs<2^10;decide
  |2=>show((a:Int)).natAbs<2^10;omega
  |_+3=>show(0:Int).natAbs<2^10;decide
 ·refine⟨rfl,λi=> ?_⟩
  have h1:a/p<=a:=Nat.div_le_self _ _
  have h2:a%p<=a:=Nat.mod_le _ _
  match i with
  |0=>show(1:Int).natAbs<2^10;decide
  |1=>
   show(((a/p:Nat):Int)).natAbs<2^10
   rw[Int.natAbs_natCast]
   exact Nat.lt_of_le_of_lt h1 (by omega)
  |2=>
   show(((a%p:Nat):Int)).natAbs<2^10
   rw[Int.natAbs_natCast]
   exact Nat.lt_of_le_of_lt h2 (by omega)
  |_+3=>show(0:Int).natAbs<2^10;decide
section
variable{X:Cx}{sc:Scope}{N2:List Str}{x y:Str}{px CP tpos:Pos}{x1:Nat}{elt iter:Expr}{gC p pos:Pos}{wi:TI}{te:TE}{P:Addr}
theorem FJ{B:Around}(hc:X.calm=true)(Bk:rj sc.names X.env.scope.names [x,y] N2 X.N)(hnc:∀y∈sc.names,y.2≠ .cell)(code:Value)(s:Shared)(H:Hp)(fp:List Addr):PG (X.gen B sc ([x,y]++N2) code s H fp) (.Tuple [.Name x px,.Name y CP] x1 tpos) (g2 X.K):=
 zM (X:=X.gen B sc ([x,y]++N2) code s H fp) hc (cz (FF (i:=0) Bk hnc rfl code s H fp) (cz (FF (i:=1) Bk hnc rfl code s H fp) kg))
theorem NT(hc:X.calm=true)(hr:X.A.depth<recursionLimit)(cd:gx X.K X.env.code P)(bm:BM X.mg X.base)(Bt:Gl X "sum")(hm:X.mg "sum"=none)(hi:PI X (.Tuple [.Name x px,.Name y CP] x1 tpos) iter wi)(hB:Dm sc X.env.scope.names [x,y] N2 X.N=true)
  (he:∀code s H fp,PE (X.gen X.A.in1.in1 sc ([x,y]++N2) code s H fp) elt te)
  (hs:∀x,genFold iter X.env x=pure x:=by intro _;rfl)(hst:starEach [.GeneratorExp elt [⟨.Tuple [.Name x px,.Name y CP] x1 tpos,iter,[],0⟩] sc gC] X.env=[(false,eval (.GeneratorExp elt [⟨.Tuple [.Name x px,.Name y CP] x1 tpos,iter,[],0⟩] sc gC) X.env)]:=by rfl):
  PE X (.Call (.Name "sum" p) [.GeneratorExp elt [⟨.Tuple [.Name x px,.Name y CP] x1 tpos,iter,[],0⟩] sc gC] [] pos) (yQ 2 P wi (g2 X.K) te):=
 have K:=oX hc hr cd bm hB
 Fp (own:=[x,y]) K Bt hm hi (λcode s H fp=>FJ hc K.NL K.nc code s H fp) he hs hst
theorem NU(hc:X.calm=true)(hr:X.A.depth<recursionLimit)(cd:gx X.K X.env.code P)(bm:BM X.mg X.base)(Bt:Gl X "any")(hm:X.mg "any"=none)(hi:PI X (.Tuple [.Name x px,.Name y CP] x1 tpos) iter wi)(hB:Dm sc X.env.scope.names [x,y] N2 X.N=true)
  (he:∀code s H fp,PE (X.gen X.A.in1.in1 sc ([x,y]++N2) code s H fp) elt te)
  (hs:∀x,genFold iter X.env x=pure x:=by intro _;rfl)(hst:starEach [.GeneratorExp elt [⟨.Tuple [.Name x px,.Name y CP] x1 tpos,iter,[],0⟩] sc gC] X.env=[(false,eval (.GeneratorExp elt [⟨.Tuple [.Name x px,.Name y CP] x1 tpos,iter,[],0⟩] sc gC) X.env)]:=by rfl):
  PE X (.Call (.Name "any" p) [.GeneratorExp elt [⟨.Tuple [.Name x px,.Name y CP] x1 tpos,iter,[],0⟩] sc gC] [] pos) (PY 2 P wi (g2 X.K) te):=
 have K:=oX hc hr cd bm hB
 NO (own:=[x,y]) K Bt hm hi (λcode s H fp=>FJ hc K.NL K.nc code s H fp) he hs hst
end
theorem FL{K:PySem.W.Frag}{H1:Hp}{a b:Addr}{xs ys:List V}{σ:St}{te:TE}{F:Nat->(Nat->V->Prop) ->(Nat->St->Hp->Prop) ->Prop}(ha:aN K H1 a xs)(hb:aN K H1 b ys)(hl:xs.length=ys.length)(R:Nat->V->Prop)
  (hs:∀(i:Nat) x y,xs[i]?=some x->ys[i]?=some y-> ∀H' (Q':VK),au H1 H'->(∀v H2,R i v->au H' H2->Q' v H2) ->te (some x::some y::σ) H' Q')
  (hF:F xs.length R (λ_ σ' H'=>(∃o o',σ'=o::o'::σ)/\au H1 H')):vR 2 (g2 K) te σ F (Sl K a b) H1:=by
 refine⟨xs.length,R,_,⟨⟨none,none,rfl⟩,au.refl _⟩,λi σ' H' hi w=> ?_,λσ' H' w=>⟨xs,ys,w.2.seq ha,w.2.seq hb,.inl (Nat.le_refl _)⟩,hF⟩
 obtain⟨⟨o,o',rfl⟩,sm⟩:=w
 have hi':i<ys.length:=by omega
 refine⟨⟨xs,ys,xs[i],ys[i],sm.seq ha,sm.seq hb,by simp[hi],by simp[hi']⟩,λv H2 yl=> ?_⟩
 obtain⟨T,x,y,rfl,hT,hx,hy,rfl⟩:=yl
 have ex:=hx xs (sm.seq ha)
 have ey:=hy ys (sm.seq hb)
 have s2:au H' (upd H' T (.tup [x,y])):=au.up hT
 refine⟨T,[x,y],rfl,p6.of aA,rfl,x,[y],rfl,y,[],rfl,rfl,?_⟩
 show te (some x::some y::σ) _ _
 exact hs i x y ex ey _ _ (sm.trans s2) λv H3 r s3=>⟨r,⟨_,_,rfl⟩,(sm.trans s2).trans s3⟩
theorem NV{K:PySem.W.Frag}{H1:Hp}{a b:Addr}{xs ys:List V}{σ:St}{te:TE}{Q:VK}{P:Addr}(ha:aN K H1 a xs)(hb:aN K H1 b ys)(hl:xs.length=ys.length)(hP:H1 P=some (cu P))(val:Nat->Int)
  (hs:∀(i:Nat) x y,xs[i]?=some x->ys[i]?=some y-> ∀H' (Q':VK),au H1 H'->(∀H2,au H' H2->Q' (.int (val i)) H2) ->te (some x::some y::σ) H' Q')
  (hq:∀H',au H1 H'->Q (.int (preSum val xs.length)) H'):JT 2 P (g2 K) te σ (Sl K a b) H1 Q:=
 ⟨hP,FL ha hb hl (λi v=>v= .int (val i)) (λi x y ex ey H' Q' sm k=>hs i x y ex ey H' Q' sm λH2 s2=>k _ _ rfl s2) ⟨val,λi v _ r=>r,λσ' H' w=>hq H' w.2⟩⟩
theorem Uo{c A B:Prop} [Decidable c](hc:c)(h:A):if c then A else B:=by
 rw[if_pos hc]
 exact h
theorem WJ{c A B:Prop} [Decidable c](hc:¬c)(h:B):if c then A else B:=by
 rw[if_neg hc]
 exact h
section
variable{X:Cx}{sc:Scope}{N2:List Str}{x:Str}{px:Pos}{elt iter:Expr}{gC p pos:Pos}{wi:TI}{te:TE}{P:Addr}
end
theorem NW{K:PySem.W.Frag}{H1:Hp}{a b:Addr}{xs ys:List V}{σ:St}{te:TE}{Q:VK}{P:Addr}(ha:aN K H1 a xs)(hb:aN K H1 b ys)(hl:xs.length=ys.length)(hP:H1 P=some (cu P))(bv:Nat->Bool)
  (hs:∀(i:Nat) x y,xs[i]?=some x->ys[i]?=some y-> ∀H' (Q':VK),au H1 H'->(∀H2,au H' H2->Q' (.bl (bv i)) H2) ->te (some x::some y::σ) H' Q')
  (hq:∀b H',au H1 H'->(b=true↔ ∃j,j<xs.length/\bv j=true) ->Q (.bl b) H'):PX 2 P (g2 K) te σ (Sl K a b) H1 Q:=
 ⟨hP,FL ha hb hl (λi v=>v= .bl (bv i)) (λi x y ex ey H' Q' sm k=>hs i x y ex ey H' Q' sm λH2 s2=>k _ _ rfl s2) ⟨bv,λi v _ r=>r,λhb σ' H' w=>hq _ H' w.2 ⟨λz=>(by cases z),λ ⟨j,hj,z⟩=>by rw[hb j hj]at z;cases z⟩,
  λj hj hb _ σ' H' w=>hq _ H' w.2 ⟨λ_=>⟨j,hj,hb⟩,λ_=>rfl⟩⟩⟩
def qG(lo:Int)(n:Nat):List V:=(List.range n).map λ (i:Nat)=>V.int (lo+(i:Int))
theorem nJ{lo:Int}{n:Nat}:(qG lo n).length=n:=by simp[qG]
theorem v8{lo:Int}{n k:Nat}{x:V}(h:(qG lo n)[k]?=some x):k<n/\x= .int (lo+(k:Int)):=by
 unfold qG at h
 rw[List.getElem?_map]at h
 have hk:k<n:=by
  rcases Nat.lt_or_ge k n with z|z
  ·exact z
  ·rw[List.getElem?_eq_none (by simpa using z)]at h;cases h
 rw[List.getElem?_range hk]at h
 exact⟨hk,(Option.some.inj h).symm⟩
theorem Hq{H1:Hp}{lo:Int}{n:Nat}:JW (Jg lo n) H1 (qG lo n) where
 go:=λi H' s hi=>by rw[nJ]at hi;exact hi
 xU:=λi H' x H2 s hi ⟨e,y⟩=>⟨e,by
  rw[nJ]at hi
  subst y
  unfold qG
  rw[List.getElem?_map,List.getElem?_range hi]
  rfl⟩
 stop:=λH' s=>by rw[nJ];exact Nat.le_refl _
theorem mU{p:Int}(hp:p∈([3,5,7,11,13]:List Int)){n h:Int}(hh:h%p≠0):(n*h)%p=0↔n%p=0:=by
 have key:∀q∈([3,5,7,11,13]:List Nat),∀a<q,∀b<q,b≠0->(a*b)%q=0->a=0:=by decide
 have p0:0<p:=by
  simp only[List.mem_cons,List.not_mem_nil,or_false]at hp
  omega
 obtain⟨q,rfl⟩:∃q:Nat,p=(q:Int):=⟨p.toNat,by omega⟩
 have hq:q∈([3,5,7,11,13]:List Nat):=by
  simp only[List.mem_cons,List.not_mem_nil,or_false]at hp ⊢
  omega
 constructor
 ·intro e
  rw[Int.mul_emod]at e
  have a0:=Int.emod_nonneg n (show(q:Int)≠0 by omega)
  have b0:=Int.emod_nonneg h (show(q:Int)≠0 by omega)
  have a1:=Int.emod_lt_of_pos n p0
  have b1:=Int.emod_lt_of_pos h p0
  obtain⟨a,ea⟩:∃a:Nat,n%(q:Int)=(a:Int):=⟨(n%(q:Int)).toNat,by omega⟩
  obtain⟨b,eb⟩:∃b:Nat,h%(q:Int)=(b:Int):=⟨(h%(q:Int)).toNat,by omega⟩
  rw[ea,eb]at e
  have e':(a*b)%q=0:=by exact_mod_cast e
  have:=key q hq a (by omega) b (by omega) (by omega) e'
  rw[ea,this]
  rfl
 ·intro e
  rw[Int.mul_emod,e,Int.zero_mul]
  rfl
theorem kQ{v:V}{r:List V}:xV (v::r) 0=some v:=dU (i:=0) rfl
theorem jq{a b p k:Int}(h:a=b+p*k):a%p=b%p:=by rw[h,Int.add_mul_emod_self_left]
theorem fN{a b p:Int}(h:a%p=b%p):∃k,a=b+p*k:=by
 have h1:=Int.emod_add_mul_ediv a p
 have h2:=Int.emod_add_mul_ediv b p
 exact⟨a/p-b/p,by rw[Int.mul_sub];omega⟩
theorem mV{m:List (List Int)}(h:bI m):∃a b c d e f:Int,(ent m 0 0=2*a/\ent m 1 1=2*b/\ent m 2 2=2*c/\ent m 0 1=d/\ent m 0 2=e/\ent m 1 2=f)/\ ∀x:Nat->Int,aH m x=a*(x 0*x 0)+b*(x 1*x 1)+c*(x 2*x 2)+d*(x 0*x 1)+e*(x 0*x 2)+f*(x 1*x 2):=by
 have h':=h
 obtain⟨⟨s1,s2,s3⟩,a,b,c,e1,e2,e3⟩:=h
 refine⟨a,b,c,ent m 0 1,ent m 0 2,ent m 1 2,⟨e1,e2,e3,rfl,rfl,rfl⟩,λx=> ?_⟩
 have q:=eO h' x
 rw[bH,s1,s2,s3,e1,e2,e3]at q
 have:2*aH m x=2*(a*(x 0*x 0)+b*(x 1*x 1)+c*(x 2*x 2)+ent m 0 1*(x 0*x 1)+ent m 0 2*(x 0*x 2)+ent m 1 2*(x 1*x 2)):=by
  rw[<-q]
  grind
 omega
theorem sQ{m:List (List Int)}(h:bI m){p:Int}{x y:Nat->Int}(e:∀i,i<3->x i%p=y i%p):aH m x%p=aH m y%p:=by
 obtain⟨a,b,c,d,ee,f,_,q⟩:=mV h
 obtain⟨k0,h0⟩:=fN (e 0 (by decide))
 obtain⟨k1,h1⟩:=fN (e 1 (by decide))
 obtain⟨k2,h2⟩:=fN (e 2 (by decide))
 rw[q,q,h0,h1,h2]
 refine jq (k:=a*(2*y 0*k0+p*(k0*k0))+b*(2*y 1*k1+p*(k1*k1))+c*(2*y 2*k2+p*(k2*k2))+d*(y 0*k1+y 1*k0+p*(k0*k1))+ee*(y 0*k2+y 2*k0+p*(k0*k2))+f*(y 1*k2+y 2*k1+p*(k1*k2))) ?_
 grind
theorem qH{m:List (List Int)}(h:bI m)(u:Int)(x:Nat->Int):aH m (λi=>u*x i)=u*u*aH m x:=by
 obtain⟨a,b,c,d,ee,f,_,q⟩:=mV h
 rw[q,q]
 grind
theorem rL{m:List (List Int)}(h:bI m){x y:Nat->Int}(e:∀i,i<3->x i=y i):aH m x=aH m y:=by
 obtain⟨a,b,c,d,ee,f,_,q⟩:=mV h
 rw[q,q,e 0 (by decide),e 1 (by decide),e 2 (by decide)]
def jA(p:Int)(x:Nat->Int):Int:=if x 0%p≠0 then x 0%p else if x 1%p≠0 then x 1%p else x 2%p
def iU(p:Int)(x:Nat->Int):Prop:=x 0%p=0/\x 1%p=0/\x 2%p=0
def Dw(m:List (List Int))(p:Int)(x:Nat->Int):Prop:=¬iU p x/\aH m (λi=>x i%p)%p=0
structure jB(p:Int)(y:Nat->Int):Prop where
 lo:∀i,i<3->0<=y i
 hi:∀i,i<3->y i<p
 one:(y 0=1)∨(y 0=0/\y 1=1)∨(y 0=0/\y 1=0/\y 2=1)
theorem Kx{p:Int}{x:Nat->Int}(h:¬iU p x):jA p x≠0:=by
 unfold jA
 unfold iU at h
 split
 ·assumption
 ·split
  ·assumption
  ·omega
theorem Ky{p:Int}{x:Nat->Int}(h:0<p):0<=jA p x/\jA p x<p:=by
 unfold jA
 have a:=λi=>Int.emod_nonneg (x i) (show p≠0 by omega)
 have b:=λi=>Int.emod_lt_of_pos (x i) h
 split
 ·exact⟨a 0,b 0⟩
 ·split
  ·exact⟨a 1,b 1⟩
  ·exact⟨a 2,b 2⟩
theorem ja(a b p:Int):a*(b%p)%p=a*b%p:=by rw[Int.mul_emod,Int.emod_emod_of_dvd _ (Int.dvd_refl p),<-Int.mul_emod]
theorem Dy(a b p:Int):(a%p)*b%p=a*b%p:=by rw[Int.mul_emod,Int.emod_emod_of_dvd _ (Int.dvd_refl p),<-Int.mul_emod]
theorem bJ{a p:Int}(h0:0<=a)(h1:a<p):a%p=a:=Int.emod_eq_of_lt h0 h1
theorem yZ{p u:Int}{x:Nat->Int}(hp:1<p)(hu:u*jA p x%p=1)(hr:¬iU p x):jB p (λi=>u*(x i%p)%p):=by
 refine⟨λi _=>Int.emod_nonneg _ (by omega),λi _=>Int.emod_lt_of_pos _ (by omega),?_⟩
 unfold jA at hu
 unfold iU at hr
 split at hu
 ·exact .inl hu
 ·rename_i h0
  have h0:x 0%p=0:=by omega
  split at hu
  ·exact .inr (.inl ⟨by show u*(x 0%p)%p=0;rw[h0,Int.mul_zero];exact Int.zero_emod p,hu⟩)
  ·rename_i h1
   have h1:x 1%p=0:=by omega
   exact .inr (.inr ⟨by show u*(x 0%p)%p=0;rw[h0,Int.mul_zero];exact Int.zero_emod p,by show u*(x 1%p)%p=0;rw[h1,Int.mul_zero];exact Int.zero_emod p,hu⟩)
theorem FN{p t:Int}{x y:Nat->Int}(hp:1<p)(L:jB p y)(t0:0<t)(t1:t<p)(e:∀i,i<3->t*y i%p=x i%p):jA p x=t/\ ¬iU p x:=by
 have tt:t%p=t:=bJ (by omega) t1
 unfold jA iU
 rcases L.one with z|⟨z,z1⟩|⟨z,z1,z2⟩
 ·have e0:=e 0 (by decide)
  rw[z,Int.mul_one,tt]at e0
  rw[<-e0,if_pos (by omega)]
  exact⟨rfl,by omega⟩
 ·have e0:=e 0 (by decide)
  rw[z,Int.mul_zero,Int.zero_emod]at e0
  have e1:=e 1 (by decide)
  rw[z1,Int.mul_one,tt]at e1
  rw[<-e0,if_neg (by omega),<-e1,if_pos (by omega)]
  exact⟨rfl,by omega⟩
 ·have e0:=e 0 (by decide)
  rw[z,Int.mul_zero,Int.zero_emod]at e0
  have e1:=e 1 (by decide)
  rw[z1,Int.mul_zero,Int.zero_emod]at e1
  have e2:=e 2 (by decide)
  rw[z2,Int.mul_one,tt]at e2
  rw[<-e0,if_neg (by omega),<-e1,if_neg (by omega),<-e2]
  exact⟨rfl,by omega⟩
theorem Hr{p t u:Int}{x y:Nat->Int}(hp:1<p)(L:jB p y)(t0:0<t)(t1:t<p)(e:∀i,i<3->t*y i%p=x i%p)(hu:u*jA p x%p=1)(i:Nat)(hi:i<3):u*(x i%p)%p=y i:=by
 rw[(FN hp L t0 t1 e).1]at hu
 rw[<-e i hi,ja,<-Int.mul_assoc,<-Dy,hu,Int.one_mul]
 exact bJ (L.lo i hi) (L.hi i hi)
theorem Hs{m:List (List Int)}(ev:bI m){p u:Int}{x:Nat->Int}(h:aH m (λi=>x i%p)%p=0):aH m (λi=>u*(x i%p)%p)%p=0:=by
 have e:aH m (λi=>u*(x i%p)%p)%p=aH m (λi=>u*(x i%p))%p:=sQ ev λi _=>Int.emod_emod_of_dvd _ (Int.dvd_refl p)
 rw[e,qH ev u (λi=>x i%p),<-ja,h,Int.mul_zero,Int.zero_emod]
theorem NX{m:List (List Int)}(ev:bI m){p t:Int}{x y:Nat->Int}(h:aH m y%p=0)(e:∀i,i<3->t*y i%p=x i%p):aH m (λi=>x i%p)%p=0:=by
 have e':aH m (λi=>x i%p)%p=aH m (λi=>t*y i)%p:=sQ ev λi hi=>by rw[e i hi];exact Int.emod_emod_of_dvd _ (Int.dvd_refl p)
 rw[e',qH ev t y,<-ja,h,Int.mul_zero,Int.zero_emod]
theorem y9{n:Nat}(hn:0<n){r:List Int}:r∈gc n (n*n)↔r=[av r 0,av r 1,av r 2]/\jB (n:Int) (av r)/\1<n∨(r∈gc n (n*n)/\n<=1):=by
 constructor
 ·intro h
  by_cases h1:1<n
  ·refine .inl ?_
   unfold gc mT at h
   simp only[List.mem_append,List.mem_cons,List.mem_map,List.mem_range]at h
   rcases h with(rfl|⟨a,ha,rfl⟩)|⟨a,ha,rfl⟩
   ·refine⟨rfl,⟨λi hi=> ?_,λi hi=> ?_,.inr (.inr ⟨rfl,rfl,rfl⟩)⟩,h1⟩
    ·rcases aC hi with rfl|rfl|rfl<;>decide
    ·rcases aC hi with rfl|rfl|rfl
     ·show(0:Int)<n;omega
     ·show(0:Int)<n;omega
     ·show(1:Int)<n;omega
   ·refine⟨rfl,⟨λi hi=> ?_,λi hi=> ?_,.inr (.inl ⟨rfl,rfl⟩)⟩,h1⟩
    ·rcases aC hi with rfl|rfl|rfl
     ·show(0:Int)<=0;decide
     ·show(0:Int)<=1;decide
     ·show(0:Int)<=(a:Int);omega
    ·rcases aC hi with rfl|rfl|rfl
     ·show(0:Int)<n;omega
     ·show(1:Int)<n;omega
     ·show(a:Int)<n;omega
   ·have d1:a/n<n:=by rw[Nat.div_lt_iff_lt_mul hn];exact ha
    have d2:a%n<n:=Nat.mod_lt _ hn
    refine⟨rfl,⟨λi hi=> ?_,λi hi=> ?_,.inl rfl⟩,h1⟩
    ·rcases aC hi with rfl|rfl|rfl
     ·show(0:Int)<=1;decide
     ·show(0:Int)<=((a/n:Nat):Int);exact Int.natCast_nonneg _
     ·show(0:Int)<=((a%n:Nat):Int);exact Int.natCast_nonneg _
    ·rcases aC hi with rfl|rfl|rfl
     ·show(1:Int)<n;omega
     ·show((a/n:Nat):Int)<n;exact Int.ofNat_lt.mpr d1
     ·show((a%n:Nat):Int)<n;exact Int.ofNat_lt.mpr d2
  ·exact .inr ⟨h,by omega⟩
 ·rintro(⟨e,L,h1⟩|⟨h,_⟩)
  ·unfold gc mT
   simp only[List.mem_append,List.mem_cons,List.mem_map,List.mem_range]
   have l1:=L.lo 1 (by decide)
   have l2:=L.lo 2 (by decide)
   have g1:=L.hi 1 (by decide)
   have g2:=L.hi 2 (by decide)
   rcases L.one with z|⟨z,z1⟩|⟨z,z1,z2⟩
   ·refine .inr ⟨(av r 1).toNat*n+(av r 2).toNat,?_,?_⟩
    ·have a1:(av r 1).toNat+1<=n:=by omega
     have a2:=Nat.mul_le_mul_right n a1
     rw[Nat.succ_mul]at a2
     have a3:(av r 2).toNat<n:=by omega
     exact Nat.lt_of_lt_of_le (Nat.add_lt_add_left a3 _) a2
    ·have a3:(av r 2).toNat<n:=by omega
     have d1:((av r 1).toNat*n+(av r 2).toNat)/n=(av r 1).toNat:=by
      rw[Nat.add_comm,Nat.add_mul_div_right _ _ hn,Nat.div_eq_of_lt a3,Nat.zero_add]
     have d2:((av r 1).toNat*n+(av r 2).toNat)%n=(av r 2).toNat:=by
      rw[Nat.add_comm,Nat.add_mul_mod_self_right,Nat.mod_eq_of_lt a3]
     rw[d1,d2,e]
     show [1,(((av r 1).toNat:Nat):Int),(((av r 2).toNat:Nat):Int)]=[av r 0,av r 1,av r 2]
     rw[z,Int.toNat_of_nonneg l1,Int.toNat_of_nonneg l2]
   ·refine .inl (.inr ⟨(av r 2).toNat,by omega,?_⟩)
    rw[e]
    show [0,1,(((av r 2).toNat:Nat):Int)]=[av r 0,av r 1,av r 2]
    rw[z,z1,Int.toNat_of_nonneg l2]
   ·refine .inl (.inl ?_)
    rw[e,z,z1,z2]
  ·exact h
theorem Dz{n:Nat}(hn:1<n){r:List Int}(h:r∈gc n (n*n)):r=[av r 0,av r 1,av r 2]/\jB (n:Int) (av r):=by
 rcases(y9 (by omega)).mp h with⟨a,b,_⟩|⟨_,z⟩
 ·exact⟨a,b⟩
 ·omega
theorem DA{n:Nat}(hn:1<n){y:Nat->Int}(h:jB (n:Int) y): [y 0,y 1,y 2]∈gc n (n*n):=
 (y9 (by omega)).mpr (.inl ⟨rfl,⟨λi hi=>by rcases aC hi with rfl|rfl|rfl<;>exact h.lo _ (by decide),λi hi=>by rcases aC hi with rfl|rfl|rfl<;>exact h.hi _ (by decide),h.one⟩,hn⟩)
theorem pq{p:Int}(hp:p∈([3,5,7,11,13]:List Int)){a:Int}(ha:a%p≠0):∃t:Nat,t<(p-1).toNat/\(1+(t:Int))*a%p=1:=by
 have key:∀q∈([3,5,7,11,13]:List Nat),∀b<q,b≠0-> ∃t<q-1,((1+t)*b)%q=1:=by decide
 have p0:2<p:=by
  simp only[List.mem_cons,List.not_mem_nil,or_false]at hp
  omega
 obtain⟨q,rfl⟩:∃q:Nat,p=(q:Int):=⟨p.toNat,by omega⟩
 have hq:q∈([3,5,7,11,13]:List Nat):=by
  simp only[List.mem_cons,List.not_mem_nil,or_false]at hp ⊢
  omega
 have a0:=Int.emod_nonneg a (show(q:Int)≠0 by omega)
 have a1:=Int.emod_lt_of_pos a (show(0:Int)<q by omega)
 obtain⟨b,eb⟩:∃b:Nat,a%(q:Int)=(b:Int):=⟨(a%(q:Int)).toNat,by omega⟩
 obtain⟨t,ht,e⟩:=key q hq b (by omega) (by omega)
 refine⟨t,by omega,?_⟩
 rw[<-ja,eb]
 exact_mod_cast e
def kR:Nat->(Nat->Nat) ->Nat
 |0,_=>0
 |k+1,f=>kR k f+f k
theorem kT{f g:Nat->Nat}:∀{k:Nat},(∀y,y<k->f y=g y) ->kR k f=kR k g
 |0,_=>rfl
 |k+1,h=>by
  show kR k f+f k=kR k g+g k
  rw[kT λy hy=>h y (by omega),h k (by omega)]
theorem uI{n:Nat}(hn:0<n)(f:Nat->Nat->Bool):∀a,(List.range (a*n)).countP (λk=>f (k/n) (k%n))=kR a λy=>(List.range n).countP (f y)
 |0=>by simp[kR]
 |a+1=>by
  rw[Nat.succ_mul,List.range_add,List.countP_append,uI hn f a,List.countP_map]
  show _=kR a _+_
  congr 1
  refine List.countP_congr λk hk=> ?_
  rw[List.mem_range]at hk
  have e1:(a*n+k)/n=a:=by rw[Nat.add_comm,Nat.add_mul_div_right _ _ hn,Nat.div_eq_of_lt hk,Nat.zero_add]
  have e2:(a*n+k)%n=k:=by rw[Nat.add_comm,Nat.add_mul_mod_self_right,Nat.mod_eq_of_lt hk]
  show f ((a*n+k)/n) ((a*n+k)%n)=true↔f a k=true
  rw[e1,e2]
def FO(q r:Nat):Nat:=(List.range q).countP λs=>s*s%q==r%q
def sR(q a b c:Nat):Nat:=(List.range q).countP λz=>(c*(z*z)+b*z+a)%q==0
def dD(q a:Nat):Bool:=(List.range q).all λb=>(List.range q).all λc=>c==0||sR q a b c==FO q (b*b+4*(q-1)*(a*c))
def Ht(q:Nat):Bool:=(List.range q).all (dD q)
def WK(q:Nat):Bool:=(List.range q).all λa=>(List.range q).all λb=>sR q a b 0==if b==0 then(if a==0 then q else 0)else 1
def dH(q a:Nat):Bool:=(List.range q).all λb=>(List.range q).all λc=>(b*b+4*(q-1)*(a*c))%q==0||FO q c+kR q (λy=>FO q (a+b*y+c*(y*y)))==q+1
def Hu(q:Nat):Bool:=(List.range q).all (dH q)
def WL(q:Nat):Bool:=(List.range q).all λe=>(List.range q).all λf=>f==0||kR q (λy=>if(e+f*y)%q==0 then 0 else 1)==q-1
theorem Kz:([3,5,7,11,13].all WK)=true:=by decide+kernel
theorem KA:([3,5,7,11,13].all WL)=true:=by decide+kernel
theorem NY:dD 3 0=true:=by decide+kernel
theorem NZ:dD 3 1=true:=by decide+kernel
theorem Oa:dD 3 2=true:=by decide+kernel
theorem Up:Ht 3=true:=by
 refine List.all_eq_true.mpr λa ha=> ?_
 match a,List.mem_range.mp ha with
 |0,_=>exact NY
 |1,_=>exact NZ
 |2,_=>exact Oa
theorem Ob:dD 5 0=true:=by decide+kernel
theorem Oc:dD 5 1=true:=by decide+kernel
theorem Od:dD 5 2=true:=by decide+kernel
theorem Oe:dD 5 3=true:=by decide+kernel
theorem Of:dD 5 4=true:=by decide+kernel
theorem Uq:Ht 5=true:=by
 refine List.all_eq_true.mpr λa ha=> ?_
 match a,List.mem_range.mp ha with
 |0,_=>exact Ob
 |1,_=>exact Oc
 |2,_=>exact Od
 |3,_=>exact Oe
 |4,_=>exact Of
theorem Og:dD 7 0=true:=by decide+kernel
theorem Oh:dD 7 1=true:=by decide+kernel
theorem Oi:dD 7 2=true:=by decide+kernel
theorem Oj:dD 7 3=true:=by decide+kernel
theorem Ol:dD 7 4=true:=by decide+kernel
theorem Om:dD 7 5=true:=by decide+kernel
theorem Oo:dD 7 6=true:=by decide+kernel
theorem Ur:Ht 7=true:=by
 refine List.all_eq_true.mpr λa ha=> ?_
 match a,List.mem_range.mp ha with
 |0,_=>exact Og
 |1,_=>exact Oh
 |2,_=>exact Oi
 |3,_=>exact Oj
 |4,_=>exact Ol
 |5,_=>exact Om
 |6,_=>exact Oo
theorem KC:dD 11 0=true:=by decide+kernel
theorem KD:dD 11 1=true:=by decide+kernel
theorem KG:dD 11 2=true:=by decide+kernel
theorem KH:dD 11 3=true:=by decide+kernel
theorem KI:dD 11 4=true:=by decide+kernel
theorem KJ:dD 11 5=true:=by decide+kernel
theorem KL:dD 11 6=true:=by decide+kernel
theorem KN:dD 11 7=true:=by decide+kernel
theorem KO:dD 11 8=true:=by decide+kernel
theorem KP:dD 11 9=true:=by decide+kernel
theorem Hv:dD 11 10=true:=by decide+kernel
theorem Rt:Ht 11=true:=by
 refine List.all_eq_true.mpr λa ha=> ?_
 match a,List.mem_range.mp ha with
 |0,_=>exact KC
 |1,_=>exact KD
 |2,_=>exact KG
 |3,_=>exact KH
 |4,_=>exact KI
 |5,_=>exact KJ
 |6,_=>exact KL
 |7,_=>exact KN
 |8,_=>exact KO
 |9,_=>exact KP
 |10,_=>exact Hv
theorem KQ:dD 13 0=true:=by decide+kernel
theorem KR:dD 13 1=true:=by decide+kernel
theorem KS:dD 13 2=true:=by decide+kernel
theorem KU:dD 13 3=true:=by decide+kernel
theorem KW:dD 13 4=true:=by decide+kernel
theorem KY:dD 13 5=true:=by decide+kernel
theorem KZ:dD 13 6=true:=by decide+kernel
theorem La:dD 13 7=true:=by decide+kernel
theorem Lb:dD 13 8=true:=by decide+kernel
theorem Lc:dD 13 9=true:=by decide+kernel
theorem Hw:dD 13 10=true:=by decide+kernel
theorem HA:dD 13 11=true:=by decide+kernel
theorem HB:dD 13 12=true:=by decide+kernel
theorem Ru:Ht 13=true:=by
 refine List.all_eq_true.mpr λa ha=> ?_
 match a,List.mem_range.mp ha with
 |0,_=>exact KQ
 |1,_=>exact KR
 |2,_=>exact KS
 |3,_=>exact KU
 |4,_=>exact KW
 |5,_=>exact KY
 |6,_=>exact KZ
 |7,_=>exact La
 |8,_=>exact Lb
 |9,_=>exact Lc
 |10,_=>exact Hw
 |11,_=>exact HA
 |12,_=>exact HB
theorem Ld:([3,5,7,11,13].all Ht)=true:=by
 simp only[List.all_cons,List.all_nil,Up,Uq,Ur,Rt,Ru,Bool.and_true]
theorem Oq:dH 3 0=true:=by decide+kernel
theorem Ot:dH 3 1=true:=by decide+kernel
theorem Ou:dH 3 2=true:=by decide+kernel
theorem Us:Hu 3=true:=by
 refine List.all_eq_true.mpr λa ha=> ?_
 match a,List.mem_range.mp ha with
 |0,_=>exact Oq
 |1,_=>exact Ot
 |2,_=>exact Ou
theorem Ov:dH 5 0=true:=by decide+kernel
theorem Ow:dH 5 1=true:=by decide+kernel
theorem Ox:dH 5 2=true:=by decide+kernel
theorem Oz:dH 5 3=true:=by decide+kernel
theorem OA:dH 5 4=true:=by decide+kernel
theorem Ut:Hu 5=true:=by
 refine List.all_eq_true.mpr λa ha=> ?_
 match a,List.mem_range.mp ha with
 |0,_=>exact Ov
 |1,_=>exact Ow
 |2,_=>exact Ox
 |3,_=>exact Oz
 |4,_=>exact OA
theorem OB:dH 7 0=true:=by decide+kernel
theorem OC:dH 7 1=true:=by decide+kernel
theorem OD:dH 7 2=true:=by decide+kernel
theorem OE:dH 7 3=true:=by decide+kernel
theorem OF:dH 7 4=true:=by decide+kernel
theorem OG:dH 7 5=true:=by decide+kernel
theorem OH:dH 7 6=true:=by decide+kernel
theorem Uu:Hu 7=true:=by
 refine List.all_eq_true.mpr λa ha=> ?_
 match a,List.mem_range.mp ha with
 |0,_=>exact OB
 |1,_=>exact OC
 |2,_=>exact OD
 |3,_=>exact OE
 |4,_=>exact OF
 |5,_=>exact OG
 |6,_=>exact OH
theorem Le:dH 11 0=true:=by decide+kernel
theorem Lf:dH 11 1=true:=by decide+kernel
theorem Lg:dH 11 2=true:=by decide+kernel
theorem Lh:dH 11 3=true:=by decide+kernel
theorem Li:dH 11 4=true:=by decide+kernel
theorem Lj:dH 11 5=true:=by decide+kernel
theorem Lk:dH 11 6=true:=by decide+kernel
theorem Lm:dH 11 7=true:=by decide+kernel
theorem Ln:dH 11 8=true:=by decide+kernel
theorem Lo:dH 11 9=true:=by decide+kernel
theorem HD:dH 11 10=true:=by decide+kernel
theorem Rv:Hu 11=true:=by
 refine List.all_eq_true.mpr λa ha=> ?_
 match a,List.mem_range.mp ha with
 |0,_=>exact Le
 |1,_=>exact Lf
 |2,_=>exact Lg
 |3,_=>exact Lh
 |4,_=>exact Li
 |5,_=>exact Lj
 |6,_=>exact Lk
 |7,_=>exact Lm
 |8,_=>exact Ln
 |9,_=>exact Lo
 |10,_=>exact HD
theorem Lp:dH 13 0=true:=by decide+kernel
theorem Lq:dH 13 1=true:=by decide+kernel
theorem Lr:dH 13 2=true:=by decide+kernel
theorem Lu:dH 13 3=true:=by decide+kernel
theorem Lv:dH 13 4=true:=by decide+kernel
theorem Lz:dH 13 5=true:=by decide+kernel
theorem LA:dH 13 6=true:=by decide+kernel
theorem LB:dH 13 7=true:=by decide+kernel
theorem LC:dH 13 8=true:=by decide+kernel
theorem LD:dH 13 9=true:=by decide+kernel
theorem HE:dH 13 10=true:=by decide+kernel
theorem HF:dH 13 11=true:=by decide+kernel
theorem HG:dH 13 12=true:=by decide+kernel
theorem Rw:Hu 13=true:=by
 refine List.all_eq_true.mpr λa ha=> ?_
 match a,List.mem_range.mp ha with
 |0,_=>exact Lp
 |1,_=>exact Lq
 |2,_=>exact Lr
 |3,_=>exact Lu
 |4,_=>exact Lv
 |5,_=>exact Lz
 |6,_=>exact LA
 |7,_=>exact LB
 |8,_=>exact LC
 |9,_=>exact LD
 |10,_=>exact HE
 |11,_=>exact HF
 |12,_=>exact HG
theorem LF:([3,5,7,11,13].all Hu)=true:=by
 simp only[List.all_cons,List.all_nil,Us,Ut,Uu,Rv,Rw,Bool.and_true]
theorem Af{f:Nat->Bool}(h:([3,5,7,11,13].all f)=true){q:Nat}(hq:q∈([3,5,7,11,13]:List Nat)):f q=true:=List.all_eq_true.mp h q hq
theorem all_range{q:Nat}{f:Nat->Bool}(h:(List.range q).all f=true){a:Nat}(ha:a<q):f a=true:=List.all_eq_true.mp h a (List.mem_range.mpr ha)
theorem OI{q:Nat}(hq:q∈([3,5,7,11,13]:List Nat)){a b c:Nat}(ha:a<q)(hb:b<q)(hc:c<q)(h0:c≠0):sR q a b c=FO q (b*b+4*(q-1)*(a*c)):=by
 have h:=all_range (all_range (all_range (Af Ld hq) ha) hb) hc
 rw[Bool.or_eq_true]at h
 rcases h with h|h
 ·exact absurd (eq_of_beq h) h0
 ·exact eq_of_beq h
theorem rM{q:Nat}(hq:q∈([3,5,7,11,13]:List Nat)){a b:Nat}(ha:a<q)(hb:b<q):sR q a b 0=if b=0 then(if a=0 then q else 0)else 1:=by
 have h:=eq_of_beq (all_range (all_range (Af Kz hq) ha) hb)
 rw[h]
 simp only[beq_iff_eq]
theorem OJ{q:Nat}(hq:q∈([3,5,7,11,13]:List Nat)){a b c:Nat}(ha:a<q)(hb:b<q)(hc:c<q)(h0:(b*b+4*(q-1)*(a*c))%q≠0):FO q c+kR q (λy=>FO q (a+b*y+c*(y*y)))=q+1:=by
 have h:=all_range (all_range (all_range (Af LF hq) ha) hb) hc
 rw[Bool.or_eq_true]at h
 rcases h with h|h
 ·exact absurd (eq_of_beq h) h0
 ·exact eq_of_beq h
theorem OL{q:Nat}(hq:q∈([3,5,7,11,13]:List Nat)){e f:Nat}(he:e<q)(hf:f<q)(h0:f≠0):kR q (λy=>if(e+f*y)%q=0 then 0 else 1)=q-1:=by
 have h:=all_range (all_range (Af KA hq) he) hf
 rw[Bool.or_eq_true]at h
 rcases h with h|h
 ·exact absurd (eq_of_beq h) h0
 ·rw[<-eq_of_beq h]
  refine kT λy _=> ?_
  simp only[beq_iff_eq]
theorem FP(q r:Nat):FO q (r%q)=FO q r:=by
 unfold FO
 simp only[Nat.mod_mod]
theorem LG(q a b c:Nat):sR q (a%q) (b%q) (c%q)=sR q a b c:=by
 unfold sR
 congr 1
 funext z
 congr 1
 simp only[Nat.add_mod,Nat.mul_mod,Nat.mod_mod]
def rN(a b c d e f x y z:Nat):Nat:=a*(x*x)+b*(y*y)+c*(z*z)+d*(x*y)+e*(x*z)+f*(y*z)
def v9(q a b c d e f x y:Nat):Nat:=(List.range q).countP λz=>rN a b c d e f x y z%q==0
theorem FQ(q a b c d e f x y:Nat):v9 q a b c d e f x y=sR q ((a*(x*x)+d*(x*y)+b*(y*y))%q) ((e*x+f*y)%q) (c%q):=by
 rw[LG]
 unfold v9 sR rN
 congr 1
 funext z
 congr 2
 grind
theorem DB{q:Nat}{x:Int}(n:Nat)(h:(n:Int)=x):(n%q=0)↔x%(q:Int)=0:=by
 rw[<-h]
 constructor
 ·intro z;exact_mod_cast z
 ·intro z;exact_mod_cast z
theorem LH{q:Nat}(hq:q∈([3,5,7,11,13]:List Nat)):((q:Int))∈([3,5,7,11,13]:List Int)/\2<q/\q<14:=by
 simp only[List.mem_cons,List.not_mem_nil,or_false]at hq ⊢
 omega
theorem DC{q:Nat}(hq:q∈([3,5,7,11,13]:List Nat)){a b c d e f:Nat}(ha:a<q)(hb:b<q)(hc:c<q)(hd:d<q)(he:e<q)(hf:f<q)
  (h0:(4*((a:Int)*b*c)+d*e*f-a*(f*f) -b*(e*e) -c*(d*d))%(q:Int)≠0):
  (if c=0 then 1 else 0)+v9 q a b c d e f 0 1+kR q (λy=>v9 q a b c d e f 1 y)=q+1:=by
 obtain⟨hp,q2,q14⟩:=LH hq
 have sS:0<q:=by omega
 by_cases c0:c=0
 ·subst c0
  rw[if_pos rfl]
  simp only[FQ,Nat.zero_mod]
  by_cases f0:f=0
  ·subst f0
   have e0:e≠0:=λz=>h0 (by subst z;simp)
   have b0:b≠0:=λz=>h0 (by subst z;simp)
   have n1:sR q ((a*(0*0)+d*(0*1)+b*(1*1))%q) ((e*0+0*1)%q) 0=0:=by
    rw[rM hq (Nat.mod_lt _ sS) (Nat.mod_lt _ sS)]
    simp only[Nat.mul_zero,Nat.zero_mul,Nat.zero_add,Nat.mul_one,Nat.zero_mod,if_true,Nat.mod_eq_of_lt hb,if_neg b0]
   have n2:kR q (λy=>sR q ((a*(1*1)+d*(1*y)+b*(y*y))%q) ((e*1+0*y)%q) 0)=kR q λy=>if(1+0*y)%q=0 then 0 else 1:=kT λy _=>by
    rw[rM hq (Nat.mod_lt _ sS) (Nat.mod_lt _ sS)]
    simp only[Nat.mul_one,Nat.zero_mul,Nat.add_zero,Nat.mod_eq_of_lt he,if_neg e0]
    rw[if_neg (by rw[Nat.mod_eq_of_lt (by omega)];decide)]
   have n3:kR q (λy=>if(1+0*y)%q=0 then 0 else 1)=q:=by
    have k:∀n,kR n (λy=>if(1+0*y)%q=0 then 0 else 1)=n:=λn=>by
     induction n with
     |zero=>rfl
     |succ n ih=>
      show kR n _+(if(1+0*n)%q=0 then 0 else 1)=_
      rw[ih,if_neg (by rw[Nat.zero_mul,Nat.add_zero,Nat.mod_eq_of_lt (by omega)];decide)]
    exact k q
   rw[n1,n2,n3]
   omega
  ·have n1:sR q ((a*(0*0)+d*(0*1)+b*(1*1))%q) ((e*0+f*1)%q) 0=1:=by
    rw[rM hq (Nat.mod_lt _ sS) (Nat.mod_lt _ sS)]
    simp only[Nat.mul_zero,Nat.zero_add,Nat.mul_one,Nat.mod_eq_of_lt hf,if_neg f0]
   have n2:kR q (λy=>sR q ((a*(1*1)+d*(1*y)+b*(y*y))%q) ((e*1+f*y)%q) 0)=kR q λy=>if(e+f*y)%q=0 then 0 else 1:=kT λy _=>by
    rw[rM hq (Nat.mod_lt _ sS) (Nat.mod_lt _ sS)]
    simp only[Nat.mul_one]
    by_cases z:(e+f*y)%q=0
    ·rw[if_pos z,if_pos z,if_neg]
     intro w
     apply h0
     have z':=(DB (x:=(e:Int)+f*y) (e+f*y) (by push_cast;rfl)).mp z
     have w':=(DB (x:=(a:Int)+d*(1*y)+b*(y*y)) (a+d*(1*y)+b*(y*y)) (by push_cast;rfl)).mp w
     obtain⟨u,hu⟩:=Int.dvd_of_emod_eq_zero z'
     obtain⟨v,hv⟩:=Int.dvd_of_emod_eq_zero w'
     refine Int.emod_eq_zero_of_dvd ⟨d*f*u-b*e*u+b*f*y*u-f*f*v,?_⟩
     have Uv:(e:Int)=q*u-f*y:=by omega
     have hv':(a:Int)=q*v-d*(1*y) -b*(y*y):=by omega
     rw[hv',Uv]
     grind
    ·rw[if_neg z,if_neg z]
   rw[n1,n2,OL hq he hf f0]
   omega
 ·rw[if_neg c0,Nat.zero_add]
  have N:∀x y,v9 q a b c d e f x y=FO q ((e*x+f*y)%q*((e*x+f*y)%q)+4*(q-1)*((a*(x*x)+d*(x*y)+b*(y*y))%q*c)):=λx y=>by
   rw[FQ,Nat.mod_eq_of_lt hc,OI hq (Nat.mod_lt _ sS) (Nat.mod_lt _ sS) hc c0]
  have key:∀x y,FO q ((e*x+f*y)%q*((e*x+f*y)%q)+4*(q-1)*((a*(x*x)+d*(x*y)+b*(y*y))%q*c))=
    FO q ((e*e+4*(q-1)*(a*c))%q*(x*x)+(2*(e*f)+4*(q-1)*(c*d))%q*(x*y)+(f*f+4*(q-1)*(b*c))%q*(y*y)):=λx y=>by
   rw[<-FP q ((e*x+f*y)%q*_+_),<-FP q (_*(x*x)+_+_)]
   congr 1
   have cm:∀n:Nat,∃k:Int,((n%q:Nat):Int)=(n:Int) -q*k:=λn=>⟨(n:Int)/q,by
    have:=Int.emod_add_mul_ediv (n:Int) q
    rw[Int.natCast_emod]
    omega⟩
   obtain⟨k1,h1⟩:=cm (e*x+f*y)
   obtain⟨k2,h2⟩:=cm (a*(x*x)+d*(x*y)+b*(y*y))
   obtain⟨k3,h3⟩:=cm (e*e+4*(q-1)*(a*c))
   obtain⟨k4,h4⟩:=cm (2*(e*f)+4*(q-1)*(c*d))
   obtain⟨k5,h5⟩:=cm (f*f+4*(q-1)*(b*c))
   generalize(e*x+f*y)%q=U at h1 ⊢
   generalize(a*(x*x)+d*(x*y)+b*(y*y))%q=W at h2 ⊢
   generalize(e*e+4*(q-1)*(a*c))%q=A at h3 ⊢
   generalize(2*(e*f)+4*(q-1)*(c*d))%q=B at h4 ⊢
   generalize(f*f+4*(q-1)*(b*c))%q=C at h5 ⊢
   obtain⟨r,hr⟩:∃r,q-1=r:=⟨_,rfl⟩
   rw[hr]at h3 h4 h5 ⊢
   push_cast at h1 h2 h3 h4 h5
   apply Int.ofNat.inj
   show((U*U+4*r*(W*c):Nat):Int)%((q:Nat):Int)=((A*(x*x)+B*(x*y)+C*(y*y):Nat):Int)%((q:Nat):Int)
   push_cast
   rw[h1,h2,h3,h4,h5]
   refine jq (k:= -2*((e:Int)*x+f*y)*k1+q*(k1*k1) -4*r*c*k2+k3*(x*x)+k4*(x*y)+k5*(y*y)) ?_
   grind
  have n0:v9 q a b c d e f 0 1=FO q ((f*f+4*(q-1)*(b*c))%q):=by
   rw[N,key]
   simp only[Nat.mul_zero,Nat.zero_mul,Nat.zero_add,Nat.mul_one]
  have n1:kR q (λy=>v9 q a b c d e f 1 y)=kR q λy=>FO q ((e*e+4*(q-1)*(a*c))%q+(2*(e*f)+4*(q-1)*(c*d))%q*y+(f*f+4*(q-1)*(b*c))%q*(y*y)):=kT λy _=>by
   rw[N,key]
   simp only[Nat.mul_one,Nat.one_mul]
  rw[n0,n1]
  refine OJ hq (Nat.mod_lt _ sS) (Nat.mod_lt _ sS) (Nat.mod_lt _ sS) ?_
  intro z
  have cm:∀n:Nat,∃k:Int,((n%q:Nat):Int)=(n:Int) -q*k:=λn=>⟨(n:Int)/q,by
   have:=Int.emod_add_mul_ediv (n:Int) q
   rw[Int.natCast_emod]
   omega⟩
  obtain⟨k3,h3⟩:=cm (e*e+4*(q-1)*(a*c))
  obtain⟨k4,h4⟩:=cm (2*(e*f)+4*(q-1)*(c*d))
  obtain⟨k5,h5⟩:=cm (f*f+4*(q-1)*(b*c))
  generalize(e*e+4*(q-1)*(a*c))%q=A at h3 z
  generalize(2*(e*f)+4*(q-1)*(c*d))%q=B at h4 z
  generalize(f*f+4*(q-1)*(b*c))%q=C at h5 z
  obtain⟨r,hr⟩:∃r:Nat,q=r+1:=⟨q-1,by omega⟩
  have hr1:q-1=r:=by omega
  rw[hr1]at h3 h4 h5 z
  push_cast at h3 h4 h5
  have hq':(r:Int)=q-1:=by omega
  have z':=(DB (x:=(B:Int)*B+4*r*(A*C)) _ (by push_cast;rfl)).mp z
  rw[h3,h4,h5,hq']at z'
  have z2:((16*(4*((a:Int)*b*c)+d*e*f-a*(f*f) -b*(e*e) -c*(d*d)))*c)%(q:Int)=0:=by
   obtain⟨w,hw⟩:=Int.dvd_of_emod_eq_zero z'
   obtain⟨B0,YB⟩:∃B0:Int,B0=2*((e:Int)*f) -4*(c*d):=⟨_,rfl⟩
   obtain⟨A0,YC⟩:∃A0:Int,A0=(e:Int)*e-4*(a*c):=⟨_,rfl⟩
   obtain⟨C0,YD⟩:∃C0:Int,C0=(f:Int)*f-4*(b*c):=⟨_,rfl⟩
   obtain⟨b1,hb1⟩:∃b1:Int,b1=4*((c:Int)*d) -k4:=⟨_,rfl⟩
   obtain⟨a1,ha1⟩:∃a1:Int,a1=4*((a:Int)*c) -k3:=⟨_,rfl⟩
   obtain⟨c1,hc1⟩:∃c1:Int,c1=4*((b:Int)*c) -k5:=⟨_,rfl⟩
   have eB:2*((e:Int)*f)+4*((q:Int) -1)*(c*d) -q*k4=B0+q*b1:=by rw[YB,hb1];grind
   have eA:(e:Int)*e+4*((q:Int) -1)*(a*c) -q*k3=A0+q*a1:=by rw[YC,ha1];grind
   have eC:(f:Int)*f+4*((q:Int) -1)*(b*c) -q*k5=C0+q*c1:=by rw[YD,hc1];grind
   rw[eB,eA,eC]at hw
   refine Int.emod_eq_zero_of_dvd ⟨2*B0*b1+q*(b1*b1)+4*(A0*C0)+4*((q:Int) -1)*(A0*c1+a1*C0+q*(a1*c1)) -w,?_⟩
   have e1:16*(4*((a:Int)*b*c)+d*e*f-a*(f*f) -b*(e*e) -c*(d*d))*c=4*(A0*C0) -B0*B0:=by rw[YC,YB,YD];grind
   rw[e1]
   grind
  have z3:=(mU hp (by rw[bJ (Int.natCast_nonneg c) (Int.ofNat_lt.mpr hc)];omega)).mp z2
  rw[Int.mul_comm]at z3
  have z4:=(mU hp (show(16:Int)%q≠0 by
   simp only[List.mem_cons,List.not_mem_nil,or_false]at hq
   rcases hq with rfl|rfl|rfl|rfl|rfl<;>decide)).mp z3
  exact h0 z4
theorem LI{m:List (List Int)}(h:bI m){a b c d e f:Int}(q:ent m 0 0=2*a/\ent m 1 1=2*b/\ent m 2 2=2*c/\ent m 0 1=d/\ent m 0 2=e/\ent m 1 2=f):aK m/2=4*(a*b*c)+d*e*f-a*(f*f) -b*(e*e) -c*(d*d):=by
 obtain⟨⟨s1,s2,s3⟩,_⟩:=h
 obtain⟨q1,q2,q3,q4,q5,q6⟩:=q
 have:aK m=2*(4*(a*b*c)+d*e*f-a*(f*f) -b*(e*e) -c*(d*d)):=by
  rw[bV,s1,s2,s3,q1,q2,q3,q4,q5,q6]
  grind
 omega
theorem DE{m:List (List Int)}(ev:bI m){q:Nat}(hq:q∈([3,5,7,11,13]:List Nat))(hd:aK m/2%(q:Int)≠0):((gc q (q*q)).filter λr=>decide (aH m (av r)%(q:Int)=0)).length=q+1:=by
 obtain⟨hp,q2,q14⟩:=LH hq
 obtain⟨a,b,c,d,e,f,ent,hQ⟩:=mV ev
 rw[LI ev ent]at hd
 have rs:∀z:Int,∃n:Nat,n<q/\ ∃k:Int,z=(n:Int)+q*k:=λz=>by
  have z0:=Int.emod_nonneg z (show(q:Int)≠0 by omega)
  have z1:=Int.emod_lt_of_pos z (show(0:Int)<q by omega)
  have z2:=Int.emod_add_mul_ediv z q
  exact⟨(z%q).toNat,by omega,z/q,by omega⟩
 obtain⟨a',ha,ka,ea⟩:=rs a
 obtain⟨b',hb,kb,eb⟩:=rs b
 obtain⟨c',hc,kc,ec⟩:=rs c
 obtain⟨d',hd',kd,ed⟩:=rs d
 obtain⟨e',he,ke,ee⟩:=rs e
 obtain⟨f',hf,kf,ef⟩:=rs f
 have h0:(4*((a':Int)*b'*c')+d'*e'*f'-a'*(f'*f') -b'*(e'*e') -c'*(d'*d'))%(q:Int)≠0:=λz=>hd (by
  rw[<-z]
  have M:∀x y:Int,(x+q*y)%q=x%q:=λx y=>Int.add_mul_emod_self_left ..
  have ca:a%(q:Int)=(a':Int)%q:=by rw[ea,M]
  have cb:b%(q:Int)=(b':Int)%q:=by rw[eb,M]
  have cc:c%(q:Int)=(c':Int)%q:=by rw[ec,M]
  have cd:d%(q:Int)=(d':Int)%q:=by rw[ed,M]
  have ce:e%(q:Int)=(e':Int)%q:=by rw[ee,M]
  have cf:f%(q:Int)=(f':Int)%q:=by rw[ef,M]
  have mm:∀{x y x' y':Int},x%(q:Int)=x'%q->y%(q:Int)=y'%q->(x*y)%(q:Int)=(x'*y')%q:=λh1 h2=>by rw[Int.mul_emod,h1,h2,<-Int.mul_emod]
  have pp:∀{x y x' y':Int},x%(q:Int)=x'%q->y%(q:Int)=y'%q->(x+y)%(q:Int)=(x'+y')%q:=λh1 h2=>by rw[Int.add_emod,h1,h2,<-Int.add_emod]
  have ss:∀{x y x' y':Int},x%(q:Int)=x'%q->y%(q:Int)=y'%q->(x-y)%(q:Int)=(x'-y')%q:=λh1 h2=>by rw[Int.sub_emod,h1,h2,<-Int.sub_emod]
  exact ss (ss (ss (pp (mm rfl (mm (mm ca cb) cc)) (mm (mm cd ce) cf)) (mm ca (mm cf cf))) (mm cb (mm ce ce))) (mm cc (mm cd cd)))
 have key:∀x y z:Nat,decide (aH m (av [(x:Int),(y:Int),(z:Int)])%(q:Int)=0)=(rN a' b' c' d' e' f' x y z%q==0):=λx y z=>by
  rw[hQ]
  show decide ((a*((x:Int)*x)+b*((y:Int)*y)+c*((z:Int)*z)+d*((x:Int)*y)+e*((x:Int)*z)+f*((y:Int)*z))%(q:Int)=0)=_
  have e1:(a*((x:Int)*x)+b*((y:Int)*y)+c*((z:Int)*z)+d*((x:Int)*y)+e*((x:Int)*z)+f*((y:Int)*z))%(q:Int)=((rN a' b' c' d' e' f' x y z:Nat):Int)%(q:Int):=by
   unfold rN
   push_cast
   refine jq (k:=ka*((x:Int)*x)+kb*((y:Int)*y)+kc*((z:Int)*z)+kd*((x:Int)*y)+ke*((x:Int)*z)+kf*((y:Int)*z)) ?_
   rw[ea,eb,ec,ed,ee,ef]
   grind
  rw[e1,Bool.eq_iff_iff,decide_eq_true_eq,beq_iff_eq]
  constructor
  ·intro z;exact_mod_cast z
  ·intro z;exact_mod_cast z
 rw[<-DC hq ha hb hc hd' he hf h0,<-List.countP_eq_length_filter]
 unfold gc mT
 rw[List.countP_append,List.countP_cons,List.countP_map,List.countP_map]
 have k0:=key 0 0 1
 have q0:(rN a' b' c' d' e' f' 0 0 1%q==0)=decide (c'=0):=by
  unfold rN
  simp only[Nat.mul_zero,Nat.zero_mul,Nat.zero_add,Nat.mul_one,Nat.add_zero,Nat.mod_eq_of_lt hc]
  rfl
 rw[q0]at k0
 have e1:(if(decide (aH m (av [0,0,1])%(q:Int)=0))=true then 1 else 0)=if c'=0 then 1 else 0:=by
  have:decide (aH m (av [0,0,1])%(q:Int)=0)=decide (c'=0):=k0
  rw[this]
  simp only[decide_eq_true_eq]
 rw[e1]
 have e2:List.countP ((λr=>decide (aH m (av r)%(q:Int)=0)) ∘ λ (a:Nat)=>[0,1,(a:Int)]) (List.range q)=v9 q a' b' c' d' e' f' 0 1:=by
  unfold v9
  refine List.countP_congr λz _=> ?_
  rw[<-key 0 1 z]
  exact Iff.rfl
 have e3:List.countP ((λr=>decide (aH m (av r)%(q:Int)=0)) ∘ λ (a:Nat)=>[1,((a/q:Nat):Int),((a%q:Nat):Int)]) (List.range (q*q))=kR q λy=>v9 q a' b' c' d' e' f' 1 y:=by
  rw[show(λy=>v9 q a' b' c' d' e' f' 1 y)=λy=>(List.range q).countP ((λy z=>rN a' b' c' d' e' f' 1 y z%q==0) y)from rfl,<-uI (show 0<q by omega) (λy z=>rN a' b' c' d' e' f' 1 y z%q==0) q]
  refine List.countP_congr λz _=> ?_
  show decide (aH m (av [1,((z/q:Nat):Int),((z%q:Nat):Int)])%(q:Int)=0)=true↔_
  rw[show([1,((z/q:Nat):Int),((z%q:Nat):Int)]:List Int)=[((1:Nat):Int),((z/q:Nat):Int),((z%q:Nat):Int)]from rfl,key 1 (z/q) (z%q)]
 rw[e2,e3]
 omega
theorem sU{K:PySem.W.Frag}{H:Hp}{a:Addr}{xs:List Int}(h:aN K H a (xs.map V.int)):zX K H (.ref a) (lM xs):= .lst h (Fy xs)
theorem Rx{K:PySem.W.Frag}{H:Hp}{a b:Addr}{xs ys:List Int}{Q:VK}(ha:aN K H a (xs.map V.int))(hb:aN K H b (ys.map V.int))(q:Q (.bl (decide (xs=ys))) H):GS K false (.ref a) (.ref b) H Q:=
 ⟨lM xs,lM ys,sU ha,sU hb,ir _,ir _,by rw[Ft];exact q⟩
theorem Ry{K:PySem.W.Frag}{H:Hp}{a b:Addr}{xs ys:List Int}{Q:VK}(ha:aN K H a (xs.map V.int))(hb:aN K H b (ys.map V.int))(q:Q (.bl (!decide (xs=ys))) H):GS K true (.ref a) (.ref b) H Q:=
 ⟨lM xs,lM ys,sU ha,sU hb,ir _,ir _,by rw[Ft];exact q⟩
def rk(sel:Nat->Bool)(k:Nat):Nat:=(List.range k).countP sel
theorem lQ(sel:Nat->Bool)(k:Nat):rk sel (k+1)=rk sel k+if sel k=true then 1 else 0:=by
 unfold rk
 rw[List.range_succ,List.countP_append]
 simp[List.countP_cons]
theorem Ag(sel:Nat->Bool){j k:Nat}(h:j<=k):rk sel j<=rk sel k:=by
 induction h with
 |refl=>exact Nat.le_refl _
 |step _ ih=>rw[lQ];omega
def WM(sel:Nat->Bool)(N:Nat)(tn:Nat->Heap->Prop)(i:Nat)(h:Heap):Prop:=∃k,k<=N/\rk sel k=i/\(k=0∨sel (k-1)=true)/\tn k h
theorem OM{sel:Nat->Bool}{j k:Nat}(hk:sel k=true)(e:rk sel j=rk sel (k+1))(hj:j=0∨sel (j-1)=true):j=k+1:=by
 have r1:=lQ sel k
 rw[if_pos hk]at r1
 rcases hj with rfl|hj
 ·have:rk sel 0=0:=rfl
  omega
 ·rcases Nat.lt_or_ge j (k+1)with z|z
  ·have:=Ag sel (show j<=k by omega)
   omega
  ·rcases Nat.lt_or_ge (k+1) j with y|y
   ·have r2:=lQ sel (j-1)
    rw[if_pos hj,show j-1+1=j by omega]at r2
    have:=Ag sel (show k+1<=j-1 by omega)
    omega
   ·omega
section
variable{X:Cx}{B:Around}{sc:Scope}{N':List Str}{code:Value}{sC:Shared}{HC:Hp}{fp Ss:List Addr}{tn:Nat->Heap->Prop}{N:Nat}{sel:Nat->Bool}{R:Nat->V->Prop}{W:St->Hp->Prop}
variable{elt iter tg c:Expr}{pos:Pos}{it:Addr}{J:It}{g:TG}{tt:TT}{te:TE}
theorem LJ(hco:sc.isCoroutine=false)(hc:X.calm=true)(T:Turn X.prog X.w X.K tg J fp it tn)(hg:PG (X.gen B sc N' code sC HC fp) tg g)(ht:PT (X.gen B sc N' code sC HC fp) c tt)(he:PE (X.gen B sc N' code sC HC fp) elt te)(zV:∀b∈fp,b∉Ss)
  (turn:∀k σ' H',k<N->W σ' H'->J.go k H'/\ ∀x H2,J.xU k H' x H2->g x σ' H2 λσ3 H3=>tt σ3 H3 λb H4=>b=sel k/\if b=true then te σ3 H4 λv H5=>R (rk sel k) v/\W σ3 H5 else W σ3 H4)
  (stop:∀σ' H',W σ' H'->J.stop N H'):
  ∀(d k n:Nat) (σ':St) (H':Hp) (s₀ s:Shared),d+k=N->n+rk sel k=rk sel N->W σ' H'->Inv (X.gen B sc N' code sC HC fp) (cC Ss s₀.heap) σ' H' s->tn k s.heap->(∀b∈fp,H' b=none) ->
   Seg (model X.prog X.w) B (GK X B sc N' code sC HC fp Ss (rk sel N) λ_=>W) (sI X B sc N' code sC HC fp Ss (WM sel N tn) (rk sel N) R λ_=>W) n s₀ (.compLoop (.GeneratorExp elt [⟨tg,iter,[c],0⟩] sc pos) 0 (.ref it) .none (X.gen B sc N' code sC HC fp).env)
    ((model X.prog X.w).den (.compLoop (.GeneratorExp elt [⟨tg,iter,[c],0⟩] sc pos) 0 (.ref it) .none (X.gen B sc N' code sC HC fp).env)) [] s:=by
 have Rb:∀{h:Heap},∀p∈cC Ss h,p.1∉fp:=λp hp hb=>zV p.1 hb (uz hp)
 intro d
 induction d with
 |zero=>
  intro k n σ' H' s₀ s hd hn w I st fr
  obtain rfl:k=N:=by omega
  obtain rfl:n=0:=by omega
  show Seg _ B _ _ _ s₀ _ ((compTurn (.GeneratorExp elt [⟨tg,iter,[c],0⟩] sc pos) 0 (.ref it) .none (X.gen B sc N' code sC HC fp).env).onRaise (leaving (X.gen B sc N' code sC HC fp).env)) [] s
  rw[compTurn_gen,Sem.onRaise_eq_wrap]
  refine seg_bind_wrap (wpAny_standAt ?_)
  refine seg_bind_wrap ?_
  rw[fV]
  refine fZ (T.done (X.gen B sc N' code sC HC fp) rfl rfl rfl hc k _ s σ' H' _ I (sJ I fr Rb) st (stop σ' H' w)) λr s1 ⟨hr,I1⟩=> ?_
  subst hr
  exact seg_end (.ok .next) ⟨rfl,rfl,σ',H',I1,w⟩
 |succ d ih=>
  intro k n σ' H' s₀ s hd hn w I st fr
  have hk:k<N:=by omega
  obtain⟨go,step⟩:=turn k σ' H' hk w
  show Seg _ B _ _ _ s₀ _ ((compTurn (.GeneratorExp elt [⟨tg,iter,[c],0⟩] sc pos) 0 (.ref it) .none (X.gen B sc N' code sC HC fp).env).onRaise (leaving (X.gen B sc N' code sC HC fp).env)) [] s
  rw[compTurn_gen,Sem.onRaise_eq_wrap]
  refine seg_bind_wrap (wpAny_standAt ?_)
  refine seg_bind_wrap ?_
  rw[fV]
  refine fZ (T.item (X.gen B sc N' code sC HC fp) rfl rfl rfl hc k _ s σ' H' _ I (sJ I fr Rb) st go) λr s1 ⟨u,hr,h1⟩=> ?_
  subst hr
  refine seg_bind_wrap ?_
  rw[fV]
  refine wpAny_mono h1 (λ_ s2 ⟨x,H2,I2,r2,y2,st2,Rc⟩=> ?_) λ_ _ z=>z
  have Wu:=I2.pinned (sJ I2 Rc Rb) (T.obj _ _ st2)
  refine seg_bind_wrap ?_
  rw[fV]
  refine wpAny_mono (hg _ s2 σ' H2 x u _ Wu r2 (step x H2 y2)) (λ_ s3 ⟨σ3,H3,I3,q3⟩=> ?_) λ_ _ z=>z.elim
  simp only[List.forIn_cons,List.forIn_nil,if_true]
  refine seg_bind_wrap ?_
  rw[fV]
  refine wpAny_bind (wpAny_bind (wpAny_mono (ht _ s3 σ3 H3 _ I3 q3) (λok WN ⟨WO,Vs,ek,Sm⟩=>wpAny_pure (wpAny_pure ?_)) λ_ _ z=>z.elim))
  subst ek
  have r1:=lQ sel k
  cases hs:sel k with
  |false=>
   rw[hs]at Sm r1
   rw[if_neg Bool.false_ne_true]at Sm r1
   have TV:tn (k+1) WN.heap:=T.keep _ _ _ st2 λb hb o e=>(Vs.pin (b,o) (List.mem_append_right _ (List.mem_append_right _ (bE hb e)))).1
   have Rf:∀b∈fp,WO b=none:=λb hb=>by
    obtain⟨o,e,d⟩:=T.obj _ _ st2 b hb
    exact(Vs.pin (b,o) (List.mem_append_right _ (List.mem_append_right _ (bE hb e)))).2.1
   simp only[Bool.false_eq_true,if_false]
   exact seg_again rfl (ih (k+1) n σ3 WO s₀ WN (by omega) (by omega) Sm Vs.iE TV Rf)
  |true=>
  rw[hs]at Sm r1
  rw[if_pos rfl]at Sm r1
  have mono:=Ag sel (show k+1<=N by omega)
  obtain⟨n,rfl⟩:∃n',n=n'+1:=⟨n-1,by omega⟩
  have hy:∀v,yieldOut (X.gen B sc N' code sC HC fp).env v=yieldValue v:=λv=>by
   have q:(X.gen B sc N' code sC HC fp).env.scope.isCoroutine=false:=hco
   simp only[yieldOut,q,Bool.false_eq_true,if_false]
  simp only[if_true,hy]
  rw[Sem.bind_eq_wrap',Sem.bind_eq_wrap',Sem.wrap_wrap,Sem.wrap_wrap]
  refine seg_wrap ?_
  rw[fV]
  refine wpAny_mono (he _ WN σ3 WO _ Vs Sm) (λv s4 ⟨y,H4,I4,r4,hR,w4⟩=> ?_) λ_ _ z=>z.elim
  have TV:tn (k+1) s4.heap:=T.keep _ _ _ st2 λb hb o e=>(I4.pin (b,o) (List.mem_append_right _ (List.mem_append_right _ (bE hb e)))).1
  have Rf:∀b∈fp,H4 b=none:=λb hb=>by
   obtain⟨o,e,d⟩:=T.obj _ _ st2 b hb
   exact(I4.pin (b,o) (List.mem_append_right _ (List.mem_append_right _ (bE hb e)))).2.1
  have ei:rk sel N-n=rk sel k+1:=by omega
  have YE:rk sel (k+1)=rk sel k+1:=r1
  refine seg_at (seg_yield rfl rfl rfl ⟨[],σ3,H4,y,(λ_ h=>nomatch h),(by rw[List.append_nil];exact I4.iE),⟨k+1,by omega,by rw[ei,YE],.inr hs,TV⟩,Rf,r4,by rw[ei];exact hR,w4,λs'' _ Jh st''=> ?_⟩)
  rw[ei]at st''
  rw[List.append_nil]at Jh
  obtain⟨k',hk',ek',h0',st''⟩:=st''
  obtain rfl:k'=k+1:=OM hs (by rw[ek',YE]) h0'
  exact seg_again rfl (ih (k+1) n σ3 H4 s'' s'' (by omega) (by omega) w4 Jh st'' Rf)
theorem HH(hco:sc.isCoroutine=false)(hc:X.calm=true)(T:Turn X.prog X.w X.K tg J fp it tn)(hg:PG (X.gen B sc N' code sC HC fp) tg g)(ht:PT (X.gen B sc N' code sC HC fp) c tt)(he:PE (X.gen B sc N' code sC HC fp) elt te)(zV:∀b∈fp,b∉Ss)
  (turn:∀k σ' H',k<N->W σ' H'->J.go k H'/\ ∀x H2,J.xU k H' x H2->g x σ' H2 λσ3 H3=>tt σ3 H3 λb H4=>b=sel k/\if b=true then te σ3 H4 λv H5=>R (rk sel k) v/\W σ3 H5 else W σ3 H4)
  (stop:∀σ' H',W σ' H'->J.stop N H'){σ':St}{H':Hp}{s:Shared}(w:W σ' H')(I:Inv (X.gen B sc N' code sC HC fp) (cC Ss s.heap) σ' H' s)(st:tn 0 s.heap)(fr:∀b∈fp,H' b=none):
  Seg (model X.prog X.w) B (GK X B sc N' code sC HC fp Ss (rk sel N) λ_=>W) (sI X B sc N' code sC HC fp Ss (WM sel N tn) (rk sel N) R λ_=>W) (rk sel N) s (.compStart (.GeneratorExp elt [⟨tg,iter,[c],0⟩] sc pos) 0 (.ref it) .none (X.gen B sc N' code sC HC fp).env)
   ((model X.prog X.w).den (.compStart (.GeneratorExp elt [⟨tg,iter,[c],0⟩] sc pos) 0 (.ref it) .none (X.gen B sc N' code sC HC fp).env)) [] s:=by
 have lp:=LJ (iter:=iter) (pos:=pos) hco hc T hg ht he zV turn stop N 0 (rk sel N) σ' H' s s (Nat.add_zero _) (Nat.add_zero _) w I st fr
 show Seg _ B _ _ _ s _ ((compStart (.GeneratorExp elt [⟨tg,iter,[c],0⟩] sc pos) 0 (.ref it) .none (X.gen B sc N' code sC HC fp).env).onRaise (leaving (X.gen B sc N' code sC HC fp).env)) [] s
 unfold compStart
 rw[Sem.onRaise_eq_wrap]
 show Seg _ B _ _ _ s _ ((ask>>=_).wrap _ _ _ _) [] s
 refine seg_bind_wrap (wpAny_askSetting ?_)
 split
 ·exact seg_again rfl lp
 ·first
   |exact seg_bind_wrap (wpAny_rule (seg_bind_wrap (wpAny_standAt (seg_bind_wrap (T.self _ 0 s _ _ st (seg_again rfl lp))))))
   |(refine seg_bind_wrap (wpAny_rule ?_);(show Seg _ B _ _ _ s _ ((standAt iter.pos>>=_).wrap _ _ _ _) [] s);exact seg_bind_wrap (wpAny_standAt (seg_bind_wrap (T.self _ 0 s _ _ st (seg_again rfl lp)))))
end
def DF(k:Nat)(g:TG)(tt:TT)(te:TE)(σ:St)(F:Nat->(Nat->V->Prop) ->(Nat->St->Hp->Prop) ->Prop)(J:It)(H:Hp):Prop:=∃(N:Nat) (sel:Nat->Bool) (R:Nat->V->Prop) (W:St->Hp->Prop),W (List.replicate k none++σ) H/\
 (∀i σ' H',i<N->W σ' H'->J.go i H'/\ ∀x H2,J.xU i H' x H2->g x σ' H2 λσ3 H3=>tt σ3 H3 λb H4=>b=sel i/\if b=true then te σ3 H4 λv H5=>R (rk sel i) v/\W σ3 H5 else W σ3 H4)/\(∀σ' H',W σ' H'->J.stop N H')/\F (rk sel N) R λ_=>W
section
variable{X:Cx}{sc:Scope}{own N2:List Str}{elt iter tg c:Expr}{pos:Pos}{wi:TI}{g:TG}{tt:TT}{te:TE}{P:Addr}
theorem LK{pins:List (Addr×Obj)}{σ:St}{H0:Hp}{s0:Shared}{F:Nat->(Nat->V->Prop) ->(Nat->St->Hp->Prop) ->Prop}(more:Nat->List Addr)(hmore:∀a,∀b∈more a,a<b)(K:Bs X sc own N2 P)(hi:PI X tg iter wi)
  (hg:∀code s H fp,PG (X.gen X.A.in1.in1 sc (own++N2) code s H fp) tg g)(ht:∀code s H fp,PT (X.gen X.A.in1.in1 sc (own++N2) code s H fp) c tt)(he:∀code s H fp,PE (X.gen X.A.in1.in1 sc (own++N2) code s H fp) elt te)
  (hs:∀x,genFold iter X.env x=pure x)(I0:Inv X pins σ H0 s0)(h:wi σ H0 λJ H=>H P=some (cu P)/\DF own.length g tt te σ F J H):
  wpAny (model X.prog X.w) X.A (eval (.GeneratorExp elt [⟨tg,iter,[c],0⟩] sc pos) X.env) (λu s5=> ∃a cnt R W sC HC fp code tn,u= .ref a/\s5.heap.objs.size=a+1/\
   vQ X X.A.in1.in1 sc (own++N2) code sC HC fp (a::more a) tn cnt R W a 0 s5/\Inv X pins σ HC sC/\(∀b∈fp,fO X pins HC b)/\sC.heap.objs.size<a/\(∀b∈fp,b<sC.heap.objs.size)/\(∀i h h',tn i h->(∀b∈fp,∀o,h.get? b=some o->h'.get? b=some o) ->tn i h')/\F cnt R W) X.xe s0:=
 Br (ifs:=[c]) (cls:=[]) (Rd:=λJ H=>DF own.length g tt te σ F J H) more hmore K.calm K.room hi K.NL K.kind K.co K.nc K.Vh K.code K.bm hs (λcode s H fp it Nh J T hfr ⟨N,sel,R,W,w0,turn,stop,hF⟩=>
  ⟨rk sel N,R,λ_=>W,WM sel N Nh,hF,w0,λh=>⟨λz=>⟨0,Nat.zero_le _,rfl,.inl rfl,z⟩,λ ⟨k,hk,e,h0,z⟩=>by
   rcases h0 with rfl|h0
   ·exact z
   ·by_cases k0:k=0
    ·subst k0;exact z
    ·have r:=lQ sel (k-1)
     rw[if_pos h0,show k-1+1=k by omega]at r
     omega⟩,λi h h' ⟨k,hk,e,h0,z⟩ kp=>⟨k,hk,e,h0,T.keep _ _ _ z kp⟩,λSs hd s'' _ Jh st''=>HH K.co K.calm T (hg code s H fp) (ht code s H fp) (he code s H fp) hd turn stop w0 Jh st'' hfr⟩) I0 h
end
def mx(val:Nat->Int):Nat->Int
 |0=>val 0
 |k+1=>if val (k+1)>mx val k then val (k+1)else mx val k
section
variable{X:Cx}{sc:Scope}{N':List Str}{code:Value}{sC:Shared}{HC:Hp}{fp:List Addr}{tn:Nat->Heap->Prop}{cnt:Nat}{R:Nat->V->Prop}{W:Nat->St->Hp->Prop}{a S:Addr}{pins:List (Addr×Obj)}{σ:St}{Rr:Result->Shared->Prop}
theorem vQ.Uw{Ss:List Addr}{D:Around}{s:Shared}{Q:Option Value->Shared->Prop}{E:Value->Shared->Prop}(G:vQ X D.in1 sc N' code sC HC fp Ss tn cnt R W a cnt s)(IC:Inv X pins σ HC sC)(hf:∀b∈fp,fO X pins HC b)(hh:D.handled=none)(hroom:D.depth<recursionLimit)(hs:∀b∈Ss,∃o,s.heap.get? b=some o)
  (hQ:∀s' σ' H',Inv X pins σ H' s'->W cnt σ' H'->(∀b∈Ss,H' b=none/\ ∀o,s.heap.get? b=some o->s'.heap.get? b=some o) ->Q none s'):
  wpAny (model X.prog X.w) D (pyNext (.ref a)) Q E s:=by
 obtain⟨gs,pl,σ',H',hpl,e1,e2,I,st,fr,w,go⟩:=G.ex
 have gg:=go (s.setGen sC.gens.size .running) hs I st
 rw[Nat.sub_self]at gg
 refine wpAny_pyNext_genexpQ (P:=λn s₀ s₁=>n=0/\ ∃σ' H',Inv (X.gen D.in1 sc N' code sC HC fp) (cC Ss s₀.heap) σ' H' s₁/\W cnt σ' H') hh I.Bq hroom G.gen e1 gg (λv s1 gs' hb hy=> ?_) (λs1 hp h' k=> ?_)
 ·obtain⟨Vf,σ1,H1,x,Rg,I1,st1,Rh,r1,hR,w1,Sj⟩:=hy
  have kp:∀b∈Ss,∀o,s.heap.get? b=some o->s1.heap.get? b=some o:=λb hb o e=>(I1.pin (b,o) (List.mem_append_right _ (List.mem_append_left _ (bE hb e)))).1
  have eq:cC Ss s1.heap=cC Ss s.heap:=kj λb hb=>let⟨o,e⟩:=hs b hb;⟨o,e,kp b hb o e⟩
  exact False.elim (Sj s1 (λb hb=>let⟨o,e⟩:=hs b hb;⟨o,kp b hb o e⟩) (by rw[eq];exact I1) st1)
 ·obtain⟨_,σ1,H1,I1,w1⟩:=hp
  have I2:=Inv.JP (gs:= .finished) IC hf rfl I1
  refine hQ _ σ1 H1 (I2.kept (t':=s1.toks) k) w1 λb hb=>⟨?_,λo e=> ?_⟩
  ·obtain⟨o,e⟩:=hs b hb
   exact(I1.pin (b,o) (List.mem_append_right _ (bE hb e))).2.1
  ·exact k _ _ (I1.pin (b,o) (List.mem_append_right _ (bE hb e))).1
theorem HJ(IC:Inv X pins σ HC sC)(hf:∀b∈fp,fO X pins HC b)(hh:X.A.handled=none)(hroom:X.A.depth<recursionLimit)(Fo:a≠S)(hC:sC.heap.objs.size<S)(hfp:∀b∈fp,b≠S)
  (yP:∀i h h',tn i h->(∀b∈fp,∀o,h.get? b=some o->h'.get? b=some o) ->tn i h')(val:Nat->Int)(hval:∀i v,i<cnt->R i v->v= .int (val i)):∀(k j:Nat) (s:Shared) (tA:Tok) (c:Nat),cnt- (j+1)=k->j+1<=cnt->
  vQ X X.A.in1.in1 sc N' code sC HC fp [a,S] tn cnt R W a (j+1) s->s.heap.get? S=some {cls:= .type "list",dict:=none,data:= .seq #[.int (mx val j) tA,.int (mx val j) tA] c,slots:= #[]} ->
  (∀s' t' σ' H',Inv X pins σ H' s'->W cnt σ' H'->Rr (.ok (.ret (.int (mx val (cnt-1)) t'))) s') ->codeAny (model X.prog X.w) X.A (.builtin "max.loop" ⟨[.ref a,.none,.ref S],[]⟩) Rr s:=by
 have hname:(toString "max"++toString ".loop":String)= "max.loop":=by decide
 intro k
 induction k with
 |zero=>
  intro j s tA c hk hj G hS hR
  have ej:j+1=cnt:=by omega
  rw[ej]at G
  refine codeAny_builtin PySem.F.entry_max_loop (by
   rw[Around.under_plainId PySem.F.plain_max_loop _]
   show wpAny _ X.A.in1 (seqItems? (.ref S)>>=_) _ _ s
   refine wpAny_bind (wpAny_seqItems hS rfl ?_)
   show wpAny _ X.A.in1 (tryCatch (pyNext (.ref a)) _>>=_) _ _ s
   have ex:∀b∈ [a,S],∃o,s.heap.get? b=some o:=λb hb=>by
    rcases List.mem_cons.mp hb with z|z
    ·obtain⟨o,_,_,q,_⟩:=G.gen;rw[z];exact⟨o,q⟩
    ·rw[List.mem_singleton.mp z];exact⟨_,hS⟩
   refine wpAny_bind (wpAny_tryCatch (G.Uw (D:=X.A.in1) IC hf hh hroom ex λs' σ' H' I' w' kp=> ?_))
   have hS':=(kp S (by simp)).2 _ hS
   show wpAny _ X.A.in1 (updateSeq S (λ_=> #[])>>=_) _ _ _
   refine wpAny_bind (wpAny_updateSeq hS' rfl (wpAny_bind (wpAny_letGo (wpAny_pure ?_))))
   have ec:cnt-1=j:=by omega
   have q:=hR _ tA σ' H' (I'.turned (it:=S) (t':=s'.toks) (h':=s'.heap.update S (Obj.mapSeq λ_=> #[])) (λb o hb e=>(Heap.get?_update_other _ _ (Ne.symm hb)).trans e) (kp S (by simp)).1 (Ne.symm (Nat.ne_of_lt (Nat.lt_trans IC.lt hC))) (.inr (Nat.le_trans IC.sz (Nat.le_of_lt hC)))
    (λy c hc z=>by obtain⟨v,q⟩:=IC.cell y c hc;rw[z]at q;exact absurd (Nat.lt_trans q.lt hC) (Nat.lt_irrefl _))
    (λp hp z=>by have q:=(IC.pin p hp).1;rw[z]at q;exact absurd (Nat.lt_trans (Heap.lt_size q) hC) (Nat.lt_irrefl _))) w'
   rw[ec]at q
   exact q)
 |succ k ih=>
  intro j s tA c hk hj G hS hR
  have hlt:j+1<cnt:=by omega
  have ex:∀b∈ [a,S],∃o,s.heap.get? b=some o:=λb hb=>by
   rcases List.mem_cons.mp hb with z|z
   ·obtain⟨o,_,_,q,_⟩:=G.gen;rw[z];exact⟨o,q⟩
   ·rw[List.mem_singleton.mp z];exact⟨_,hS⟩
  refine codeAny_builtin PySem.F.entry_max_loop (by
   rw[Around.under_plainId PySem.F.plain_max_loop _]
   show wpAny _ X.A.in1 (seqItems? (.ref S)>>=_) _ _ s
   refine wpAny_bind (wpAny_seqItems hS rfl ?_)
   show wpAny _ X.A.in1 (tryCatch (pyNext (.ref a)) _>>=_) _ _ s
   refine wpAny_bind (wpAny_tryCatch (G.item (D:=X.A.in1) hh hroom (by simp) ex hlt λv x s' rx NK G' kp=> ?_))
   obtain rfl:=hval (j+1) x hlt NK
   obtain⟨t,rfl⟩:=rx
   have hS':=kp S (by simp) _ hS
   show wpAny _ X.A.in1 (tryCatch (holding [Value.int (val (j+1)) t,Value.int (val (j+1)) t] (richCompare .Gt (Value.int (val (j+1)) t) (Value.int (mx val j) tA)>>=_)) _>>=_) _ _ _
   refine wpAny_bind (wpAny_tryCatch (wpAny_holding (wpAny_bind (PySem.CmpOf.ints_gt (P:=λi v=>(i=0/\v=Value.int (val (j+1)) t)∨(i=1/\v=Value.int (mx val j) tA)) (λi=>if i=0 then val (j+1)else mx val j) (λi v h=>by
    rcases h with⟨rfl,rfl⟩|⟨rfl,rfl⟩
    ·exact⟨_,rfl⟩
    ·exact⟨_,rfl⟩) 0 1 _ _ _ _ _ (.inl ⟨rfl,rfl⟩) (.inr ⟨rfl,rfl⟩) ?_))))
   refine wpAny_bind (wpAny_holding (wpAny_truthy_bool ?_))
   refine wpAny_bind (wpAny_letGo (wpAny_pure ?_))
   show wpAny _ X.A.in1 (if decide (val (j+1)>mx val j)=true then _ else _) _ _ _
   by_cases hb:val (j+1)>mx val j
   ·rw[if_pos (decide_eq_true hb)]
    refine wpAny_bind ?_
    refine wpAny_updateSeq hS' rfl (wpAny_bind (wpAny_letGo ?_))
    rw[hname]
    have e1:mx val (j+1)=val (j+1):=by show(if _ then _ else _)=_;rw[if_pos hb]
    have JS:=Heap.get?_update_self (Obj.mapSeq λ_=> #[Value.int (val (j+1)) t,Value.int (val (j+1)) t]) hS' rfl
    obtain⟨c',hS3⟩:∃c',(s'.heap.update S (Obj.mapSeq λ_=> #[Value.int (val (j+1)) t,Value.int (val (j+1)) t])).get? S=some {cls:= .type "list",dict:=none,data:= .seq #[.int (val (j+1)) t,.int (val (j+1)) t] c',slots:= #[]}:=⟨_,JS⟩
    exact wpAny_pure ⟨plainId_quiet PySem.F.plain_max_loop _,ih (j+1) _ t c' (by omega) hlt (G'.frame (tk:=s'.toks) Fo hC hfp yP (.inl ⟨_,hS'⟩) (λb o hb e=>(Heap.get?_update_other _ _ (Ne.symm hb)).trans e) JS (λv z=>by cases z)) (by rw[e1];exact hS3) hR⟩
   ·rw[if_neg (λz=>hb (of_decide_eq_true z))]
    refine wpAny_bind (wpAny_letGo ?_)
    rw[hname]
    have e1:mx val (j+1)=mx val j:=by show(if _ then _ else _)=_;rw[if_neg hb]
    refine wpAny_pure ⟨plainId_quiet PySem.F.plain_max_loop _,ih (j+1) _ tA c (by omega) hlt G' ?_ hR⟩
    rw[e1]
    exact hS')
theorem HK{Q:Value->Shared->Prop}{E:Value->Shared->Prop}{s:Shared}(IC:Inv X pins σ HC sC)(hf:∀b∈fp,fO X pins HC b)(hh:X.A.handled=none)(hroom:X.A.depth<recursionLimit)(hsz:s.heap.objs.size=a+1)(hC:sC.heap.objs.size<a)(hlt:∀b∈fp,b<sC.heap.objs.size)
  (yP:∀i h h',tn i h->(∀b∈fp,∀o,h.get? b=some o->h'.get? b=some o) ->tn i h')(hn:0<cnt)(val:Nat->Int)(hval:∀i v,i<cnt->R i v->v= .int (val i))(G:vQ X X.A.in1.in1 sc N' code sC HC fp [a,a+1] tn cnt R W a 0 s)
  (hQ:∀s' t' σ' H',Inv X pins σ H' s'->W cnt σ' H'->Q (.int (mx val (cnt-1)) t') s'):wpAny (model X.prog X.w) X.A (call (.builtin "max") [.ref a]) Q E s:=by
 have hname:(toString "max"++toString ".loop":String)= "max.loop":=by decide
 refine call_function_tree PySem.F.kind_max PySem.F.plain_max PySem.F.entry_max (PySem.F.args_max1 _) ?_
 show wpAny _ X.A.in1 (Builtin.Builtins.bindParams "max" ["key","default"] 0 ⟨[],[]⟩>>=_) _ _ s
 refine wpAny_bind (wpAny_of_eq (show Builtin.Builtins.bindParams "max" ["key","default"] 0 ⟨[],[]⟩=pure [none,none]from rfl) ?_)
 refine wpAny_bind (wpAny_pure ?_)
 refine wpAny_bind (wpAny_pyIter_gen G.gen ?_)
 refine wpAny_bind (wpAny_newObj_type ?_)
 rw[hname]
 have Fo:a≠a+1:=Nat.ne_of_lt (Nat.lt_succ_self _)
 have PR:sC.heap.objs.size<a+1:=Nat.lt_succ_of_lt hC
 have Sk:∀b∈fp,b≠a+1:=λb hb=>Nat.ne_of_lt (Nat.lt_trans (hlt b hb) PR)
 refine wpAny_pure ⟨plainId_quiet PySem.F.plain_max_loop _,?_⟩
 rw[hsz]
 have eS:(s.heap.push {cls:= .type "list",dict:=none,data:= .seq #[]}).get? (a+1)=some {cls:= .type "list",dict:=none,data:= .seq #[]}:=by
  rw[<-hsz];exact Heap.get?_push_size _ rfl
 have G1:=G.frame (tk:=s.toks) Fo PR Sk yP (.inr (Nat.le_of_eq hsz)) (λb o _ e=>Heap.get?_push_of_some _ e) eS (λv z=>by cases z)
 refine codeAny_builtin PySem.F.entry_max_loop (by
  rw[Around.under_plainId PySem.F.plain_max_loop _]
  show wpAny _ X.A.in1 (seqItems? (.ref (a+1))>>=_) _ _ _
  refine wpAny_bind (wpAny_seqItems eS rfl ?_)
  show wpAny _ X.A.in1 (tryCatch (pyNext (.ref a)) _>>=_) _ _ _
  have ex:∀b∈ [a,a+1],∃o,(s.heap.push {cls:= .type "list",dict:=none,data:= .seq #[]}).get? b=some o:=λb hb=>by
   rcases List.mem_cons.mp hb with z|z
   ·obtain⟨o,_,_,q,_⟩:=G1.gen;rw[z];exact⟨o,q⟩
   ·rw[List.mem_singleton.mp z];exact⟨_,eS⟩
  refine wpAny_bind (wpAny_tryCatch (G1.item (D:=X.A.in1) hh hroom (by simp) ex hn λv x s' rx NK G' kp=> ?_))
  obtain rfl:=hval 0 x hn NK
  obtain⟨t,rfl⟩:=rx
  have hS':=kp (a+1) (by simp) _ eS
  show wpAny _ X.A.in1 (updateSeq (a+1) (λ_=> #[Value.int (val 0) t,Value.int (val 0) t])>>=_) _ _ _
  refine wpAny_bind ?_
  refine wpAny_updateSeq hS' rfl ?_
  rw[hname]
  have JS:=Heap.get?_update_self (Obj.mapSeq λ_=> #[Value.int (val 0) t,Value.int (val 0) t]) hS' rfl
  exact wpAny_pure ⟨plainId_quiet PySem.F.plain_max_loop _,HJ IC hf hh hroom Fo PR Sk yP val hval _ 0 _ t _ rfl hn (G'.frame (tk:=s'.toks) Fo PR Sk yP (.inl ⟨_,hS'⟩) (λb o hb e=>(Heap.get?_update_other _ _ (Ne.symm hb)).trans e) JS (λv z=>by cases z)) JS hQ⟩)
end
def LL(k:Nat)(P:Addr)(g:TG)(tt:TT)(te:TE)(σ:St)(J:It)(H1:Hp)(Q:VK):Prop:=H1 P=some (cu P)/\DF k g tt te σ (λcnt R W=>0<cnt/\ ∃val:Nat->Int,(∀i v,i<cnt->R i v->v= .int (val i))/\ ∀σ' H',W cnt σ' H'->Q (.int (mx val (cnt-1))) H') J H1
def Rz(k:Nat)(P:Addr)(wi:TI)(g:TG)(tt:TT)(te:TE):TE:=λσ H Q=>wi σ H λJ H1=>LL k P g tt te σ J H1 Q
section
variable{X:Cx}{sc:Scope}{N2:List Str}{x:Str}{px:Pos}{elt iter c:Expr}{gC p pos:Pos}{wi:TI}{tt:TT}{te:TE}{P:Addr}
theorem LM(hc:X.calm=true)(hr:X.A.depth<recursionLimit)(cd:gx X.K X.env.code P)(bm:BM X.mg X.base)(Bt:Gl X "max")(hm:X.mg "max"=none)(hi:PI X (.Name x px) iter wi)(hB:Dm sc X.env.scope.names [x] N2 X.N=true)
  (ht:∀code s H fp,PT (X.gen X.A.in1.in1 sc ([x]++N2) code s H fp) c tt)(he:∀code s H fp,PE (X.gen X.A.in1.in1 sc ([x]++N2) code s H fp) elt te)
  (hs:∀x,genFold iter X.env x=pure x:=by intro _;rfl)(hst:starEach [.GeneratorExp elt [⟨.Name x px,iter,[c],0⟩] sc gC] X.env=[(false,eval (.GeneratorExp elt [⟨.Name x px,iter,[c],0⟩] sc gC) X.env)]:=by rfl):
  PE X (.Call (.Name "max" p) [.GeneratorExp elt [⟨.Name x px,iter,[c],0⟩] sc gC] [] pos) (Rz 1 P wi (cg 0) tt te):=by
 have K:=oX hc hr cd bm hB
 intro pins s σ H Q I h
 refine wpAny_Call_Name_kw (kG I Bt hm PyProof.Rows.boot_max ?_)
 refine PyProof.Rows.callWith_builtin1 ?_ hst rfl
 rw[hst]
 refine Calls.spliced_cons (fZ (LK (own:=[x]) (pos:=gC) (λa=>[a+1]) (λa b hb=>by rw[List.mem_singleton.mp hb];exact Nat.lt_succ_self _) K hi (λcode s H fp=>Dl K.NL K.nc code s H fp) ht he hs I h) λu s5 h5=> ?_)
 obtain⟨a,cnt,R,W,sC,HC,fp,code,tn,rfl,hsz,G,IC,hf,hC,hlt,yP,hn,val,hval,hq⟩:=h5
 exact Calls.spliced_nil (HK IC hf (I.ok.hd K.calm) K.room hsz hC hlt yP hn val hval G λs' t' σ' H' I' w'=>⟨.int (mx val (cnt-1)),H',I',⟨_,rfl⟩,hq σ' H' w'⟩)
end
section
variable{X:Cx}
end
section
variable{X:Cx}{sc:Scope}{own N2:List Str}
variable{x y:Str}{px CP:Pos}{elt iter Fq:Expr}{pos:Pos}{wi Vi:TI}{te:TE}
end
structure WQ(H1:Hp)(D:Addr)(k:Nat)(f:Nat->Nat->List V)(t:Nat)(bs:List Addr)(H':Hp):Prop where
 same:au H1 H'
 at':H' D=some (.lst (bs.map V.ref))
 fresh:∀b∈bs,H1 b=none
 nD:D∉bs
 nd:bs.Nodup
 rows:Paired (λ (i:Nat) b=>H' b=some (.lst (f (i/k) (i%k)))) (List.range t) bs
theorem ON{σ:St}{tt:TT}{te:TE}{Q:VK}{H1:Hp}{P:Addr}(hP:H1 P=some (cu P))(sel:Nat->Bool)(ex:sel 0=true∨sel 1=true∨sel 2=true)
  (ht:∀j:Nat,j<3-> ∀H' (R:Bool->Hp->Prop),au H1 H'->(∀H2,au H' H2->R (sel j) H2) ->tt (some (.int (0+(j:Int)))::σ) H' R)
  (he:∀j:Nat,j<3-> ∀H' (Q':VK),au H1 H'->Q' (.int (0+(j:Int))) H'->te (some (.int (0+(j:Int)))::σ) H' Q')
  (hq:∀(i:Nat) H',au H1 H'->i<3->sel i=true->(∀j,i<j->j<3->sel j=false) ->Q (.int (i:Int)) H'):LL 1 P (cg 0) tt te σ (Jg 0 3) H1 Q:=by
 have r0:rk sel 0=0:=rfl
 have r1:=lQ sel 0
 have r2:=lQ sel 1
 have r3:=lQ sel 2
 refine⟨hP,3,sel,λi v=>v= .int (if i=0 then(if sel 0=true then 0 else if sel 1=true then 1 else 2)else if i=1 then(if sel 0=true then(if sel 1=true then 1 else 2)else 2)else 2),λσ' H'=>(∃o,σ'=o::σ)/\au H1 H',⟨⟨none,rfl⟩,au.refl _⟩,λk σ' H' hk w=> ?_,λσ' H' w=>Nat.le_refl _,?_,_,λi v _ r=>r,λσ' H' w=> ?_⟩
 ·obtain⟨⟨o,rfl⟩,sm⟩:=w
  refine⟨hk,λx H2 yl=> ?_⟩
  obtain⟨e,exx⟩:=yl
  subst e exx
  show tt (some (.int (0+(k:Int)))::σ) H2 _
  refine ht k hk H2 _ sm λH3 s3=>⟨rfl,?_⟩
  cases hs:sel k with
  |false=>exact jv ⟨⟨_,rfl⟩,sm.trans s3⟩
  |true=>
   refine xW (he k hk H3 _ (sm.trans s3) ⟨?_,⟨_,rfl⟩,sm.trans s3⟩)
   congr 1
   rcases aC hk with rfl|rfl|rfl
   ·rw[r0]
    simp[hs]
   ·rw[r1,r0]
    cases h0:sel 0<;>simp[hs]
   ·rw[r2,r1,r0]
    cases h0:sel 0<;>cases h1:sel 1<;>simp
 ·rw[r3,r2,r1,r0]
  rcases ex with z|z|z<;>rw[z]<;>simp<;>omega
 ·rw[r3,r2,r1,r0]
  have:=λi h1 h2 h3=>hq i H' w.2 h1 h2 h3
  cases h0:sel 0<;>cases h1:sel 1<;>cases h2:sel 2<;>simp[mx,h0,h1,h2]at ex ⊢
  ·exact this 2 (by decide) h2 (λj a b=>by omega)
  ·exact this 1 (by decide) h1 (λj a b=>by rw[show j=2 by omega];exact h2)
  ·exact this 2 (by decide) h2 (λj a b=>by omega)
  ·exact this 0 (by decide) h0 (λj a b=>by rcases aC b with rfl|rfl|rfl<;>first|omega|assumption)
  ·exact this 2 (by decide) h2 (λj a b=>by omega)
  ·exact this 1 (by decide) h1 (λj a b=>by rw[show j=2 by omega];exact h2)
  ·exact this 2 (by decide) h2 (λj a b=>by omega)
def az(m:List (List Int))(x:Nat->Int)(j:Nat):Int:=x 0*ent m 0 j+x 1*ent m 1 j+x 2*ent m 2 j
theorem zc{m:List (List Int)}(h:bI m)(p:Int)(x a:Nat->Int):aH m (λj=>x j+a j*p)=aH m x+p*(a 0*az m x 0+a 1*az m x 1+a 2*az m x 2)+p*p*aH m a:=by
 obtain⟨aa,b,c,d,e,f,⟨q1,q2,q3,q4,q5,q6⟩,q⟩:=mV h
 obtain⟨⟨s1,s2,s3⟩,_⟩:=h
 rw[q,q,q]
 unfold az
 rw[q1,q2,q3,s1,s2,s3,q4,q5,q6]
 grind
theorem rO{m:List (List Int)}(ev:bI m){p:Int}(hp:p∈([3,5,7,11,13]:List Int))(hd:aK m/2%p≠0){x:Nat->Int}(L:jB p x):¬(az m x 0%p=0/\az m x 1%p=0/\az m x 2%p=0):=by
 rintro⟨h0,h1,h2⟩
 have p0:2<p:=by
  simp only[List.mem_cons,List.not_mem_nil,or_false]at hp
  omega
 obtain⟨k0,e0⟩:=Int.dvd_of_emod_eq_zero h0
 obtain⟨k1,e1⟩:=Int.dvd_of_emod_eq_zero h1
 obtain⟨k2,e2⟩:=Int.dvd_of_emod_eq_zero h2
 have key:∀j,j<3->x j*aK m=az m x 0*ent (gy m) 0 j+az m x 1*ent (gy m) 1 j+az m x 2*ent (gy m) 2 j:=λj hj=>by
  unfold az
  rw[bV]
  rcases aC hj with rfl|rfl|rfl<;>simp only[cD m (show 0<3 by decide) (show 0<3 by decide),cD m (show 0<3 by decide) (show 1<3 by decide),cD m (show 0<3 by decide) (show 2<3 by decide),cD m (show 1<3 by decide) (show 0<3 by decide),cD m (show 1<3 by decide) (show 1<3 by decide),cD m (show 1<3 by decide) (show 2<3 by decide),cD m (show 2<3 by decide) (show 0<3 by decide),cD m (show 2<3 by decide) (show 1<3 by decide),cD m (show 2<3 by decide) (show 2<3 by decide),ko]<;>grind
 have dv:∀j,j<3->x j%p=0:=λj hj=>by
  have k:=key j hj
  rw[e0,e1,e2]at k
  obtain⟨kd,ek⟩:=BD ev
  have ek2:aK m/2=kd:=by omega
  rw[ek2]at hd
  have z:(x j*2*kd)%p=0:=Int.emod_eq_zero_of_dvd ⟨k0*ent (gy m) 0 j+k1*ent (gy m) 1 j+k2*ent (gy m) 2 j,by rw[Int.mul_assoc,<-ek,k];grind⟩
  have z2:=(mU hp hd).mp z
  exact(mU hp (show(2:Int)%p≠0 by rw[bJ (by decide) p0];decide)).mp z2
 rcases L.one with z|⟨z,z1⟩|⟨z,z1,z2⟩
 ·have:=dv 0 (by decide)
  rw[z,bJ (by decide) (by omega)]at this
  cases this
 ·have:=dv 1 (by decide)
  rw[z1,bJ (by decide) (by omega)]at this
  cases this
 ·have:=dv 2 (by decide)
  rw[z2,bJ (by decide) (by omega)]at this
  cases this
structure pA(m:List (List Int))(p:Int)(x:Nat->Int)(i:Nat)(t:Int):Prop where
 hi:i<3
 sl:az m x i%p≠0
 flat:∀j,i<j->j<3->az m x j%p=0
 lo:0<=t
 up:t<p
 eq:(aH m x/p+t*az m x i)%p=0
def cH(p:Int)(x:Nat->Int)(i:Nat)(t:Int):Nat->Int:=λj=>if j=i then x j+t*p else x j
def digit(n k j:Nat):Nat:=if j=0 then k/(n*n)else if j=1 then k/n%n else k%n
def d9(n:Nat)(x:Nat->Int)(k:Nat):Nat->Int:=λj=>x j+(digit n k j:Int)*n
theorem BF{m:List (List Int)}(ev:bI m){n:Nat}(hn:0<n){x:Nat->Int}(hx:aH m x%(n:Int)=0)(k:Nat):
  aH m (d9 n x k)%((n:Int)*n)=0↔(aH m x/n+(digit n k 0*az m x 0+digit n k 1*az m x 1+digit n k 2*az m x 2))%(n:Int)=0:=by
 have e:=zc ev (n:Int) x (λj=>(digit n k j:Int))
 have e':aH m (d9 n x k)=n*(aH m x/n+(digit n k 0*az m x 0+digit n k 1*az m x 1+digit n k 2*az m x 2))+n*n*aH m (λj=>(digit n k j:Int)):=by
  show aH m (λj=>x j+(digit n k j:Int)*n)=_
  rw[e]
  have h:=Int.emod_add_mul_ediv (aH m x) n
  rw[hx]at h
  have h':aH m x=n*(aH m x/n):=by omega
  generalize aH m x/n=w at h' ⊢
  rw[h']
  grind
 rw[e',Int.add_mul_emod_self_left]
 have n0:(n:Int)≠0:=by omega
 constructor
 ·intro z
  obtain⟨c,hc⟩:=Int.dvd_of_emod_eq_zero z
  refine Int.emod_eq_zero_of_dvd ⟨c,?_⟩
  rw[Int.mul_assoc]at hc
  exact Int.eq_of_mul_eq_mul_left n0 hc
 ·intro z
  obtain⟨c,hc⟩:=Int.dvd_of_emod_eq_zero z
  exact Int.emod_eq_zero_of_dvd ⟨c,by rw[hc,Int.mul_assoc]⟩
theorem HL{p:Int}(hp:p∈([3,5,7,11,13]:List Int)){w s a t:Int}(hs:s%p≠0)(ha:(w+a*s)%p=0)(ht:(w+t*s)%p=0)(a0:0<=a)(a1:a<p)(t0:0<=t)(t1:t<p):a=t:=by
 obtain⟨c,hc⟩:=Int.dvd_of_emod_eq_zero ha
 obtain⟨d,hd⟩:=Int.dvd_of_emod_eq_zero ht
 have z:((a-t)*s)%p=0:=Int.emod_eq_zero_of_dvd ⟨c-d,by rw[Int.sub_mul,Int.mul_sub,<-hc,<-hd];omega⟩
 have z2:=(mU hp hs).mp z
 have e1:a%p=t%p:=Int.emod_eq_emod_iff_emod_sub_eq_zero.mpr z2
 rw[bJ a0 a1,bJ t0 t1]at e1
 exact e1
def gY(n i:Nat)(t:Nat):Nat:=if i=0 then t*(n*n)else if i=1 then t*n else t
theorem BG{n i t:Nat}(hn:0<n)(hi:i<3)(ht:t<n)(j:Nat)(hj:j<3):digit n (gY n i t) j=if j=i then t else 0:=by
 have nn:0<n*n:=Nat.mul_pos hn hn
 unfold digit gY
 rcases aC hi with rfl|rfl|rfl<;>rcases aC hj with rfl|rfl|rfl<;>simp
 ·exact Nat.mul_div_cancel _ nn
 ·rw[show t*(n*n)=t*n*n by rw[Nat.mul_assoc],Nat.mul_div_cancel _ hn,Nat.mul_mod_left]
 ·rw[show t*(n*n)=t*n*n by rw[Nat.mul_assoc]];exact Nat.mul_mod_left _ _
 ·exact .inr (Nat.mul_lt_mul_of_pos_right ht hn)
 ·rw[Nat.mul_div_cancel _ hn,Nat.mod_eq_of_lt ht]
 ·exact .inr (Nat.lt_of_lt_of_le ht (Nat.le_mul_of_pos_left n hn))
 ·rw[Nat.div_eq_of_lt ht];exact Nat.zero_mod _
 ·exact Nat.mod_eq_of_lt ht
theorem BH{n i t k:Nat}(hn:0<n)(hi:i<3)(ht:t<n)(hk:k<gY n i t):digit n k i<t/\ ∀j,j<i->digit n k j=0:=by
 have nn:0<n*n:=Nat.mul_pos hn hn
 unfold gY at hk
 unfold digit
 rcases aC hi with rfl|rfl|rfl
 ·simp at hk ⊢
  exact(Nat.div_lt_iff_lt_mul nn).mpr hk
 ·simp at hk ⊢
  have h1:k/n<t:=(Nat.div_lt_iff_lt_mul hn).mpr hk
  have h2:k<n*n:=Nat.lt_trans hk (Nat.mul_lt_mul_of_pos_right ht hn)
  refine⟨by rw[Nat.mod_eq_of_lt (by omega)];exact h1,?_⟩
  exact .inr h2
 ·simp at hk ⊢
  have h2:k<n*n:=Nat.lt_of_lt_of_le (Nat.lt_trans hk ht) (Nat.le_mul_of_pos_left n hn)
  have h3:k<n:=Nat.lt_trans hk ht
  refine⟨by rw[Nat.mod_eq_of_lt h3];exact hk,λj hj=> ?_⟩
  have:j=0∨j=1:=by omega
  rcases this with rfl|rfl
  ·simp;exact .inr h2
  ·simp;rw[Nat.div_eq_of_lt h3];exact Nat.zero_mod _
theorem jb{m:List (List Int)}(ev:bI m){n:Nat}(hp:(n:Int)∈([3,5,7,11,13]:List Int)){x:Nat->Int}(hx:aH m x%(n:Int)=0){i t:Nat}(F:pA m n x i t):
  gY n i t<n*n*n/\(∀j,j<3->d9 n x (gY n i t) j=cH n x i t j)/\aH m (d9 n x (gY n i t))%((n:Int)*n)=0/\ ∀k,k<gY n i t-> ¬aH m (d9 n x k)%((n:Int)*n)=0:=by
 have n2:2<n:=by
  simp only[List.mem_cons,List.not_mem_nil,or_false]at hp
  omega
 have hn:0<n:=by omega
 have ht:t<n:=by have:=F.up;omega
 have hi:=F.hi
 have D:=λj hj=>BG hn hi ht j hj
 have nn:0<n*n:=Nat.mul_pos hn hn
 refine⟨?_,λj hj=> ?_,?_,λk hk z=> ?_⟩
 ·unfold gY
  have h1:t*(n*n)<n*(n*n):=Nat.mul_lt_mul_of_pos_right ht nn
  have e1:n*n*n=n*(n*n):=Nat.mul_assoc ..
  have h2:t*n<=t*(n*n):=Nat.mul_le_mul_left t (Nat.le_mul_of_pos_left n hn)
  have h3:t<=t*n:=Nat.le_mul_of_pos_right t hn
  split
  ·omega
  ·split<;>omega
 ·unfold d9 cH
  rw[D j hj]
  split
  ·rfl
  ·simp
 ·rw[BF ev hn hx,D 0 (by decide),D 1 (by decide),D 2 (by decide)]
  have e:=F.eq
  rcases aC hi with rfl|rfl|rfl<;>simpa using e
 ·rw[BF ev hn hx]at z
  obtain⟨h1,h2⟩:=BH hn hi ht hk
  have z':(aH m x/n+(digit n k i:Int)*az m x i)%(n:Int)=0:=by
   rw[<-z]
   rcases aC hi with rfl|rfl|rfl
   ·obtain⟨c,hc⟩:=Int.dvd_of_emod_eq_zero (F.flat 1 (by decide) (by decide))
    obtain⟨d,hd⟩:=Int.dvd_of_emod_eq_zero (F.flat 2 (by decide) (by decide))
    rw[hc,hd]
    symm
    refine jq (k:=digit n k 1*c+digit n k 2*d) ?_
    grind
   ·obtain⟨d,hd⟩:=Int.dvd_of_emod_eq_zero (F.flat 2 (by decide) (by decide))
    rw[hd,h2 0 (by decide)]
    symm
    refine jq (k:=digit n k 2*d) ?_
    grind
   ·rw[h2 0 (by decide),h2 1 (by decide)]
    simp
  have:=HL hp F.sl z' F.eq (by omega) (by omega) (by omega) (by omega)
  omega
theorem vv{m:List (List Int)}(ev:bI m){p:Int}(hp:p∈([3,5,7,11,13]:List Int))(hd:aK m/2%p≠0){x:Nat->Int}(L:jB p x):∃(i t:Nat),pA m p x i t:=by
 have p0:2<p:=by
  simp only[List.mem_cons,List.not_mem_nil,or_false]at hp
  omega
 have ex:=rO ev hp hd L
 obtain⟨i,hi,si,fl⟩:∃i,i<3/\az m x i%p≠0/\ ∀j,i<j->j<3->az m x j%p=0:=by
  by_cases z2:az m x 2%p=0
  ·by_cases z1:az m x 1%p=0
   ·exact⟨0,by decide,λz0=>ex ⟨z0,z1,z2⟩,λj a b=>by rcases aC b with rfl|rfl|rfl<;>first|omega|assumption⟩
   ·exact⟨1,by decide,z1,λj a b=>by rw[show j=2 by omega];exact z2⟩
  ·exact⟨2,by decide,z2,λj a b=>by omega⟩
 obtain⟨u,hu,eu⟩:=pq hp si
 have t0:=Int.emod_nonneg (-(aH m x/p)*(1+(u:Int))) (show p≠0 by omega)
 have t1:=Int.emod_lt_of_pos (-(aH m x/p)*(1+(u:Int))) (show 0<p by omega)
 refine⟨i,(-(aH m x/p)*(1+(u:Int))%p).toNat,hi,si,fl,by omega,by omega,?_⟩
 rw[Int.toNat_of_nonneg t0]
 obtain⟨k,hk⟩:=fN (show(1+(u:Int))*az m x i%p=1%p by rw[eu];exact(bJ (by decide) (by omega)).symm)
 have e2:=Int.emod_add_mul_ediv (-(aH m x/p)*(1+(u:Int))) p
 generalize(1+(u:Int))=u' at hk e2 ⊢
 generalize aH m x/p=w at e2 ⊢
 generalize-w*u'%p=y at e2 ⊢
 refine Int.emod_eq_zero_of_dvd ⟨-(w*k) - (-w*u'/p)*az m x i,?_⟩
 generalize-w*u'/p=v at e2 ⊢
 have e3:y= -w*u'-p*v:=by omega
 have e4:w+y*az m x i=w-w*(u'*az m x i) -p*(v*az m x i):=by rw[e3];grind
 rw[e4,hk]
 grind
theorem wc{P:Nat->Prop}{j k:Nat}(hj:P j)(fj:∀i,i<j-> ¬P i)(hk:P k)(fk:∀i,i<k-> ¬P i):j=k:=by
 rcases Nat.lt_trichotomy j k with z|z|z
 ·exact absurd hj (fk j z)
 ·exact z
 ·exact absurd hk (fj k z)
section
variable{X:Cx}
def RA(K:PySem.W.Frag):V->List V->Hp->VK->Prop:=λx vs H Q=> ∃l xs y,∃j:Nat,x= .ref l/\vs=[y]/\aN K H l xs/\qt y=true/\xs.all qt=true/\(∃z,xs[j]?=some z/\JE z y=true)/\(∀(i:Nat) z,i<j->xs[i]?=some z->JE z y=false)/\Q (.int (j:Int)) H
theorem LN:Wr X "list.index" (RA X.K):=by
 intro pins s σ H x vs v us Q I rx rv h
 obtain⟨l,xs,y,j,rfl,rfl,hq,fy,fs,⟨z,ez,hz1⟩,hno,q⟩:=h
 cases rx
 obtain⟨u,rfl,ru⟩:=rv.one
 obtain⟨its,r,pl,hz⟩:=I.list hq
 obtain⟨⟨cls,dd,data,sl⟩,ho,hc,n,hd⟩:=id pl.isList
 simp only at hc hd
 subst hc hd
 have hlen:=r.length
 have hj:j<xs.length:=(List.getElem?_eq_some_iff.mp ez).1
 have at_:∀(i:Nat) (hi:i<its.length),∃w,xs[i]?=some w/\GF y its[i]=JE w y:=λi hi=>by
  obtain⟨u',h1,h2⟩:=r.get (i:=i) (x:=xs[i]'(by omega)) (List.getElem?_eq_getElem _)
  rw[List.getElem?_eq_getElem hi]at h1
  cases h1
  exact⟨_,List.getElem?_eq_getElem _,Df h2 (List.all_eq_true.mp fs _ (List.getElem_mem _))⟩
 refine call_meets PySem.F.slot_list_index ⟨_,ho,rfl⟩ PySem.F.entry_list_index (PySem.F.args_list_index_2 _ _)
  (SeqAt.list_indexAt l its.toArray n dd sl u (GF y) j (by simpa using(by omega:j<its.length)) (by have:=sizeLine_eq;omega) ?_ ?_) ⟨ho,λw hw=>rC ru fy r fs w (by simpa using hw),.int (j:Int),H,I.tok _,⟨_,rfl⟩,q⟩
 ·obtain⟨w,e1,e2⟩:=at_ j (by omega)
  rw[ez]at e1
  cases e1
  show GF y its[j]=true
  rw[e2,hz1]
 ·intro i hi hlt
  have hi':i<its.length:=by simpa using hi
  obtain⟨w,e1,e2⟩:=at_ i hi'
  show GF y its[i]=false
  rw[e2]
  exact hno i w hlt e1
theorem x6(hc:X.calm=true):oQ X (.builtin "any") (λxs H Q=> ∃p bs,xs=[.ref p]/\aN X.K H p ((bs:List Bool).map V.bl)/\Q (.bl (bs.any id)) H):=by
 intro pins s σ H xs us Q I r h
 obtain⟨p,bs,rfl,hq,q⟩:=h
 obtain⟨u,rfl,rx⟩:=vals1 r
 cases rx
 obtain⟨its,rv,pl,hz⟩:=I.list hq
 have hl:=rv.length
 rw[List.length_map]at hl
 refine call_any_walk (wpAny_pyIter_list pl.isList ?_)
 have hp:p<s.heap.objs.size:=let⟨o,n,e,_⟩:=pl;Heap.lt_size e
 refine⟨s.heap.objs.size,[s.heap.objs.size,p],[s.heap.objs.size],its.toArray.size,_,_,λi=>(bs[i]?).getD true,rfl,Walks.list (A:=X.A.in1) (show X.A.in1.handled=none from I.ok.hd hc) s.heap.objs.size p (Nat.ne_of_lt hp) its.toArray,⟨⟨_,Heap.get?_push_size _ rfl,rfl,rfl⟩,pl.isList.push _⟩,λi v s' Q' E' hv WE=> ?_,λh' tk k=> ?_⟩
 ·obtain⟨b,e1,rfl⟩:=Kc rv (by simpa using hv)
  have PZ:Q' ((bs[i]?).getD true) s':=WE
  rw[e1]at PZ
  exact wpAny_truthy_bool PZ
 ·refine⟨.bl (bs.any id),H,I.kept (t':=tk) λb o e=>k b o (λz=> ?_) (Heap.get?_push_of_some _ e),?_,q⟩
  ·exact absurd (Heap.lt_size e) (by rw[List.mem_singleton.mp z];exact Nat.lt_irrefl _)
  ·have e:(List.range its.toArray.size).any (λi=>(bs[i]?).getD true)=bs.any id:=by
    rw[List.size_toArray,<-hl,Bool.eq_iff_iff,List.any_eq_true,List.any_eq_true]
    constructor
    ·rintro⟨j,hj,e⟩
     have hj':=List.mem_range.mp hj
     rw[List.getElem?_eq_getElem hj']at e
     exact⟨_,List.getElem_mem hj',e⟩
    ·rintro⟨b,hb,e⟩
     obtain⟨j,hj,rfl⟩:=List.getElem_of_mem hb
     exact⟨j,List.mem_range.mpr hj,by rw[List.getElem?_eq_getElem hj];exact e⟩
   show Value.bool _=Value.bool _
   rw[e]
end
theorem sV{J:It}{H1:Hp}{xs:List V}{σ:St}{te:TE}{Q:VK}(jw:JW J H1 xs)(hz:xs.length<=sizeLine){D:Addr}(hD:H1 D=none)(f:V->V)
  (hs:∀x∈xs,∀H' (Q':VK),au H1 H'->(∀H2,au H' H2->Q' (f x) H2) ->te (some x::σ) H' Q')
  (hq:∀H',au H1 H'->H' D=some (.lst (xs.map f)) ->Q (.ref D) H'):lZ 1 (cg 0) te σ J H1 D Q:=by
 refine p9 jw hz hD (λpre acc H'=>acc=pre.map f) rfl (λpre x post acc H' Q' e hl sm eD p k=> ?_) (λacc H' hl sm eD p=> ?_)
 ·subst p
  exact hs x (by rw[e];simp) H' Q' sm λH2 s2=>k (f x) H2 s2 (by simp)
 ·subst p
  exact hq H' sm eD
theorem eX(m:List (List Int))(x y:Nat->Int):aJ m x y=az m x 0*y 0+az m x 1*y 1+az m x 2*y 2:=by
 rw[bH]
 unfold az
 grind
theorem jc{m:List (List Int)}{p:Int}{x y:Nat->Int}(e:∀i,i<3->x i%p=y i%p)(j:Nat):az m x j%p=az m y j%p:=by
 obtain⟨k0,h0⟩:=fN (e 0 (by decide))
 obtain⟨k1,h1⟩:=fN (e 1 (by decide))
 obtain⟨k2,h2⟩:=fN (e 2 (by decide))
 unfold az
 rw[h0,h1,h2]
 refine jq (k:=k0*ent m 0 j+k1*ent m 1 j+k2*ent m 2 j) ?_
 grind
theorem kD(p:Int)(x:Nat->Int)(i:Nat)(t:Int)(j:Nat):cH p x i t j%p=x j%p:=by
 unfold cH
 split
 ·exact jq (k:=t) (by rw[Int.mul_comm])
 ·rfl
theorem we{m:List (List Int)}(ev:bI m){p:Int}{x:Nat->Int}(L:jB p x)(hc:aH m x%p=0){i:Nat}{t:Int}(F:pA m p x i t):∃l,l<3/\l≠i/\x l=1/\ ∀j,j<l->x j=0:=by
 have e:=eO ev x
 rw[eX]at e
 have hi:=F.hi
 have done:∀l,l<3->x l=1->(∀j,j<l->x j=0) ->l≠i:=λl hl h1 h0 z=>by
  subst z
  apply F.sl
  obtain⟨c,hc'⟩:=Int.dvd_of_emod_eq_zero hc
  rw[hc']at e
  rcases aC hl with rfl|rfl|rfl
  ·obtain⟨c1,d1⟩:=Int.dvd_of_emod_eq_zero (F.flat 1 (by decide) (by decide))
   obtain⟨c2,d2⟩:=Int.dvd_of_emod_eq_zero (F.flat 2 (by decide) (by decide))
   rw[h1,d1,d2]at e
   exact Int.emod_eq_zero_of_dvd ⟨2*c-c1*x 1-c2*x 2,by grind⟩
  ·obtain⟨c2,d2⟩:=Int.dvd_of_emod_eq_zero (F.flat 2 (by decide) (by decide))
   rw[h1,h0 0 (by decide),d2]at e
   exact Int.emod_eq_zero_of_dvd ⟨2*c-c2*x 2,by grind⟩
  ·rw[h1,h0 0 (by decide),h0 1 (by decide)]at e
   exact Int.emod_eq_zero_of_dvd ⟨2*c,by grind⟩
 rcases L.one with z|⟨z,z1⟩|⟨z,z1,z2⟩
 ·exact⟨0,by decide,done 0 (by decide) z (λj hj=>by omega),z,λj hj=>by omega⟩
 ·have h0:∀j,j<1->x j=0:=λj hj=>by rw[show j=0 by omega];exact z
  exact⟨1,by decide,done 1 (by decide) z1 h0,z1,h0⟩
 ·have h0:∀j,j<2->x j=0:=λj hj=>by
   have:j=0∨j=1:=by omega
   rcases this with rfl|rfl
   ·exact z
   ·exact z1
  exact⟨2,by decide,done 2 (by decide) z2 h0,z2,h0⟩
structure pB(m:List (List Int))(p:Int)(x:Nat->Int)(i l o:Nat)(t c:Int):Prop where
 F:pA m p x i t
 L:jB p x
 hc:aH m x%p=0
 w:aH m (cH p x i t)%(p*p)=0
 hl:l<3
 ho:o<3
 sum:i+l+o=3
 li:l≠i
 oi:o≠i
 ol:o≠l
 one:x l=1
 lo:0<=c
 up:c<p
 eq:(az m x o+c*az m x i)%p=0
def gz(p:Int)(x:Nat->Int)(i o:Nat)(t c:Int)(k:Nat):Nat->Int:=match k with
 |0=>cH p x i t
 |1=>λj=>if j=i then c*p else if j=o then p else 0
 |_=>λj=>if j=i then p*p else 0
def stepT(p:Int)(x:Nat->Int)(i o:Nat)(t c:Int):List (List Int):=mk3 λk j=>gz p x i o t c k j
theorem fE(p:Int)(x:Nat->Int)(i o:Nat)(t c:Int){k j:Nat}(hk:k<3)(hj:j<3):ent (stepT p x i o t c) k j=gz p x i o t c k j:=cy _ hk hj
theorem wg{m:List (List Int)}{p:Int}{x:Nat->Int}{i l o:Nat}{t c:Int}(S:pB m p x i l o t c):aK (stepT p x i o t c)=p*p*p∨aK (stepT p x i o t c)= -(p*p*p):=by
 rw[bV]
 simp only[fE p x i o t c (show 0<3 by decide) (show 0<3 by decide),fE p x i o t c (show 0<3 by decide) (show 1<3 by decide),fE p x i o t c (show 0<3 by decide) (show 2<3 by decide),fE p x i o t c (show 1<3 by decide) (show 0<3 by decide),fE p x i o t c (show 1<3 by decide) (show 1<3 by decide),fE p x i o t c (show 1<3 by decide) (show 2<3 by decide),fE p x i o t c (show 2<3 by decide) (show 0<3 by decide),fE p x i o t c (show 2<3 by decide) (show 1<3 by decide),fE p x i o t c (show 2<3 by decide) (show 2<3 by decide),gz,cH]
 have one:=S.one
 have li:=S.li
 have hs:=S.sum
 have hi:=S.F.hi
 rcases aC hi with rfl|rfl|rfl<;>rcases aC S.hl with rfl|rfl|rfl<;>rcases aC S.ho with rfl|rfl|rfl<;>first|(exfalso;omega)|(simp[one];grind)|(simp[one])
theorem pC(m:List (List Int))(a b:Int)(x y:Nat->Int):aJ m (λj=>a*x j) (λj=>b*y j)=a*b*aJ m x y:=by
 rw[bH,bH]
 grind
theorem gn{m:List (List Int)}(h:bI m)(x y:Nat->Int):aJ m x y=aJ m y x:=by
 obtain⟨⟨s1,s2,s3⟩,_⟩:=h
 rw[bH,bH,s1,s2,s3]
 grind
theorem fW{m:List (List Int)}{x y x' y':Nat->Int}(h:∀i,i<3->x i=x' i)(k:∀i,i<3->y i=y' i):aJ m x y=aJ m x' y':=by
 rw[bH,bH,h 0 (by decide),h 1 (by decide),h 2 (by decide),k 0 (by decide),k 1 (by decide),k 2 (by decide)]
theorem HM{m:List (List Int)}(ev:bI m){p:Int}{x:Nat->Int}{i l o:Nat}{t c:Int}(S:pB m p x i l o t c):∃M:List (List Int),bC M/\bI M/\ ∀a b,a<3->b<3->aJ m (gz p x i o t c a) (gz p x i o t c b)=p*p*ent M a b:=by
 obtain⟨w,hw⟩:=Int.dvd_of_emod_eq_zero S.w
 have hi:=S.F.hi
 have ho:=S.ho
 have k01:∃k,aJ m (gz p x i o t c 0) (gz p x i o t c 1)=p*p*k:=by
  have e1:=jc (m:=m) (p:=p) (x:=cH p x i t) (y:=x) (λj _=>kD p x i t j) o
  have e2:=jc (m:=m) (p:=p) (x:=cH p x i t) (y:=x) (λj _=>kD p x i t j) i
  obtain⟨k1,h1⟩:=fN e1
  obtain⟨k2,h2⟩:=fN e2
  obtain⟨k3,h3⟩:=Int.dvd_of_emod_eq_zero S.eq
  refine⟨k1+c*k2+k3,?_⟩
  rw[eX]
  have e:az m (gz p x i o t c 0) 0*gz p x i o t c 1 0+az m (gz p x i o t c 0) 1*gz p x i o t c 1 1+az m (gz p x i o t c 0) 2*gz p x i o t c 1 2=p*(az m (cH p x i t) o+c*az m (cH p x i t) i):=by
   show az m (cH p x i t) 0*_+az m (cH p x i t) 1*_+az m (cH p x i t) 2*_=_
   have oi:=S.oi
   simp only[gz]
   rcases aC hi with rfl|rfl|rfl<;>rcases aC ho with rfl|rfl|rfl<;>first|(exact absurd rfl oi)|(simp;grind)
  rw[e,h1,h2]
  have:az m x o+p*k1+c*(az m x i+p*k2)=(az m x o+c*az m x i)+p*(k1+c*k2):=by grind
  rw[this,h3]
  grind
 obtain⟨k,hk⟩:=k01
 obtain⟨z1,hz1⟩:∃z1:Nat->Int,z1=λj=>if j=i then c else if j=o then 1 else 0:=⟨_,rfl⟩
 obtain⟨z2,hz2⟩:∃z2:Nat->Int,z2=λj=>if j=i then p else 0:=⟨_,rfl⟩
 have r1:∀j,gz p x i o t c 1 j=p*z1 j:=λj=>by
  rw[hz1]
  simp only[gz]
  split
  ·exact Int.mul_comm ..
  ·split<;>simp
 have r2:∀j,gz p x i o t c 2 j=p*z2 j:=λj=>by
  rw[hz2]
  simp only[gz]
  split<;>simp
 have Vp:aJ m (gz p x i o t c 0) (gz p x i o t c 0)=p*p*(2*w):=by
  have e:=eO ev (cH p x i t)
  show aJ m (cH p x i t) (cH p x i t)=_
  rw[e,hw]
  grind
 have Ul:aJ m (gz p x i o t c 0) (gz p x i o t c 2)=p*p*az m (cH p x i t) i:=by
  rw[eX]
  show az m (cH p x i t) 0*_+az m (cH p x i t) 1*_+az m (cH p x i t) 2*_=_
  simp only[gz]
  rcases aC hi with rfl|rfl|rfl<;>simp<;>grind
 have Vq:aJ m (gz p x i o t c 1) (gz p x i o t c 1)=p*p*(2*aH m z1):=by
  rw[<-eO ev z1,<-pC]
  exact fW (λj _=>r1 j) (λj _=>r1 j)
 have Um:aJ m (gz p x i o t c 1) (gz p x i o t c 2)=p*p*aJ m z1 z2:=by
  rw[<-pC]
  exact fW (λj _=>r1 j) (λj _=>r2 j)
 have Vr:aJ m (gz p x i o t c 2) (gz p x i o t c 2)=p*p*(2*aH m z2):=by
  rw[<-eO ev z2,<-pC]
  exact fW (λj _=>r2 j) (λj _=>r2 j)
 refine⟨mS (2*w) (2*aH m z1) (2*aH m z2) k (az m (cH p x i t) i) (aJ m z1 z2),bP _,sM _ _ _ _ _ _,λa b ha hb=> ?_⟩
 rcases aC ha with rfl|rfl|rfl<;>rcases aC hb with rfl|rfl|rfl
 ·exact Vp
 ·exact hk
 ·exact Ul
 ·exact(gn ev _ _).trans hk
 ·exact Vq
 ·exact Um
 ·exact(gn ev _ _).trans Ul
 ·exact(gn ev _ _).trans Um
 ·exact Vr
theorem HN{b:List (List Int)}(d0:aK b≠0)(x:Nat->Int)(h:oM x b 0=0/\oM x b 1=0/\oM x b 2=0):x 0=0/\x 1=0/\x 2=0:=by
 obtain⟨h0,h1,h2⟩:=h
 unfold oM at h0 h1 h2
 have k:∀z:Int,aK b*z=0->z=0:=λz e=>by
  rcases Int.mul_eq_zero.mp e with y|y
  ·exact absurd y d0
  ·exact y
 refine⟨k _ ?_,k _ ?_,k _ ?_⟩<;>rw[bV]<;>grind
theorem HP{m M S:List (List Int)}(ev:bI m)(nq:bC m)(ab:dQ m=true){p:Int}(p0:0<p)(hS:aK S=p*p*p∨aK S= -(p*p*p))(cS:bC S)(cM:bC M)(eM:bI M)(h:∀a b,a<3->b<3->aJ m (λk=>ent S a k) (λk=>ent S b k)=p*p*ent M a b):aK M=aK m/\dQ M=true:=by
 have ec:∀a b,a<3->b<3->ent (gX m S) a b=p*p*ent M a b:=λa b ha hb=>by rw[kO m S ha hb,h a b ha hb]
 have pp:0<p*p:=Int.mul_pos p0 p0
 have d1:aK (gX m S)=aK S*aK m*aK S:=by
  unfold gX
  rw[kC,kC,vY]
 have d2:aK (gX m S)=p*p*(p*p)*(p*p)*aK M:=by
  rw[bV,bV]
  simp only[ec 0 0 (by decide) (by decide),ec 0 1 (by decide) (by decide),ec 0 2 (by decide) (by decide),ec 1 0 (by decide) (by decide),ec 1 1 (by decide) (by decide),ec 1 2 (by decide) (by decide),ec 2 0 (by decide) (by decide),ec 2 1 (by decide) (by decide),ec 2 2 (by decide) (by decide)]
  grind
 have d3:aK S*aK m*aK S=p*p*(p*p)*(p*p)*aK m:=by
  rcases hS with z|z<;>rw[z]<;>grind
 have WR:aK M=aK m:=by
  have e:p*p*(p*p)*(p*p)*aK M=p*p*(p*p)*(p*p)*aK m:=by rw[<-d2,d1,d3]
  exact Int.eq_of_mul_eq_mul_left (by
   have:=Int.mul_pos (Int.mul_pos pp pp) pp
   omega) e
 refine⟨WR,yU (iZ eM cM) λv n0=> ?_⟩
 have dS:aK S≠0:=by
  have:=Int.mul_pos pp p0
  rcases hS with z|z<;>rw[z]<;>omega
 have pos:=yW (iZ ev nq) ab
 have e1:aJ (gX m S) v v=p*p*aJ M v v:=by
  rw[bH,bH]
  simp only[ec 0 0 (by decide) (by decide),ec 0 1 (by decide) (by decide),ec 0 2 (by decide) (by decide),ec 1 0 (by decide) (by decide),ec 1 1 (by decide) (by decide),ec 1 2 (by decide) (by decide),ec 2 0 (by decide) (by decide),ec 2 1 (by decide) (by decide),ec 2 2 (by decide) (by decide)]
  grind
 have e2:0<aJ (gX m S) v v:=by
  rw[sN]
  exact pos _ λz=>n0 (HN dS v z)
 rw[e1]at e2
 exact Int.pos_of_mul_pos_right e2 pp
theorem HQ{m:List (List Int)}(ev:bI m){n:Nat}{x:Nat->Int}{i l o:Nat}{t c:Int}(S:pB m (n:Int) x i l o t c)(hp:(n:Int)∈([3,5,7,11,13]:List Int)){k:Nat}(hk:aH m (d9 n x k)%((n:Int)*n)=0)(fk:∀j,j<k-> ¬aH m (d9 n x j)%((n:Int)*n)=0){a:Nat}(ha:a<3):
  aJ m (d9 n x k) (gz n x i o t c a)%((n:Int)*n)=0/\ ∃d:Nat,d<n/\ ∀j,j<3->(gz n x i o t c a j- (d:Int)*x j)%(n:Int)=0:=by
 have n2:2<n:=by
  simp only[List.mem_cons,List.not_mem_nil,or_false]at hp
  omega
 obtain⟨tn,rfl⟩:∃tn:Nat,t=(tn:Int):=⟨t.toNat,by have:=S.F.lo;omega⟩
 obtain⟨_,k2,k3,k4⟩:=jb ev hp S.hc S.F
 have ek:gY n i tn=k:=wc (P:=λk=>aH m (d9 n x k)%((n:Int)*n)=0) k3 k4 hk fk
 rw[ek]at k2
 obtain⟨M,_,_,hM⟩:=HM ev S
 refine⟨?_,?_⟩
 ·have e:aJ m (d9 n x k) (gz n x i o tn c a)=aJ m (gz n x i o tn c 0) (gz n x i o tn c a):=fW k2 (λ_ _=>rfl)
  rw[e,hM 0 a (by decide) ha]
  exact Int.mul_emod_right _ _
 ·rcases aC ha with rfl|rfl|rfl
  ·refine⟨1,by omega,λj hj=> ?_⟩
   have:=kD (n:Int) x i tn j
   show(cH n x i tn j-1*x j)%(n:Int)=0
   rw[Int.one_mul]
   exact Int.emod_eq_emod_iff_emod_sub_eq_zero.mp this
  ·refine⟨0,by omega,λj hj=> ?_⟩
   show((if j=i then c*(n:Int)else if j=o then(n:Int)else 0) - ((0:Nat):Int)*x j)%(n:Int)=0
   split
   ·exact Int.emod_eq_zero_of_dvd ⟨c,by rw[Int.mul_comm];simp⟩
   ·split
    ·exact Int.emod_eq_zero_of_dvd ⟨1,by simp⟩
    ·simp
  ·refine⟨0,by omega,λj hj=> ?_⟩
   show((if j=i then(n:Int)*n else 0) - ((0:Nat):Int)*x j)%(n:Int)=0
   split
   ·exact Int.emod_eq_zero_of_dvd ⟨n,by simp⟩
   ·simp
def Ux(h base:Heap)(e:Addr)(cls a0 fl:Value):Prop:=
 ∃ob ws tb ot us,h.get? e=some ob/\ob.data= .fields ws/\ob.cls=cls/\ws[0]?=some a0/\ws[2]?=some .none/\ws[1]?=some (.ref tb)/\tb≠e/\base.get? tb=none/\h.get? tb=some ot/\ot.data= .fields us/\us[3]?=some fl
structure Fl(base:Heap)(l:List Env)(e:Addr)(cls a0 fl:Value)(h:Heap):Prop where
 stay:base.StaysIn h
 new:base.get? e=none
 frm:h.FunFrames base l
 WS:Ux h base e cls a0 fl
section
variable{M:Model}{A:Around}{E:Value->Shared->Prop}{s:Shared}{base:Heap}{env:Env}{outer:List Env}{L e:Addr}{cls a0:Value}
theorem Fl.out{fl:Value}{h:Heap}(F:Fl base (env::outer) e cls a0 fl h):Fl base outer e cls a0 fl h:=⟨F.stay,F.new,F.frm.2.2,F.WS⟩
end
section
variable{P:Program}{w:World}{K:PySem.W.Frag}{mg:Str->Option Value}{base:Heap}{N:List Str}{qual:Str}{scope:Scope}{f:Addr}{cd:Value}{A:Around}{outer:List Env}{s:Shared}{H:Hp}{E:XK}
end
section
variable{X:Cx}{pins:List (Addr×Obj)}{σ:St}{H:Hp}{s:Shared}
def Ends.behind(D:Ends)(i:Nat):Ends:={nx:=λσ H=>D.nx (σ.set i none) H,rt:=D.rt,bk:=λσ H=>D.bk (σ.set i none) H,ct:=λσ H=>D.ct (σ.set i none) H}
end
section
variable{X:Cx}{pins:List (Addr×Obj)}{σ:St}{H:Hp}{s:Shared}
end
end L2
namespace L2
open PySem PySem.Spec PyProof.Rows PySem.W Builtin Builtin.ObjectAttr Builtin.Getset_descriptor
section
variable{K:Frag}{x D:Addr}
structure RB(K:Frag)(D:Addr):Prop where
 ga:findIn K (.ref D) "__getattribute__"=some (some (.builtin "BaseException.__getattribute__"))
 gh:findIn K (.ref D) "__getattr__"=some none
 mb:mroIn K D (.type "BaseException")=some true
 at_:findIn K (.ref D) "__class__"=some (some (.builtin "object.__class__"))
 spc:specialIn K (.builtin "object.__class__") "__get__"=some (some (.builtin "getset_descriptor.__get__"))
 tak:takesIn K (.builtin "object.__class__")=some true
 mro:mroIn K D (.type "object")=some true
 lk:∃oD,K.lookup D=some oD/\oD.cls= .type "type"
 slf:kitCls K (.ref D) (.ref D)=some true
end
end L2
namespace L2
open PySem PySem.Spec PyProof.Rows
section
variable{P:Program}{w:World}{K:PySem.W.Frag}{mg:Str->Option Value}{base:Heap}
end
section
variable{X:Cx}{pins:List (Addr×Obj)}{σ:St}{H:Hp}{s:Shared}
structure YF(X:Cx)(CK:Addr)(i:Nat)(n kx:Str):Prop where
 stk:X.stack=X.env::X.outer
 fr:X.env.frame=some X.env.locals
 nd:X.N.Nodup
 at_:X.N[i]?=some n
 loc:X.env.scope.names.lookup n=some .local
 gl:Gl X kx
 glo:X.mg kx=some (.ref CK)
 db:(kx==("__debug__":Str))=false
end
structure LO(k:Nat)(A:Around):Prop where
 dp:A.depth+3*k+5<recursionLimit
 un:A.units+16*k+200<cLine
theorem LO.of{k:Nat}{A:Around}(r:gw k A):LO k A:=⟨r.dp,r.un⟩
structure YG(P:Program)(w:World)(K:PySem.W.Frag)(mg:Str->Option Value)(base:Heap)(k:Nat)(f:Addr)(fd:FuncData)(ps:List Str)(sp:Addr->Obj->Sp):Prop where
 len:∀a oe vs H Q E,sp a oe vs H Q E->vs.length=ps.length
 run:∀(a:Addr) (oe:Obj) (A:Around) (outer:List Env) (s:Shared) (H:Hp) (args:Args) (us:List Value) (vs:List V) (Q:VK),LO k A->JD P w K mg base A outer s H->BindsTo s fd args (ps.zip us) ->Vals vs us->
  s.heap.get? a=some oe->H a=none->a∉frs outer->(∀v,oe.data≠ .cell v) ->sp a oe vs H Q E0->codeAny (model P w) A (.call (.ref f) args) (CR cj outer P w H s Q E0) s
section
variable{X:Cx}
end
def WT:List Value:=[.type "ValueError",.type "Exception",.type "BaseException",.type "object"]
structure LP(K:PySem.W.Frag)(CK:Addr)(Cs:List Addr)(D:Addr):Prop where
 cls:RB K D
 exm:PySem.W.exmOne K (.ref D) (.ref CK)=some true
 val:PySem.W.kitOne K (.ref D) (.type "ValueError")=some true
 exc:PySem.W.excIn K D WT "ValueError.__new__"=true
 kit:∀C∈Cs,PySem.W.kitOne K (.ref D) (.ref C)=some (decide (D=C))
structure Uy(K:PySem.W.Frag)(CK:Addr)(Cs:List Addr):Prop where
 nd:Cs.Nodup
 one:∀D∈Cs,LP K CK Cs D
theorem Uy.at{K:PySem.W.Frag}{CK:Addr}{Cs:List Addr}(X:Uy K CK Cs)(i:Nat){D:Addr}(h:Cs[i]?=some D):LP K CK Cs D:=X.one D (List.mem_of_getElem? h)
structure cQ(P:Program)(w:World)(K:PySem.W.Frag)(mg:Str->Option Value)(base:Heap)(C:GC)(k:Nat)(x:Str)(ps:List Str)(sp:Sp):Prop where
 ex:∃f fd,rB P w K mg base C k f fd ps sp/\Binds K fd ps []/\PySem.W.keepIn K (.ref f)=true/\mg x=some (.ref f)
structure fC(K:PySem.W.Frag)(mg:Str->Option Value)(x:Str)(st:Stmt)(ps:List Str):Prop where
 ex:∃f fd,PM K x x st f fd/\Binds K fd ps []/\mg x=some (.ref f)
structure mW(K:PySem.W.Frag)(mg:Str->Option Value)(x:Str)(st:Stmt)(ps:List Str)(T:Addr):Prop where
 ex:∃f fd,GV K x x st f fd T/\Binds K fd ps []/\mg x=some (.ref f)
section
variable{P:Program}{w:World}{K:PySem.W.Frag}{mg:Str->Option Value}{base:Heap}{C:GC}{x:Str}{st:Stmt}{N ps:List Str}{j k:Nat}{sp:Sp}{T:Addr}
theorem cQ.mono(F:cQ P w K mg base C j x ps sp)(h:j<=k):cQ P w K mg base C k x ps sp:=by
 obtain⟨f,fd,a,b⟩:=F.ex
 exact⟨f,fd,a.mono h,b⟩
theorem fC.ok(F:fC K mg x st ps)(S:aP N ps (aB st))(len:∀vs H Q E,sp vs H Q E->vs.length=ps.length)
  (hbody:∀f (cdv:Value) (A:Around) (outer:List Env) (s:Shared) (H:Hp) (vs:List V) (Q:VK) (E:XK),gw k (A.deeper (envOfC x (aB st) s.heap.objs.size f cdv)) ->sp vs H Q E->
   ∃t,zL (zN cj P w K mg base N x (aB st) f cdv A outer s H E).Jf (fM st) t/\t {nx:=λ_ H'=>Q .gu H',rt:=Q} (start N vs) H):cQ P w K mg base cj (k+1) x ps sp:=by
 obtain⟨f,fd,a,b,m⟩:=F.ex
 exact⟨f,fd,a.ok S len (hbody f),b,a.kp,m⟩
theorem mW.ok(F:mW K mg x st ps T)(S:aP N ps (aB st))(len:∀vs H Q E,sp vs H Q E->vs.length=ps.length)
  (hbody:∀f (cdv:Value) (A:Around) (outer:List Env) (s:Shared) (H:Hp) (vs:List V) (Q:VK) (E:XK),gx K cdv T->gw k (A.deeper (envOfC x (aB st) s.heap.objs.size f cdv)) ->sp vs H Q E->
   ∃t,zL (zN cj P w K mg base N x (aB st) f cdv A outer s H E).Jf (fM st) t/\t {nx:=λ_ H'=>Q .gu H',rt:=Q} (start N vs) H):cQ P w K mg base cj (k+1) x ps sp:=by
 obtain⟨f,fd,a,b,m⟩:=F.ex
 exact⟨f,fd,a.ok S len (hbody f),b,a.kp,m⟩
end
theorem aR{X:Cx}{CX:GC}{k:Nat}{ps:List Str}{sp:Sp}{E:XK}{x:Str}{p pos:Pos}{e:Expr}{es:List Expr}{t:TA}(F:cQ X.prog X.w X.K X.mg X.base CX k x ps sp)(hr:gw k X.A)(hg:Gl X x)(hx:Passes CX X E)(ha:PA X (e::es) t)
  (hdb:(x==("__debug__":Str))=false:=by decide)(he:starEach (e::es) X.env=(false,eval e X.env)::starEach es X.env:=by rfl)(hpl:(backTo pos (starEach es X.env)).any (·.1)=false:=by rfl):
  PE X (.Call (.Name x p) (e::es) [] pos) (mQ sp [] E t):=by
 obtain⟨f,fd,a,b,kp,m⟩:=F.ex
 exact Ny a hr hg m kp b .nil hx ha hdb he hpl
def FnAt(K:PySem.W.Frag)(x:Str)(st:Stmt)(f:Addr):Prop:=∃(oc:Value) (od an:Option Addr) (sl:Array (Option Value)) (kV dc pm cd ct:Value),PySem.W.nsIn K mainGlobals x=some (some (.ref f))/\
 K.lookup f=some ⟨oc,od,.func (PySem.W.fnOf x x (ie st) (fM st) (aB st) .none kV dc pm an cd ct),sl⟩/\PySem.W.codeIn K cd x=true/\PySem.W.keepIn K (.ref f)=true
theorem fnAt{K:PySem.W.Frag}{x:Str}{st:Stmt}{f:Addr}{oc:Value}{od an:Option Addr}{sl:Array (Option Value)}{kV dc pm cd ct:Value}(a:PySem.W.nsIn K mainGlobals x=some (some (.ref f)))
  (l:K.lookup f=some ⟨oc,od,.func (PySem.W.fnOf x x (ie st) (fM st) (aB st) .none kV dc pm an cd ct),sl⟩)(c:PySem.W.codeIn K cd x=true)(k:PySem.W.keepIn K (.ref f)=true):FnAt K x st f:=
 ⟨oc,od,an,sl,kV,dc,pm,cd,ct,a,l,c,k⟩
section
variable{q:Program}{loose:List Str}{mean:ExcName->Option Value}{mg mb:Str->Option Value}{h:Heap}{K:PySem.W.Frag}{x:Str}{st:Stmt}{f:Addr}{ps:List Str}
theorem FnAt.fun(Tp:Top q loose mean mg mb h)(X:K.In h)(A:FnAt K x st f)
  (hb:∀(kV doc pm:Value) (an:Option Addr) (cdv ct:Value) (us:List Value),us.length=ps.length->bindArgs (PySem.W.fnOf x x (ie st) (fM st) (aB st) .none kV doc pm an cdv ct) ⟨us,[]⟩=pure (ps.zip us)):fC K mg x st ps:=by
 obtain⟨oc,od,an,sl,kV,dc,pm,cd,ct,a,l,c,k⟩:=A
 have F:=JI (st:=st) l c k
 exact⟨f,_,F,F.binds hb,PySem.W.mg_of X Tp.g a⟩
theorem FnAt.x8(Tp:Top q loose mean mg mb h)(X:K.In h)(A:FnAt K x st f){d:DefRec}(r:(recsOf q).find? (λe=>e.name==x)=some d)
  (hb:∀(kV doc pm:Value) (an:Option Addr) (cdv ct:Value) (us:List Value),us.length=ps.length->bindArgs (PySem.W.fnOf x x (ie st) (fM st) (aB st) .none kV doc pm an cdv ct) ⟨us,[]⟩=pure (ps.zip us)):
  ∃T,mW K mg x st ps T/\isCodeTable h T/\h.get? T=some {cls:= .none,data:= .fields #[]}/\tabOf K f=some (.ref T):=by
 obtain⟨oc,od,an,sl,kV,dc,pm,cd,ct,a,l,c,k⟩:=A
 have m:=PySem.W.mg_of X Tp.g a
 obtain⟨T,cA,cT,cE⟩:=Dk Tp r X m l (show PySem.W.codeIn K (PySem.W.fnOf x x (ie st) (fM st) (aB st) .none kV dc pm an cd ct).code x=true from c)
 have F:GV K x x st f _ T:=⟨⟨oc,od,kV,dc,pm,an,cd,ct,sl,rfl,l,c,cA⟩,k⟩
 exact⟨T,⟨f,_,F,F.fn.binds hb,m⟩,cT,cE,Bu l cA⟩
end
end L2
set_option maxHeartbeats 1000000
namespace CN
open PySem L2
def top(i:Nat):Stmt:=PySem.Challenge.pw_conekin_k46_ways_back.main.body.getD i (.Pass ⟨0,0,0,0⟩)
abbrev qI:Stmt:=top 8
abbrev jd:List Str:=["thing"]
theorem BI:aP ["thing"] jd (aB qI):=⟨rfl,rfl,rfl,by decide+kernel,rfl,by decide+kernel,by decide+kernel⟩
abbrev wj:Stmt:=top 9
abbrev mX:List Str:=["thing"]
theorem HR:aP ["thing"] mX (aB wj):=⟨rfl,rfl,rfl,by decide+kernel,rfl,by decide+kernel,by decide+kernel⟩
abbrev qJ:Stmt:=top 10
abbrev je:List Str:=["thing"]
theorem BJ:aP ["thing"] je (aB qJ):=⟨rfl,rfl,rfl,by decide+kernel,rfl,by decide+kernel,by decide+kernel⟩
abbrev sW:Stmt:=top 11
abbrev mY:List Str:=["one","other"]
theorem DG:aP ["one","other"] mY (aB sW):=⟨rfl,rfl,rfl,by decide+kernel,rfl,by decide+kernel,by decide+kernel⟩
abbrev l7:Stmt:=top 12
abbrev gp:List Str:=["table"]
theorem wm:aP ["table"] gp (aB l7):=⟨rfl,rfl,rfl,by decide+kernel,rfl,by decide+kernel,by decide+kernel⟩
abbrev kU:Stmt:=top 13
abbrev gE:List Str:=["table","i","j"]
theorem jP:aP ["table","i","j","row","next_row","column","next_column"] gE (aB kU):=⟨rfl,rfl,rfl,by decide+kernel,rfl,by decide+kernel,by decide+kernel⟩
abbrev l8:Stmt:=top 14
abbrev eK:List Str:=["table"]
theorem cZ:aP ["table","a","b","c","d","e","f","g","h","i"] eK (aB l8):=⟨rfl,rfl,rfl,by decide+kernel,rfl,by decide+kernel,by decide+kernel⟩
abbrev Ah:Stmt:=top 15
abbrev qc:List Str:=["table"]
theorem LQ:aP ["table"] qc (aB Ah):=⟨rfl,rfl,rfl,by decide+kernel,rfl,by decide+kernel,by decide+kernel⟩
abbrev sX:Stmt:=top 16
abbrev mZ:List Str:=["table","by"]
theorem DH:aP ["table","by"] mZ (aB sX):=⟨rfl,rfl,rfl,by decide+kernel,rfl,by decide+kernel,by decide+kernel⟩
abbrev jQ:Stmt:=top 19
abbrev gf:List Str:=["thing"]
theorem sY:aP ["thing"] gf (aB jQ):=⟨rfl,rfl,rfl,by decide+kernel,rfl,by decide+kernel,by decide+kernel⟩
abbrev sZ:Stmt:=top 20
abbrev m5:List Str:=["thing"]
theorem DI:aP ["thing"] m5 (aB sZ):=⟨rfl,rfl,rfl,by decide+kernel,rfl,by decide+kernel,by decide+kernel⟩
abbrev tu:Stmt:=top 21
abbrev kE:List Str:=["table","one","other"]
theorem nK:aP ["table","one","other","x","y","z"] kE (aB tu):=⟨rfl,rfl,rfl,by decide+kernel,rfl,by decide+kernel,by decide+kernel⟩
abbrev Ai:Stmt:=top 22
abbrev qd:List Str:=["table","row"]
theorem LR:aP ["table","row"] qd (aB Ai):=⟨rfl,rfl,rfl,by decide+kernel,rfl,by decide+kernel,by decide+kernel⟩
abbrev tw:Stmt:=top 23
abbrev m6:List Str:=["table"]
theorem qK:aP ["table","first","mixed"] m6 (aB tw):=⟨rfl,rfl,rfl,by decide+kernel,rfl,by decide+kernel,by decide+kernel⟩
abbrev DJ:Stmt:=top 24
abbrev wo:List Str:=["form"]
theorem FT:aP ["form","told"] wo (aB DJ):=⟨rfl,rfl,rfl,by decide+kernel,rfl,by decide+kernel,by decide+kernel⟩
abbrev l9:Stmt:=top 27
abbrev g6:List Str:=["halved","thing"]
theorem wu:aP ["halved","thing"] g6 (aB l9):=⟨rfl,rfl,rfl,by decide+kernel,rfl,by decide+kernel,by decide+kernel⟩
abbrev iI:Stmt:=top 28
abbrev fJ:List Str:=["form","p"]
theorem qL:aP ["form","p"] fJ (aB iI):=⟨rfl,rfl,rfl,by decide+kernel,rfl,by decide+kernel,by decide+kernel⟩
abbrev qM:Stmt:=top 29
abbrev jf:List Str:=["number","p"]
theorem BK:aP ["number","p"] jf (aB qM):=⟨rfl,rfl,rfl,by decide+kernel,rfl,by decide+kernel,by decide+kernel⟩
abbrev nM:Stmt:=top 30
abbrev gP:List Str:=["form","p","row"]
theorem jr:aP ["form","p","row","rests","leading","times"] gP (aB nM):=⟨rfl,rfl,rfl,by decide+kernel,rfl,by decide+kernel,by decide+kernel⟩
abbrev tD:Stmt:=top 31
abbrev m7:List Str:=["form","p","thing"]
theorem DK:aP ["form","p","thing"] m7 (aB tD):=⟨rfl,rfl,rfl,by decide+kernel,rfl,by decide+kernel,by decide+kernel⟩
abbrev wz:Stmt:=top 32
abbrev pD:List Str:=["form","p","line"]
theorem HS:aP ["form","p","line"] pD (aB wz):=⟨rfl,rfl,rfl,by decide+kernel,rfl,by decide+kernel,by decide+kernel⟩
abbrev nN:Stmt:=top 33
abbrev iJ:List Str:=["told"]
theorem x9:aP ["told"] iJ (aB nN):=⟨rfl,rfl,rfl,by decide+kernel,rfl,by decide+kernel,by decide+kernel⟩
abbrev nO:Stmt:=top 34
abbrev iK:List Str:=["form","p","line"]
theorem g7:aP ["form","p","line","slants","at","times","told"] iK (aB nO):=⟨rfl,rfl,rfl,by decide+kernel,rfl,by decide+kernel,by decide+kernel⟩
abbrev jg:Stmt:=top 35
abbrev fX:List Str:=["form","p","line"]
theorem rP:aP ["form","p","line"] fX (aB jg):=⟨rfl,rfl,rfl,by decide+kernel,rfl,by decide+kernel,by decide+kernel⟩
abbrev tE:Stmt:=top 37
abbrev m8:List Str:=["form","p","step"]
theorem DL:aP ["form","p","step"] m8 (aB tE):=⟨rfl,rfl,rfl,by decide+kernel,rfl,by decide+kernel,by decide+kernel⟩
abbrev tF:Stmt:=top 38
abbrev m9:List Str:=["form","p","line","lifted","row"]
theorem wA:aP ["form","p","line","lifted","row","times"] m9 (aB tF):=⟨rfl,rfl,rfl,by decide+kernel,rfl,by decide+kernel,by decide+kernel⟩
abbrev mh:Stmt:=top 39
abbrev g8:List Str:=["form","p","line","table"]
theorem pF:aP ["form","p","line","table","lifted"] g8 (aB mh):=⟨rfl,rfl,rfl,by decide+kernel,rfl,by decide+kernel,by decide+kernel⟩
abbrev qN:Stmt:=top 40
abbrev kX:List Str:=["form","p","line","step"]
theorem jC:aP ["form","p","line","step","signed","homeward","made","told"] kX (aB qN):=⟨rfl,rfl,rfl,by decide+kernel,rfl,by decide+kernel,by decide+kernel⟩
abbrev qO:Stmt:=top 42
abbrev kY:List Str:=["_law_script","_law_at"]
theorem jD:aP ["_law_script","_law_at","_law_cell","_law_great"] kY (aB qO):=⟨rfl,rfl,rfl,by decide+kernel,rfl,by decide+kernel,by decide+kernel⟩
abbrev pG:Stmt:=top 43
abbrev eN:List Str:=["_law_bag_here","_law_many"]
theorem rQ:aP ["_law_bag_here","_law_many","_law_digit"] eN (aB pG):=⟨rfl,rfl,rfl,by decide+kernel,rfl,by decide+kernel,by decide+kernel⟩
abbrev iw:Stmt:=top 44
abbrev cI:List Str:=["_law_t"]
theorem gZ:aP ["_law_t","_law_first","_law_second"] cI (aB iw):=⟨rfl,rfl,rfl,by decide+kernel,rfl,by decide+kernel,by decide+kernel⟩
abbrev kZ:Stmt:=top 45
abbrev dY:List Str:=["_law_form_here","_law_one","_law_other"]
theorem gi:aP ["_law_form_here","_law_one","_law_other","_law_total","_law_i","_law_j"] dY (aB kZ):=⟨rfl,rfl,rfl,by decide+kernel,rfl,by decide+kernel,by decide+kernel⟩
abbrev nQ:Stmt:=top 46
abbrev gQ:List Str:=["_law_form_here","_law_row"]
theorem yb:aP ["_law_form_here","_law_row"] gQ (aB nQ):=⟨rfl,rfl,rfl,by decide+kernel,rfl,by decide+kernel,by decide+kernel⟩
abbrev k8:Stmt:=top 47
abbrev gF:List Str:=["_law_one","_law_other"]
theorem jR:aP ["_law_one","_law_other","_law_made_here","_law_row"] gF (aB k8):=⟨rfl,rfl,rfl,by decide+kernel,rfl,by decide+kernel,by decide+kernel⟩
abbrev k9:Stmt:=top 48
abbrev fY:List Str:=["_law_form_here","_law_by"]
theorem uQ:aP ["_law_form_here","_law_by"] fY (aB k9):=⟨rfl,rfl,rfl,by decide+kernel,rfl,by decide+kernel,by decide+kernel⟩
abbrev pH:Stmt:=top 49
abbrev jE:List Str:=["_law_table"]
theorem Aj:aP ["_law_table"] jE (aB pH):=⟨rfl,rfl,rfl,by decide+kernel,rfl,by decide+kernel,by decide+kernel⟩
abbrev iL:Stmt:=top 50
abbrev fK:List Str:=["_law_bag_here","_law_most"]
theorem c8:aP ["_law_bag_here","_law_most","_law_a","_law_b","_law_c","_law_one","_law_other","_law_third"] fK (aB iL):=⟨rfl,rfl,rfl,by decide+kernel,rfl,by decide+kernel,by decide+kernel⟩
abbrev jS:Stmt:=top 51
abbrev gk:List Str:=["_law_form_here"]
theorem tG:aP ["_law_form_here"] gk (aB jS):=⟨rfl,rfl,rfl,by decide+kernel,rfl,by decide+kernel,by decide+kernel⟩
abbrev lg:Stmt:=top 52
abbrev gG:List Str:=["_law_bag_here","_law_most"]
theorem ig:aP ["_law_bag_here","_law_most","_law_turn","_law_form_here","_law_last"] gG (aB lg):=⟨rfl,rfl,rfl,by decide+kernel,rfl,by decide+kernel,by decide+kernel⟩
abbrev nT:Stmt:=top 53
abbrev gR:List Str:=["_law_bag_here","_law_far"]
theorem gq:aP ["_law_bag_here","_law_far","_law_made_here","_law_turn","_law_i","_law_j","_law_times"] gR (aB nT):=⟨rfl,rfl,rfl,by decide+kernel,rfl,by decide+kernel,by decide+kernel⟩
abbrev pI:Stmt:=top 54
abbrev jF:List Str:=["_law_bag_here","_law_most"]
theorem nU:aP ["_law_bag_here","_law_most","_law_form_here","_law_way"] jF (aB pI):=⟨rfl,rfl,rfl,by decide+kernel,rfl,by decide+kernel,by decide+kernel⟩
abbrev nV:Stmt:=top 55
abbrev iM:List Str:=["_law_bag_here","_law_form_here"]
theorem mj:aP ["_law_bag_here","_law_form_here","_law_halved","_law_some"] iM (aB nV):=⟨rfl,rfl,rfl,by decide+kernel,rfl,by decide+kernel,by decide+kernel⟩
abbrev pJ:Stmt:=top 56
abbrev jG:List Str:=["_law_p"]
theorem kr:aP ["_law_p","_law_found","_law_a"] jG (aB pJ):=⟨rfl,rfl,rfl,by decide+kernel,rfl,by decide+kernel,by decide+kernel⟩
abbrev nW:Stmt:=top 57
abbrev iN:List Str:=["_law_form_here","_law_p"]
theorem qv:aP ["_law_form_here","_law_p","_law_small"] iN (aB nW):=⟨rfl,rfl,rfl,by decide+kernel,rfl,by decide+kernel,by decide+kernel⟩
abbrev pK:Stmt:=top 58
abbrev iB:List Str:=["_law_form_here","_law_p","_law_line"]
theorem nX:aP ["_law_form_here","_law_p","_law_line","_law_at","_law_row"] iB (aB pK):=⟨rfl,rfl,rfl,by decide+kernel,rfl,by decide+kernel,by decide+kernel⟩
abbrev lq:Stmt:=top 59
abbrev gH:List Str:=["_law_form_here","_law_p","_law_line","_law_up","_law_row"]
theorem uR:aP ["_law_form_here","_law_p","_law_line","_law_up","_law_row"] gH (aB lq):=⟨rfl,rfl,rfl,by decide+kernel,rfl,by decide+kernel,by decide+kernel⟩
abbrev lu:Stmt:=top 60
abbrev gJ:List Str:=["_law_form_here","_law_p","_law_line","_law_table"]
theorem oF:aP ["_law_form_here","_law_p","_law_line","_law_table","_law_up"] gJ (aB lu):=⟨rfl,rfl,rfl,by decide+kernel,rfl,by decide+kernel,by decide+kernel⟩
abbrev pL:Stmt:=top 61
abbrev jH:List Str:=["_law_form_here","_law_p","_law_step_here"]
theorem Ak:aP ["_law_form_here","_law_p","_law_step_here"] jH (aB pL):=⟨rfl,rfl,rfl,by decide+kernel,rfl,by decide+kernel,by decide+kernel⟩
abbrev mq:Stmt:=top 62
abbrev g9:List Str:=["_law_form_here","_law_p","_law_up"]
theorem dZ:aP ["_law_form_here","_law_p","_law_up","_law_pairings","_law_place","_law_unmade","_law_made_here","_law_k","_law_row"] g9 (aB mq):=⟨rfl,rfl,rfl,by decide+kernel,rfl,by decide+kernel,by decide+kernel⟩
abbrev mw:Stmt:=top 63
abbrev ic:List Str:=["_law_rows_here"]
theorem cJ:aP ["_law_rows_here","_law_left","_law_found","_law_k","_law_some","_law_at","_law_q"] ic (aB mw):=⟨rfl,rfl,rfl,by decide+kernel,rfl,by decide+kernel,by decide+kernel⟩
abbrev pM:Stmt:=top 64
abbrev jI:List Str:=["_law_form_here","_law_p","_law_line"]
theorem rR:aP ["_law_form_here","_law_p","_law_line","_law_up"] jI (aB pM):=⟨rfl,rfl,rfl,by decide+kernel,rfl,by decide+kernel,by decide+kernel⟩
abbrev jT:Stmt:=top 65
abbrev gm:List Str:=["_law_found"]
theorem ng:aP ["_law_found","_law_row"] gm (aB jT):=⟨rfl,rfl,rfl,by decide+kernel,rfl,by decide+kernel,by decide+kernel⟩
abbrev rS:Stmt:=top 66
abbrev Uz:List Str:=["_law_script"]
theorem jh:aP ["_law_script","_law_bag_here","_law_form_here","_law_p","_law_some","_law_line","_law_step_here","_law_made_here","_law_handed","_law_turn","_law_found","_law_own","_law_other"] Uz (aB rS):=⟨rfl,rfl,rfl,by decide+kernel,rfl,by decide+kernel,by decide+kernel⟩
section
variable{P:Program}{w:World}{K:PySem.W.Frag}{mg:Str->Option Value}{base:Heap}
end
end CN
set_option maxHeartbeats 1000000
namespace CN
open PySem L2
section
variable{P:Program}{w:World}{K:PySem.W.Frag}{mg:Str->Option Value}{base:Heap}
def Qd(K:PySem.W.Frag):Sp:=λvs H Q _=> ∃(a:Addr) (ns:List Int) (k:Int),vs=[.ref a,.int k]/\aN K H a (ns.map V.int)/\ns.length<=63/\0<=k/\k<1000/\ ∀B H',au H H'->H B=none->kP H' B->Q (.ref B) H'
theorem BL(F:fC K mg "_law_bag" qO kY)(gA:mg "len"=none)(ni:mg "abs"=none):cQ P w K mg base cj 1 "_law_bag" kY (Qd K):=by
 refine F.ok jD (λvs H Q E h=> ?_) (λf cdv A outer s H vs Q E hr h=> ?_)
 ·obtain⟨a,ns,k,rfl,hS,h63,h0,hk,q⟩:=h
  rfl
 obtain⟨a,ns,k,rfl,hS,h63,h0,hk,q⟩:=h
 have hu:=hr.units
 refine⟨_,(mR (@ao _ _ _ _ _ (aX (i:=2) jD.nd rfl (Or.inl rfl) ah)
  (@ao _ _ _ _ _ (cV (bg PJ (pv 1) (bD dX rfl gA PySem.boot_len (af (pv 0) ak)) (bf _)) (@aM _ _ _ (aX (i:=2) jD.nd rfl (Or.inl rfl) (aE aq (pv 0) (pv 1) (λ_ _=>rfl)))) cU)
  (@ao _ _ _ _ _ (aX (i:=3) jD.nd rfl (Or.inl rfl) ah)
  (@ao _ _ _ _ _ (cV (bg Tq (bD oR rfl ni PyProof.Rows.boot_abs (af (pv 2) ak)) (ay Jy ah ah) (bf _)) (@aM _ _ _ (aX (i:=3) jD.nd rfl (Or.inl rfl) (bD oR rfl ni PyProof.Rows.boot_abs (af (pv 2) ak)))) cU)
  (@aM _ _ _ (aO (fQ (af (pv 3) (af (ay dI (ay cR (ay bO (ay dI (ay dI (ay cR (pv 2) ah) (ay bO ah (pv 1))) ah) ah) ah) ah) ak)))))))))),?_⟩
 have hl:(ns.map V.int).length=ns.length:=List.length_map _
 refine⟨_,rfl,_,rfl,a,_,rfl,.inl hS,_,_,rfl,rfl,_,rfl,Ku (λσ' H'=> ∃c:Int,H'=H/\σ'=[some (.ref a),some (.int k),some (.int c),none]) ?_ (λc hK=> ?_) ⟨0,rfl,rfl⟩⟩
 rotate_left
 ·have c':k<(((ns.map V.int).length:Nat):Int):=of_decide_eq_true c
  rw[hl]at c'
  obtain⟨z,hz⟩:=NP h0 c'
  exact⟨_,rfl,_,rfl,a,_,_,_,rfl,rfl,hS,hz,hK _ _ ⟨z,rfl,rfl⟩⟩
 rintro σ' H' ⟨c,rfl,rfl⟩
 refine⟨_,rfl,c,rfl,_,_,rfl,rfl,⟨by decide,by decide,by decide⟩,_,_,rfl,rfl,_,rfl,Ku (λσ' H2=> ∃g:Int,0<=g/\H2=H'/\σ'=[some (.ref a),some (.int k),some (.int c),some (.int g)]) ?_ (λ_ hK=> ?_) ⟨0,Int.le_refl 0,rfl,rfl⟩⟩
 rotate_left
 ·exact⟨_,rfl,c,rfl,hK _ _ ⟨_,by split<;>omega,rfl,rfl⟩⟩
 rintro σ' H2 ⟨g,hg,rfl,rfl⟩
 refine⟨_,rfl,_,rfl,_,_,rfl,rfl,(by show(0:Int)<2147483629;decide),_,rfl,_,_,rfl,rfl,.inl ⟨by decide,by decide⟩,_,_,rfl,rfl,_,_,rfl,rfl,_,_,rfl,rfl,.inr ⟨by decide,by decide⟩,_,_,rfl,rfl,(by show(0:Int)<2147483629;decide),_,_,rfl,rfl,(by show 2<=sizeLine;decide),λB hB=> ?_⟩
 exact q B _ (au.up hB) hB ⟨g,_,aA,hg,by have:=Int.emod_nonneg ((c%2147483629+7919*k+13)*69621) (show(2147483629:Int)≠0 by decide);omega⟩
def qP:Sp:=λvs H Q _=> ∃(B:Addr) (many:Int),vs=[.ref B,.int many]/\kP H B/\0<many/\many.natAbs.log2<9000/\ ∀(d:Int) H',0<=d->d<many->SB B H H'->Q (.int d) H'
theorem Al(F:fC K mg "_law_take" pG eN):cQ P w K mg base cj 1 "_law_take" eN qP:=by
 refine F.ok rQ (λvs H Q E h=> ?_) (λf cdv A outer s H vs Q E hr h=> ?_)
 ·obtain⟨B,many,rfl,⟨g,s,eB,hg,hs⟩,hm,hm2,q⟩:=h
  rfl
 obtain⟨B,many,rfl,⟨g,s,eB,hg,hs⟩,hm,hm2,q⟩:=h
 have hu:=hr.units
 refine⟨_,(mR (@ao _ _ _ _ _ (cV (bg yI (aE aq (pv 0) ah (λ_ _=>rfl)) ah (bf _)) (@ao _ _ _ _ _ (aX (i:=2) rQ.nd rfl (Or.inl rfl) (ay cR (aE aq (pv 0) ah (λ_ _=>rfl)) (pv 1)))
  (@ao _ _ _ _ _ (nA (ay Ka (aE aq (pv 0) ah (λ_ _=>rfl)) (pv 1)) (qz (pv 0) ah set_list))
  (@aM _ _ _ (aO (pv 2))))) cU)
  (@ao _ _ _ _ _ (nA (ay cR (ay dI (ay bO (aE aq (pv 0) ah (λ_ _=>rfl)) ah) ah) ah) (qz (pv 0) ah set_list))
  (@aM _ _ _ (aO (ay cR (ay fm (ay cR (ay bO (ay fm (aE aq (pv 0) ah (λ_ _=>rfl)) ah) ah) ah) ah) (pv 1))))))),?_⟩
 refine⟨_,rfl,B,_,_,_,rfl,rfl,aN.of eB,rfl,_,_,rfl,rfl,_,rfl,oS (λc=> ?_) (λc=> ?_)⟩
 ·refine⟨_,rfl,B,_,_,_,rfl,rfl,aN.of eB,rfl,_,rfl,_,_,rfl,rfl,hm,?_⟩
  refine⟨_,rfl,B,_,_,_,rfl,rfl,aN.of eB,rfl,_,rfl,_,_,rfl,rfl,⟨hm,hm2⟩,_,rfl,B,_,_,0,rfl,rfl,eB,rfl,?_⟩
  exact⟨_,rfl,q (g%many) _ (Int.emod_nonneg _ (by omega)) (Int.emod_lt_of_pos _ hm) (Kv (Int.ediv_nonneg hg (by omega)) hs)⟩
 ·refine⟨_,rfl,B,_,_,_,rfl,rfl,aN.of eB,rfl,_,_,rfl,rfl,.inr ⟨by decide,by decide⟩,_,_,rfl,rfl,_,_,rfl,rfl,(by show(0:Int)<2147483647;decide),_,rfl,B,_,_,1,rfl,rfl,eB,rfl,?_⟩
  have eB2:upd H B (.lst ([V.int g,.int s].set 1 (.int ((s*48271+11)%2147483647)))) B=some (.lst [.int g,.int ((s*48271+11)%2147483647)]):=aA
  refine⟨_,rfl,B,_,_,_,rfl,rfl,aN.of eB2,rfl,_,_,rfl,rfl,⟨by decide,by decide⟩,_,_,rfl,rfl,.inr ⟨by decide,by decide⟩,_,_,rfl,rfl,(by show(0:Int)<2147483629;decide),_,_,rfl,rfl,⟨by decide,by decide⟩,_,rfl,_,_,rfl,rfl,hm,?_⟩
  exact q _ _ (Int.emod_nonneg _ (by omega)) (Int.emod_lt_of_pos _ hm) (Kv hg (Int.emod_nonneg _ (by decide)))
def wB:Sp:=λvs H Q _=> ∃(t:Addr) (bs:List Addr) (m:List (List Int)),vs=[.ref t]/\Tab H t bs m/\bC m/\Bd 1000 m/\Q (.int (aK m)) H
theorem qo(F:fC K mg "_law_determinant" iw cI):cQ P w K mg base cj 1 "_law_determinant" cI wB:=by
 refine F.ok gZ (λvs H Q E h=> ?_) (λf cdv A outer s H vs Q E hr h=> ?_)
 ·obtain⟨t,bs,m,rfl,hT,cN,hB,q⟩:=h
  rfl
 obtain⟨t,bs,m,rfl,hT,cN,hB,q⟩:=h
 have hu:=hr.units
 refine⟨_,(mR (@ao _ _ _ _ _ (aX (i:=1) gZ.nd rfl (Or.inl rfl) (ay bA (aE aq (aE aq (pv 0) ah (λ_ _=>rfl)) ah (λ_ _=>rfl)) (ay f6 (ay bA (aE aq (aE aq (pv 0) ah (λ_ _=>rfl)) ah (λ_ _=>rfl)) (aE aq (aE aq (pv 0) ah (λ_ _=>rfl)) ah (λ_ _=>rfl))) (ay bA (aE aq (aE aq (pv 0) ah (λ_ _=>rfl)) ah (λ_ _=>rfl)) (aE aq (aE aq (pv 0) ah (λ_ _=>rfl)) ah (λ_ _=>rfl))))))
  (@ao _ _ _ _ _ (aX (i:=2) gZ.nd rfl (Or.inl rfl) (ay bA (aE aq (aE aq (pv 0) ah (λ_ _=>rfl)) ah (λ_ _=>rfl)) (ay f6 (ay bA (aE aq (aE aq (pv 0) ah (λ_ _=>rfl)) ah (λ_ _=>rfl)) (aE aq (aE aq (pv 0) ah (λ_ _=>rfl)) ah (λ_ _=>rfl))) (ay bA (aE aq (aE aq (pv 0) ah (λ_ _=>rfl)) ah (λ_ _=>rfl)) (aE aq (aE aq (pv 0) ah (λ_ _=>rfl)) ah (λ_ _=>rfl))))))
  (@aM _ _ _ (aO (ay dI (ay f6 (pv 1) (pv 2)) (ay bA (aE aq (aE aq (pv 0) ah (λ_ _=>rfl)) ah (λ_ _=>rfl)) (ay f6 (ay bA (aE aq (aE aq (pv 0) ah (λ_ _=>rfl)) ah (λ_ _=>rfl)) (aE aq (aE aq (pv 0) ah (λ_ _=>rfl)) ah (λ_ _=>rfl))) (ay bA (aE aq (aE aq (pv 0) ah (λ_ _=>rfl)) ah (λ_ _=>rfl)) (aE aq (aE aq (pv 0) ah (λ_ _=>rfl)) ah (λ_ _=>rfl))))))))))),?_⟩
 obtain⟨c0,x1,x2,_⟩:=aY hT cN (i:=0) (by decide)
 obtain⟨c1,y1,y2,_⟩:=aY hT cN (i:=1) (by decide)
 obtain⟨c2,w1,w2,_⟩:=aY hT cN (i:=2) (by decide)
 refine⟨_,rfl,t,_,_,_,rfl,rfl,aN.of hT.1,x1,c0,_,_,_,rfl,rfl,aN.of x2,rfl,_,rfl,t,_,_,_,rfl,rfl,aN.of hT.1,y1,c1,_,_,_,rfl,rfl,aN.of y2,rfl,_,rfl,t,_,_,_,rfl,rfl,aN.of hT.1,w1,c2,_,_,_,rfl,rfl,aN.of w2,rfl,_,_,rfl,rfl,⟨aL (hB 1 1 (by decide) (by decide)) (by decide),aL (hB 2 2 (by decide) (by decide)) (by decide)⟩,_,rfl,t,_,_,_,rfl,rfl,aN.of hT.1,y1,c1,_,_,_,rfl,rfl,aN.of y2,rfl,_,rfl,t,_,_,_,rfl,rfl,aN.of hT.1,w1,c2,_,_,_,rfl,rfl,aN.of w2,rfl,_,_,rfl,rfl,⟨aL (hB 1 2 (by decide) (by decide)) (by decide),aL (hB 2 1 (by decide) (by decide)) (by decide)⟩,_,_,rfl,rfl,_,_,rfl,rfl,⟨aL (hB 0 0 (by decide) (by decide)) (by decide),aL (qF (dz (hB 1 1 (by decide) (by decide)) (hB 2 2 (by decide) (by decide))) (dz (hB 1 2 (by decide) (by decide)) (hB 2 1 (by decide) (by decide)))) (by decide)⟩,?_⟩
 refine⟨_,rfl,t,_,_,_,rfl,rfl,aN.of hT.1,x1,c0,_,_,_,rfl,rfl,aN.of x2,rfl,_,rfl,t,_,_,_,rfl,rfl,aN.of hT.1,y1,c1,_,_,_,rfl,rfl,aN.of y2,rfl,_,rfl,t,_,_,_,rfl,rfl,aN.of hT.1,w1,c2,_,_,_,rfl,rfl,aN.of w2,rfl,_,_,rfl,rfl,⟨aL (hB 1 0 (by decide) (by decide)) (by decide),aL (hB 2 2 (by decide) (by decide)) (by decide)⟩,_,rfl,t,_,_,_,rfl,rfl,aN.of hT.1,y1,c1,_,_,_,rfl,rfl,aN.of y2,rfl,_,rfl,t,_,_,_,rfl,rfl,aN.of hT.1,w1,c2,_,_,_,rfl,rfl,aN.of w2,rfl,_,_,rfl,rfl,⟨aL (hB 1 2 (by decide) (by decide)) (by decide),aL (hB 2 0 (by decide) (by decide)) (by decide)⟩,_,_,rfl,rfl,_,_,rfl,rfl,⟨aL (hB 0 1 (by decide) (by decide)) (by decide),aL (qF (dz (hB 1 0 (by decide) (by decide)) (hB 2 2 (by decide) (by decide))) (dz (hB 1 2 (by decide) (by decide)) (hB 2 0 (by decide) (by decide)))) (by decide)⟩,?_⟩
 refine⟨_,rfl,_,rfl,_,_,rfl,rfl,_,rfl,t,_,_,_,rfl,rfl,aN.of hT.1,x1,c0,_,_,_,rfl,rfl,aN.of x2,rfl,_,rfl,t,_,_,_,rfl,rfl,aN.of hT.1,y1,c1,_,_,_,rfl,rfl,aN.of y2,rfl,_,rfl,t,_,_,_,rfl,rfl,aN.of hT.1,w1,c2,_,_,_,rfl,rfl,aN.of w2,rfl,_,_,rfl,rfl,⟨aL (hB 1 0 (by decide) (by decide)) (by decide),aL (hB 2 1 (by decide) (by decide)) (by decide)⟩,_,rfl,t,_,_,_,rfl,rfl,aN.of hT.1,y1,c1,_,_,_,rfl,rfl,aN.of y2,rfl,_,rfl,t,_,_,_,rfl,rfl,aN.of hT.1,w1,c2,_,_,_,rfl,rfl,aN.of w2,rfl,_,_,rfl,rfl,⟨aL (hB 1 1 (by decide) (by decide)) (by decide),aL (hB 2 0 (by decide) (by decide)) (by decide)⟩,_,_,rfl,rfl,_,_,rfl,rfl,⟨aL (hB 0 2 (by decide) (by decide)) (by decide),aL (qF (dz (hB 1 0 (by decide) (by decide)) (hB 2 1 (by decide) (by decide))) (dz (hB 1 1 (by decide) (by decide)) (hB 2 0 (by decide) (by decide)))) (by decide)⟩,_,_,rfl,rfl,?_⟩
 have e:ent m 0 0*(ent m 1 1*ent m 2 2-ent m 1 2*ent m 2 1) -ent m 0 1*(ent m 1 0*ent m 2 2-ent m 1 2*ent m 2 0)+ent m 0 2*(ent m 1 0*ent m 2 1-ent m 1 1*ent m 2 0)=aK m:=by
  rw[bV]
  grind
 rw[<-e]at q
 exact q
def lR:Sp:=λvs H Q _=> ∃(t:Addr) (bs:List Addr) (m:List (List Int)) (a b:Addr) (x y:Nat->Int),vs=[.ref t,.ref a,.ref b]/\Tab H t bs m/\bC m/\Bd 1000 m/\cP H a x/\cP H b y/\(∀i,i<3->(x i).natAbs<2^1000)/\(∀i,i<3->(y i).natAbs<2^1000)/\Q (.int (aJ m x y)) H
theorem uS(F:fC K mg "_law_pairing" kZ dY)(aG:mg "range"=none):cQ P w K mg base cj 1 "_law_pairing" dY lR:=by
 refine F.ok gi (λvs H Q E h=> ?_) (λf cdv A outer s H vs Q E hr h=> ?_)
 ·obtain⟨t,bs,m,a,b,x,y,rfl,hT,cN,hB,hx,hy,bx,bY,q⟩:=h
  rfl
 obtain⟨t,bs,m,a,b,x,y,rfl,hT,cN,hB,hx,hy,bx,bY,q⟩:=h
 have hu:=hr.units
 refine⟨_,(mR (@ao _ _ _ _ _ (aX (i:=3) gi.nd rfl (Or.inl rfl) ah)
  (@ao _ _ _ _ _ (iX PassesOwn.never rfl (aZ rfl aG (af ah ak)) (bL (i:=4) gi.nd rfl (Or.inl rfl)) (c6 (iX PassesOwn.never rfl (aZ rfl aG (af ah ak)) (bL (i:=5) gi.nd rfl (Or.inl rfl)) (c6 (aX (i:=3) gi.nd rfl (Or.inl rfl) (ay dI (pv 3) (ay bA (ay bA (aE aq (pv 1) (pv 4) (λ_ _=>rfl)) (aE aq (aE aq (pv 0) (pv 4) (λ_ _=>rfl)) (pv 5) (λ_ _=>rfl))) (aE aq (pv 2) (pv 5) (λ_ _=>rfl)))))))))
  (@aM _ _ _ (aO (pv 3)))))),?_⟩
 refine⟨3,rfl,by decide,by decide,fP (n:=3) (λi σ H'=> ∃(oi oj:Option V),H=H'/\σ=[some (.ref t),some (.ref a),some (.ref b),some (.int (preSum (pairF m x y) (i*3))),oi,oj]) ⟨_,_,rfl,rfl⟩ (λi σ H' hi h=> ?_) (λσ H' h=> ?_)⟩
 ·obtain⟨oi,oj,rfl,rfl⟩:=h
  refine⟨3,rfl,by decide,by decide,fP (n:=3) (λj σ H'=> ∃(oj:Option V),H=H'/\σ=[some (.ref t),some (.ref a),some (.ref b),some (.int (preSum (pairF m x y) (i*3+j))),some (.int (0+i)),oj]) ⟨_,rfl,rfl⟩ (λj σ H' hj h=> ?_) (λσ H' h=> ?_)⟩
  ·obtain⟨oj,rfl,rfl⟩:=h
   have e1:(i*3+j)/3=i:=by omega
   have e2:(i*3+j)%3=j:=by omega
   obtain⟨c,row,f1,f2,f3⟩:=nF hT cN hi hj
   simp only[Int.zero_add]
   refine⟨_,rfl,_,rfl,_,rfl,a,_,_,_,rfl,rfl,aN.of hx,jO x hi,_,rfl,_,rfl,t,_,_,_,rfl,rfl,aN.of hT.1,f1,_,rfl,c,_,_,_,rfl,rfl,aN.of f2,f3,_,_,rfl,rfl,⟨aL (bx i hi) (by decide),aL (hB i j hi hj) (by decide)⟩,_,rfl,_,rfl,b,_,_,_,rfl,rfl,aN.of hy,jO y hj,_,_,rfl,rfl,⟨aL (dz (bx i hi) (hB i j hi hj)) (by decide),aL (bY j hj) (by decide)⟩,_,_,rfl,rfl,?_⟩
   refine⟨some (.int j),rfl,?_⟩
   have e:preSum (pairF m x y) (i*3+(j+1))=preSum (pairF m x y) (i*3+j)+x i*ent m i j*y j:=by
    show preSum (pairF m x y) (i*3+j)+pairF m x y (i*3+j)=_
    unfold pairF
    rw[e1,e2]
   rw[e]
   rfl
  ·obtain⟨oj,rfl,rfl⟩:=h
   exact⟨some (.int (0+i)),oj,rfl,by rw[Nat.succ_mul]⟩
 ·obtain⟨oi,oj,rfl,rfl⟩:=h
  exact⟨_,rfl,q⟩
def rT:Sp:=λvs H Q _=> ∃(t:Addr) (bs:List Addr) (m:List (List Int)) (a:Addr) (x:Nat->Int),vs=[.ref t,.ref a]/\Tab H t bs m/\bC m/\Bd 1000 m/\cP H a x/\(∀i,i<3->(x i).natAbs<2^1000)/\Q (.int (aH m x)) H
theorem yc(F:fC K mg "_law_worth" nQ gQ)(bT:cQ P w K mg base cj 1 "_law_pairing" dY lR):cQ P w K mg base cj 2 "_law_worth" gQ rT:=by
 refine F.ok yb (λvs H Q E h=> ?_) (λf cdv A outer s H vs Q E hr h=> ?_)
 ·obtain⟨t,bs,m,a,x,rfl,hT,cN,hB,hx,bx,q⟩:=h
  rfl
 obtain⟨t,bs,m,a,x,rfl,hT,cN,hB,hx,bx,q⟩:=h
 have hu:=hr.units
 refine⟨_,(c6 (aO (ay fm (aR bT hr rfl aQ (af (pv 0) (af (pv 1) (af (pv 1) ak)))) ah))),?_⟩
 exact⟨_,rfl,_,rfl,_,rfl,t,bs,m,a,a,x,x,rfl,hT,cN,hB,hx,hx,bx,bx,_,_,rfl,rfl,⟨by decide,by decide⟩,q⟩
def DM:Sp:=λvs H Q _=> ∃(t1:Addr) (b1:List Addr) (m1:List (List Int)) (t2:Addr) (b2:List Addr) (m2:List (List Int)),vs=[.ref t1,.ref t2]/\Tab H t1 b1 m1/\Tab H t2 b2 m2/\bC m1/\bC m2/\Bd 1000 m1/\Bd 1000 m2/\
 ∀r bs H',au H H'->H r=none->(∀b∈bs,H b=none) ->r∉bs->bs.Nodup->Tab H' r bs (gX m1 m2) ->Q (.ref r) H'
theorem uT(F:fC K mg "_law_carried" k9 fY)(bT:cQ P w K mg base cj 1 "_law_pairing" dY lR):cQ P w K mg base cj 2 "_law_carried" fY DM:=by
 refine F.ok uQ (λvs H Q E h=> ?_) (λf cdv A outer s H vs Q E hr h=> ?_)
 ·obtain⟨t1,b1,m1,t2,b2,m2,rfl,h1,h2,c1,c2,d1,d2,q⟩:=h
  rfl
 obtain⟨t1,b1,m1,t2,b2,m2,rfl,h1,h2,c1,c2,d1,d2,q⟩:=h
 have hu:=hr.units
 refine⟨_,(c6 (aO (dP (N2:=["_law_form_here","_law_by"]) (te:=(iT 1 (vL K (aD 2)) (cg 0) (mQ lR [] E0 (bK (aD 2) (bK (aD 1) (bK (aD 0) gM)))))) rfl (bN (pv 1)) (by kernel_rfl) rfl (λ_ _ _=>by exact dJ (dP (N2:=["_law_one","_law_form_here","_law_by"]) (te:=(mQ lR [] E0 (bK (aD 2) (bK (aD 1) (bK (aD 0) gM))))) rfl (bN (pv 2)) (by kernel_rfl) rfl (λ_ _ _=>by exact dJ (aR bT hr rfl aQ (af (pv 2) (af (pv 1) (af (pv 0) ak)))))))))),?_⟩
 have l2:(b2.map V.ref).length=3:=by rw[List.length_map,<-h2.2.length,c2.1]
 have e:mk3 (λi j=>aJ m1 (ent m2 i) (ent m2 j))=gX m1 m2:=by
  rw[oY (show bC (gX m1 m2)from(show bC (fq (fq m2 m1) (dR m2))from bP _))]
  exact iA λi j hi hj=>(kO m1 m2 hi hj).symm
 refine⟨_,rfl,t2,rfl,⟨_,aN.of h2.1⟩,λD hD=>pe (bU (aN.of h2.1)) l2 hD (λi j=>aJ m1 (ent m2 i) (ent m2 j)) (λi x hi ex H1 Q1 s1 k1=> ?_) (λbs' H1 s1 fr nD nn hT=>q D bs' H1 s1 hD fr nD nn (by rw[<-e];exact hT))⟩
 obtain⟨b,e1,e2,_⟩:=aY (h2.same s1) c2 hi
 have ex':x= .ref b:=by
  have q1:=dU ex
  rw[e1]at q1
  exact(Option.some.inj q1).symm
 subst ex'
 refine⟨_,rfl,t2,rfl,⟨_,aN.of (h2.same s1).1⟩,λD2 pN=>eE (bU (aN.of (h2.same s1).1)) l2 pN (λj=>aJ m1 (ent m2 i) (ent m2 j)) (λj x hj OO H2 Q2 s2 k2=> ?_) (λH2 s2 e2=>k1 D2 H2 pN s2 e2)⟩
 obtain⟨b',f1,f2,_⟩:=aY ((h2.same s1).same s2) c2 hj
 have ex':x= .ref b':=by
  have q1:=dU OO
  rw[f1]at q1
  exact(Option.some.inj q1).symm
 subst ex'
 exact⟨_,rfl,_,rfl,_,rfl,t1,b1,m1,b,b',ent m2 i,ent m2 j,rfl,(h1.same s1).same s2,c1,d1,s2 _ _ e2,f2,λk hk=>d2 i k hi hk,λk hk=>d2 j k hj hk,k2 H2 (au.refl _)⟩
end
end CN
set_option maxHeartbeats 1000000
namespace CN
open PySem L2
section
variable{P:Program}{w:World}{K:PySem.W.Frag}{mg:Str->Option Value}{base:Heap}
def RC(a b c p q r:Int):Prop:=0<a/\a<=b/\b<=c/\c<1000000/\ -a<=p/\p<=a/\ -a<=q/\q<=a/\ -b<=r/\r<=b
def BN:Sp:=λvs H Q _=> ∃(B:Addr) (most:Int),vs=[.ref B,.int most]/\kP H B/\0<=most/\most<=1000/\ ∀a b c p q r t bs H',RC a b c p q r->SB B H H'->H t=none->(∀b∈bs,H b=none) ->t∉bs->bs.Nodup->Tab H' t bs (mS (2*a) (2*b) (2*c) p q r) ->Q (.ref t) H'
theorem qQ(F:fC K mg "_law_drawn_form" iL fK)(aV:cQ P w K mg base cj 1 "_law_take" eN qP):cQ P w K mg base cj 2 "_law_drawn_form" fK BN:=by
 refine F.ok c8 (λvs H Q E h=> ?_) (λf cdv A outer s H vs Q E hr h=> ?_)
 ·obtain⟨B,most,rfl,hb,m0,m1,q⟩:=h
  rfl
 obtain⟨B,most,rfl,hb,m0,m1,q⟩:=h
 have hu:=hr.units
 refine⟨_,(mR (@ao _ _ _ _ _ (aX (i:=2) c8.nd rfl (Or.inl rfl) (ay dI ah (ay bO ah (aR aV hr rfl aQ (af (pv 0) (af ah ak))))))
  (@ao _ _ _ _ _ (aX (i:=3) c8.nd rfl (Or.inl rfl) (ay dI (pv 2) (ay bO ah (aR aV hr rfl aQ (af (pv 0) (af ah ak))))))
  (@ao _ _ _ _ _ (aX (i:=4) c8.nd rfl (Or.inl rfl) (ay dI (pv 3) (ay bO ah (aR aV hr rfl aQ (af (pv 0) (af (ay dI ah (ay fm (ay bO ah (pv 1)) (ay bO (pv 2) (pv 3)))) ak))))))
  (@ao _ _ _ _ _ (aX (i:=5) c8.nd rfl (Or.inl rfl) (ay f6 (aR aV hr rfl aQ (af (pv 0) (af (ay dI (pv 2) ah) ak))) (ay fm (pv 2) ah)))
  (@ao _ _ _ _ _ (aX (i:=6) c8.nd rfl (Or.inl rfl) (ay f6 (aR aV hr rfl aQ (af (pv 0) (af (ay dI (pv 2) ah) ak))) (ay fm (pv 2) ah)))
  (@ao _ _ _ _ _ (aX (i:=7) c8.nd rfl (Or.inl rfl) (ay f6 (aR aV hr rfl aQ (af (pv 0) (af (ay dI (pv 3) ah) ak))) (ay fm (pv 3) ah)))
  (@aM _ _ _ (aO (fQ (af (fQ (af (pv 2) (af (pv 5) (af (pv 6) ak)))) (af (fQ (af (pv 5) (af (pv 3) (af (pv 7) ak)))) (af (fQ (af (pv 6) (af (pv 7) (af (pv 4) ak)))) ak))))))))))))),?_⟩
 refine⟨_,rfl,B,_,rfl,hb,by decide,by decide,λd0 H1 l0 u0 s1=>⟨_,_,rfl,rfl,.inl ⟨by decide,by decide⟩,_,_,rfl,rfl,?_⟩⟩
 obtain⟨a,ea,a1,a4⟩:∃a,2+2*d0=2*a/\0<a/\a<=4:=⟨1+d0,by omega,by omega,by omega⟩
 simp only[ea]
 refine⟨_,rfl,_,rfl,B,_,rfl,s1.2,by decide,by decide,λd1 H2 l1 u1 s2=>⟨_,_,rfl,rfl,.inl ⟨by decide,by decide⟩,_,_,rfl,rfl,?_⟩⟩
 obtain⟨b,eb,ab,b9⟩:∃b,2*a+2*d1=2*b/\a<=b/\b<=9:=⟨a+d1,by omega,by omega,by omega⟩
 simp only[eb]
 have pab:0<2*a*(2*b):=Int.mul_pos (by omega) (by omega)
 have lab:2*a*(2*b)<=8*18:=Int.mul_le_mul (by omega) (by omega) (by omega) (by decide)
 have g0:0<=2*most/(2*a*(2*b)):=Int.ediv_nonneg (by omega) (by omega)
 have g1:2*most/(2*a*(2*b))<=2*most:=Int.ediv_le_self _ (by omega)
 refine⟨_,rfl,_,rfl,_,rfl,_,_,rfl,rfl,.inl ⟨by decide,by decide⟩,_,rfl,_,rfl,_,_,rfl,rfl,.inl ⟨by omega,by omega⟩,_,_,rfl,rfl,⟨pab,by omega⟩,_,_,rfl,rfl,B,_,rfl,s2.2,by omega,log2_small (by omega) (by omega),λd2 H3 l2 u2 s3=>⟨_,_,rfl,rfl,.inl ⟨by decide,by decide⟩,_,_,rfl,rfl,?_⟩⟩
 obtain⟨c,ec,bc,c9⟩:∃c,2*b+2*d2=2*c/\b<=c/\c<1000000:=⟨b+d2,by omega,by omega,by omega⟩
 simp only[ec]
 refine⟨_,rfl,_,rfl,_,_,rfl,rfl,B,_,rfl,s3.2,by omega,log2_small (by omega) (by omega),λd3 H4 l3 u3 s4=>⟨_,rfl,_,_,rfl,rfl,⟨by decide,by decide⟩,_,_,rfl,rfl,?_⟩⟩
 refine⟨_,rfl,_,rfl,_,_,rfl,rfl,B,_,rfl,s4.2,by omega,log2_small (by omega) (by omega),λd4 H5 l4 u4 s5=>⟨_,rfl,_,_,rfl,rfl,⟨by decide,by decide⟩,_,_,rfl,rfl,?_⟩⟩
 refine⟨_,rfl,_,rfl,_,_,rfl,rfl,B,_,rfl,s5.2,by omega,log2_small (by omega) (by omega),λd5 H6 l5 u5 s6=>⟨_,rfl,_,_,rfl,rfl,⟨by decide,by decide⟩,_,_,rfl,rfl,?_⟩⟩
 obtain⟨p,ep,hp,xR⟩:∃p,d3-2*a/2=p/\ -a<=p/\p<=a:=⟨_,rfl,by omega,by omega⟩
 obtain⟨qq,eq,hq,hq'⟩:∃p,d4-2*a/2=p/\ -a<=p/\p<=a:=⟨_,rfl,by omega,by omega⟩
 obtain⟨r,er,hr',WU⟩:∃p,d5-2*b/2=p/\ -b<=p/\p<=b:=⟨_,rfl,by omega,by omega⟩
 simp only[ep,eq,er]
 have CS:=s1.trans (s2.trans (s3.trans (s4.trans (s5.trans s6))))
 refine⟨_,rfl,_,rfl,_,rfl,(by show 3<=sizeLine;decide),λp0 h0=>⟨_,rfl,_,rfl,_,rfl,(by show 3<=sizeLine;decide),λp1 h1=>⟨_,rfl,_,rfl,_,rfl,(by show 3<=sizeLine;decide),λp2 h2=>⟨(by show 3<=sizeLine;decide),λt ht=> ?_⟩⟩⟩⟩
 have v0:=au.up (o:= .lst [.int (2*a),.int p,.int qq]) h0
 have v1:=au.up (o:= .lst [.int p,.int (2*b),.int r]) h1
 have v2:=au.up (o:= .lst [.int qq,.int r,.int (2*c)]) h2
 have v3:=au.up (o:= .lst [.ref p0,.ref p1,.ref p2]) ht
 have T:Tab _ t [p0,p1,p2] (mS (2*a) (2*b) (2*c) p qq r):=nH _ aA (v3 _ _ (v2 _ _ (v1 _ _ aA))) (v3 _ _ (v2 _ _ aA)) (v3 _ _ aA)
 obtain⟨f1,f2,f3⟩:=Dr h0 h1 h2 ht
 exact q a b c p qq r t _ _ ⟨a1,ab,bc,c9,hp,xR,hq,hq',hr',WU⟩ (CS.trans (SB.of CS.2 (v0.trans (v1.trans (v2.trans v3))))) (CS.gone f1) (λx hx=>CS.gone (f2 x hx)) f3 (Kp h0 h1 h2) T
def BO:Sp:=λvs H Q _=> ∃(t:Addr) (bs:List Addr) (m:List (List Int)),vs=[.ref t]/\Tab H t bs m/\bC m/\Bd 1000 m/\Q (.bl (decide (ent m 0 1*ent m 0 1<ent m 0 0*ent m 1 1) && decide (0<aK m))) H
theorem tH(F:fC K mg "_law_is_above" jS gk)(bw:cQ P w K mg base cj 1 "_law_determinant" cI wB):cQ P w K mg base cj 2 "_law_is_above" gk BO:=by
 refine F.ok tG (λvs H Q E h=> ?_) (λf cdv A outer s H vs Q E hr h=> ?_)
 ·obtain⟨t,bs,m,rfl,hT,cN,hB,q⟩:=h
  rfl
 obtain⟨t,bs,m,rfl,hT,cN,hB,q⟩:=h
 have hu:=hr.units
 refine⟨_,(c6 (aO (qy (f7 yI (ay bA (aE aq (aE aq (pv 0) ah (λ_ _=>rfl)) ah (λ_ _=>rfl)) (aE aq (aE aq (pv 0) ah (λ_ _=>rfl)) ah (λ_ _=>rfl))) (ay bA (aE aq (aE aq (pv 0) ah (λ_ _=>rfl)) ah (λ_ _=>rfl)) (aE aq (aE aq (pv 0) ah (λ_ _=>rfl)) ah (λ_ _=>rfl))) (bf _)) (sD (f7 yI (aR bw hr rfl aQ (af (pv 0) ak)) ah (bf _)))))),?_⟩
 obtain⟨c0,x1,x2,_⟩:=aY hT cN (i:=0) (by decide)
 obtain⟨c1,y1,y2,_⟩:=aY hT cN (i:=1) (by decide)
 obtain⟨c2,w1,w2,_⟩:=aY hT cN (i:=2) (by decide)
 refine⟨_,rfl,t,_,_,_,rfl,rfl,aN.of hT.1,x1,c0,_,_,_,rfl,rfl,aN.of x2,rfl,_,rfl,t,_,_,_,rfl,rfl,aN.of hT.1,y1,c1,_,_,_,rfl,rfl,aN.of y2,rfl,_,_,rfl,rfl,⟨aL (hB 0 0 (by decide) (by decide)) (by decide),aL (hB 1 1 (by decide) (by decide)) (by decide)⟩,_,rfl,t,_,_,_,rfl,rfl,aN.of hT.1,x1,c0,_,_,_,rfl,rfl,aN.of x2,rfl,_,rfl,t,_,_,_,rfl,rfl,aN.of hT.1,x1,c0,_,_,_,rfl,rfl,aN.of x2,rfl,_,_,rfl,rfl,⟨aL (hB 0 1 (by decide) (by decide)) (by decide),aL (hB 0 1 (by decide) (by decide)) (by decide)⟩,_,_,rfl,rfl,_,rfl,oS (λd=> ?_) (λd=> ?_)⟩
 ·have d:ent m 0 1*ent m 0 1<ent m 0 0*ent m 1 1:=of_decide_eq_true d
  rw[decide_eq_true d,Bool.true_and]at q
  exact⟨_,rfl,t,bs,m,rfl,hT,cN,hB,_,_,rfl,rfl,q⟩
 ·have d:¬ent m 0 1*ent m 0 1<ent m 0 0*ent m 1 1:=λz=>d (decide_eq_true z)
  rw[decide_eq_false d,Bool.false_and]at q
  exact q
def zd:Sp:=λvs H Q _=> ∃(B:Addr) (most:Int),vs=[.ref B,.int most]/\kP H B/\4<=most/\most<=1000/\ ∀m t bs H',bC m->Bd 30 m->bI m->dQ m=true->aK m/2<=most->SB B H H'->H t=none->(∀b∈bs,H b=none) ->t∉bs->bs.Nodup->Tab H' t bs m->Q (.ref t) H'
theorem uU(F:fC K mg "_law_reduced" lg gG)(aG:mg "range"=none)(iO:cQ P w K mg base cj 2 "_law_drawn_form" fK BN)(jU:cQ P w K mg base cj 2 "_law_is_above" gk BO)(bw:cQ P w K mg base cj 2 "_law_determinant" cI wB)(aV:cQ P w K mg base cj 2 "_law_take" eN qP):cQ P w K mg base cj 3 "_law_reduced" gG zd:=by
 refine F.ok ig (λvs H Q E h=> ?_) (λf cdv A outer s H vs Q E hr h=> ?_)
 ·obtain⟨B,most,rfl,hb,m0,m1,q⟩:=h
  rfl
 obtain⟨B,most,rfl,hb,m0,m1,q⟩:=h
 have hu:=hr.units
 refine⟨_,(mR (@ao _ _ _ _ _ (iX PassesOwn.never rfl (aZ rfl aG (af ah ak)) (bL (i:=2) ig.nd rfl (Or.inl rfl)) (mR (@ao _ _ _ _ _ (aX (i:=3) ig.nd rfl (Or.inl rfl) (aR iO hr rfl aQ (af (pv 0) (af (pv 1) ak))))
  (@aM _ _ _ (cV (PW.pt (Qy (gv (aR jU hr rfl aQ (af (pv 3) ak))) (Nm (bg Fc (aR bw hr rfl aQ (af (pv 3) ak)) (ay bO ah (pv 1)) (bf _))))) (@aM _ _ _ (aO (pv 3))) cU)))))
  (@ao _ _ _ _ _ (aX (i:=4) ig.nd rfl (Or.inl rfl) (ay dI ah (ay bO ah (aR aV hr rfl aQ (af (pv 0) (af (ay fm (pv 1) ah) ak))))))
  (Ko (kN (bR (kN (bR eV (bR eV (bR eV kM (by kernel_rfl)) (by kernel_rfl)) (by kernel_rfl))) (bR (kN (bR eV (bR eV (bR eV kM (by kernel_rfl)) (by kernel_rfl)) (by kernel_rfl))) (bR (kN (bR eV (bR eV (bR (fe (pv 4)) kM (by kernel_rfl)) (by kernel_rfl)) (by kernel_rfl))) kM (by kernel_rfl)) (by kernel_rfl)) (by kernel_rfl))))))),?_⟩
 refine⟨12,rfl,by decide,by decide,fP (n:=12) (λi σ H'=> ∃(o2 o3:Option V),SB B H H'/\σ=[some (.ref B),some (.int most),o2,o3,none]) ⟨_,_,SB.refl hb,rfl⟩ (λi σ H1 hi h=> ?_) (λσ H1 h=> ?_)⟩
 ·obtain⟨o2,o3,s1,rfl⟩:=h
  refine⟨_,rfl,_,rfl,B,most,rfl,s1.2,by omega,m1,λa b c p qq r t bs H2 hD s2 ft fb nt nn T=> ?_⟩
  obtain⟨i1,i2,i3,i4,i5,i6,i7,i8,i9,i10⟩:=hD
  have bM:Bd 30 (mS (2*a) (2*b) (2*c) p qq r):=FG (by omega) (by omega) (by omega) (by omega) (by omega) (by omega)
  have s12:=s1.trans s2
  refine⟨_,rfl,t,bs,_,rfl,T,bP _,bM.mono (by decide),_,rfl,?_⟩
  refine Ro ⟨_,_,s12,rfl⟩ (λca hE=>⟨_,rfl,t,bs,_,rfl,T,bP _,bM.mono (by decide),_,rfl,_,_,rfl,rfl,.inl ⟨by decide,by decide⟩,_,_,rfl,rfl,_,rfl,oS (λcd=> ?_) (λ_=>hE)⟩)
  rw[Bool.and_eq_true]at ca
  have hd:=of_decide_eq_true ca.2
  have cd:aK (mS (2*a) (2*b) (2*c) p qq r)<=2*most:=of_decide_eq_true cd
  exact⟨_,rfl,q (mS (2*a) (2*b) (2*c) p qq r) t bs H2 (bP _) bM (sM _ _ _ _ _ _) (v5 i1 i2 i5 i6 hd) (by omega) s12 (s1.gone ft) (λx hx=>s1.gone (fb x hx)) nt nn T⟩
 ·obtain⟨o2,o3,s1,rfl⟩:=h
  refine⟨_,rfl,_,rfl,_,_,rfl,rfl,⟨by decide,by decide⟩,B,_,rfl,s1.2,by omega,log2_small (by omega) (by omega),λd H2 l0 u0 s2=>⟨_,_,rfl,rfl,.inl ⟨by decide,by decide⟩,_,_,rfl,rfl,?_⟩⟩
  obtain⟨c,ec,c1,c2⟩:∃c,2+2*d=2*c/\0<c/\4*c<=most:=⟨1+d,by omega,by omega,by omega⟩
  simp only[ec]
  have s12:=s1.trans s2
  refine⟨(by show 3<=sizeLine;decide),λp0 h0=>⟨(by show 3<=sizeLine;decide),λp1 h1=>⟨_,rfl,(by show 3<=sizeLine;decide),λp2 h2=>⟨(by show 3<=sizeLine;decide),λt ht=> ?_⟩⟩⟩⟩
  have v0:=au.up (o:= .lst [.int (2*1),.int 0,.int 0]) h0
  have v1:=au.up (o:= .lst [.int 0,.int (2*1),.int 0]) h1
  have v2:=au.up (o:= .lst [.int 0,.int 0,.int (2*c)]) h2
  have v3:=au.up (o:= .lst [.ref p0,.ref p1,.ref p2]) ht
  have T:Tab _ t [p0,p1,p2] (mS (2*1) (2*1) (2*c) 0 0 0):=nH _ aA (v3 _ _ (v2 _ _ (v1 _ _ aA))) (v3 _ _ (v2 _ _ aA)) (v3 _ _ aA)
  obtain⟨f1,f2,f3⟩:=Dr h0 h1 h2 ht
  have ed:aK (mS (2*1) (2*1) (2*c) 0 0 0)=8*c:=by
   rw[Km]
   omega
  exact q (mS (2*1) (2*1) (2*c) 0 0 0) t _ _ (bP _) (FG (by omega) (by omega) (by omega) (by omega) (by omega) (by omega)) (sM 1 1 c 0 0 0) (v5 (by decide) (by decide) (by decide) (by decide) (by rw[ed];omega)) (by rw[ed];omega) (s12.trans (SB.of s12.2 (v0.trans (v1.trans (v2.trans v3))))) (s12.gone f1) (λx hx=>s12.gone (f2 x hx)) f3 (Kp h0 h1 h2) T
end
end CN
set_option maxHeartbeats 1000000
namespace CN
open PySem L2
section
variable{P:Program}{w:World}{K:PySem.W.Frag}{mg:Str->Option Value}{base:Heap}
def wC:Sp:=λvs H Q _=> ∃(B:Addr) (Qe:Int),vs=[.ref B,.int Qe]/\kP H B/\0<=Qe/\Qe<=10000/\ ∀m t bs H',bC m->Bd 100 m->aK m=1->SB B H H'->H t=none->(∀b∈bs,H b=none) ->t∉bs->Tab H' t bs m->Q (.ref t) H'
theorem ye(F:fC K mg "_law_basis" nT gR)(aG:mg "range"=none)(oH:mg "zip"=none)(lS:mg "int"=none)(aV:cQ P w K mg base cj 1 "_law_take" eN qP):cQ P w K mg base cj 2 "_law_basis" gR wC:=by
 refine F.ok gq (λvs H Q E h=> ?_) (λf cdv A outer s H vs Q E hr h=> ?_)
 ·obtain⟨B,Qe,rfl,hb,f0,f1,K0⟩:=h
  rfl
 obtain⟨B,Qe,rfl,hb,f0,f1,K0⟩:=h
 have hu:=hr.units
 refine toF ?_
 refine⟨_,(Kn (i:=2) gq.nd rfl (Or.inl rfl) (kN (bR (kN (bR eV (bR eV (bR eV kM (by kernel_rfl)) (by kernel_rfl)) (by kernel_rfl))) (bR (kN (bR eV (bR eV (bR eV kM (by kernel_rfl)) (by kernel_rfl)) (by kernel_rfl))) (bR (kN (bR eV (bR eV (bR eV kM (by kernel_rfl)) (by kernel_rfl)) (by kernel_rfl))) kM (by kernel_rfl)) (by kernel_rfl)) (by kernel_rfl))) (by kernel_rfl) (by first|exact .inl rfl|exact .inr rfl)
  (@ao _ _ _ _ _ (iX PassesOwn.never rfl (aZ rfl aG (af (aR aV hr rfl aQ (af (pv 0) (af (aE aq (fQ (af ah (af ah ak))) (iz p7 rfl lS PyProof.Rows.boot_int (af (f7 yI (pv 1) ah (bf _)) ak)) (λ_ _=>rfl)) ak))) ak)) (bL (i:=3) gq.nd rfl (Or.inl rfl)) (mR (@ao _ _ _ _ _ (aX (i:=4) gq.nd rfl (Or.inl rfl) (aR aV hr rfl aQ (af (pv 0) (af ah ak))))
  (@ao _ _ _ _ _ (aX (i:=5) gq.nd rfl (Or.inl rfl) (ay cR (ay dI (ay dI (pv 4) ah) (aR aV hr rfl aQ (af (pv 0) (af ah ak)))) ah))
  (@ao _ _ _ _ _ (aX (i:=6) gq.nd rfl (Or.inr rfl) (ay f6 (aR aV hr rfl aQ (af (pv 0) (af (ay dI (ay bO ah (pv 1)) ah) ak))) (pv 1)))
  (@ao _ _ _ _ _ (nA (Kg (N2:=["_law_bag_here","_law_far","_law_made_here","_law_turn","_law_i","_law_j","_law_times"]) (te:=(c7 (CO λi j=> .int (i+j)) (aD 0) (c7 (rI iH λi j=> .int (i*j)) (aD 8) (aD 1)))) rfl (Aa rfl oH (af (aE aq (pv 2) (pv 4) (λ_ _=>rfl)) (af (aE aq (pv 2) (pv 5) (λ_ _=>rfl)) ak))) (by kernel_rfl) rfl (λ_ _ _=>by exact dJ (ay dI (pv 0) (ay bA (pv 8) (pv 1))))) (qz (pv 2) (pv 4) set_list))
  (@aM _ _ _ (cV (bg j7 (aR aV hr rfl aQ (af (pv 0) (af ah ak))) ah (bf _)) (@aM _ _ _ (nA (sH (af (aE aq (pv 2) (pv 5) (λ_ _=>rfl)) (af (dP (N2:=["_law_bag_here","_law_far","_law_made_here","_law_turn","_law_i","_law_j","_law_times"]) (te:=(c7 (CO λi j=> .int (i-j)) (tC (.int 0)) (aD 0))) rfl (bN (aE aq (pv 2) (pv 4) (λ_ _=>rfl))) (by kernel_rfl) rfl (λ_ _ _=>by exact dJ (ay f6 ah (pv 0)))) ak))) (zM rfl (cz (qz (pv 2) (pv 4) set_list) (cz (qz (pv 2) (pv 5) set_list) kg))))) cU))))))))
  (@aM _ _ _ (aO (pv 2))))),?_⟩
 refine⟨(by show 3<=sizeLine;decide),λp0 g0=>⟨(by show 3<=sizeLine;decide),λp1 g1=>⟨(by show 3<=sizeLine;decide),λp2 g2=>⟨(by show 3<=sizeLine;decide),λD hD=> ?_⟩⟩⟩⟩
 have u0:=au.up (o:= .lst [.int 1,.int 0,.int 0]) g0
 have u1:=au.up (o:= .lst [.int 0,.int 1,.int 0]) g1
 have u2:=au.up (o:= .lst [.int 0,.int 0,.int 1]) g2
 have u3:=au.up (o:= .lst [.ref p0,.ref p1,.ref p2]) hD
 have T:Tab _ D [p0,p1,p2] (kL 1):=nH _ aA (u3 _ _ (u2 _ _ (u1 _ _ aA))) (u3 _ _ (u2 _ _ aA)) (u3 _ _ aA)
 have us:=u0.trans (u1.trans (u2.trans u3))
 obtain⟨fD,fb,nD⟩:=Dr g0 g1 g2 hD
 have RD:D≠B:=hb.ne fD
 have nB:∀bs:List Addr,(∀b∈bs,H b=none) ->B∉bs:=λbs f z=>hb.ne (f B z) rfl
 refine⟨_,rfl,(by show 2<=sizeLine;decide),λLx hL=> ?_⟩
 have u4:=au.up (o:= .lst [.int 6,.int 4]) hL
 refine⟨_,rfl,_,_,rfl,rfl,.inr ⟨_,rfl,?_⟩⟩
 obtain⟨v,hv,hv2⟩:=at2 (x:= .int 6) (y:= .int 4) (i:=if decide ((3:Int)<Qe)=true then 1 else 0) (by split<;>decide) (by split<;>decide)
 obtain⟨w,rfl,w0,w6⟩:∃w:Int,v= .int w/\0<w/\w<=6:=by
  rcases hv2 with rfl|rfl
  ·exact⟨_,rfl,by decide,by decide⟩
  ·exact⟨_,rfl,by decide,by decide⟩
 have YH:=SB.of hb (us.trans u4)
 refine⟨Lx,_,_,_,rfl,rfl,aN.of aA,hv,B,w,rfl,YH.2,w0,log2_small (by omega) (by omega),λd H2 l0 d6 s2=> ?_⟩
 have T2:=(T.same u4).sb s2 RD (nB _ fb)
 have Vt:=YH.trans s2
 refine⟨_,rfl,by omega,by omega,fP (n:=d.toNat) (λk σ H'=> ∃(o3 o4 o5 o6:Option V) (bs:List Addr) (m:List (List Int)),σ=[some (.ref B),some (.int Qe),some (.ref D),o3,o4,o5,o6]/\SB B H H'/\Tab H' D bs m/\bC m/\Bd (15*k+1) m/\aK m=1/\(∀b∈bs,H b=none)/\D∉bs) ⟨_,_,_,_,_,_,rfl,Vt,T2,bP _,λi j hi hj=> ?_,rfl,fb,nD⟩ (λk σ H1 hk h=> ?_) (λσ H1 h=> ?_)⟩
 ·rw[kL,cy _ hi hj]
  split<;>decide
 ·obtain⟨o3,o4,o5,o6,bs,m,rfl,s1,T1,nq,dm,RE,fb,nD⟩:=h
  have nBb:=nB bs fb
  refine⟨_,rfl,B,_,rfl,s1.2,by decide,by decide,λd1 H2 l1 u1 s2=> ?_⟩
  refine⟨_,rfl,_,_,rfl,rfl,_,rfl,B,_,rfl,s2.2,by decide,by decide,λd2 H3 l2 u2 s3=>⟨_,_,rfl,rfl,_,_,rfl,rfl,(by show(0:Int)<3;decide),?_⟩⟩
  refine⟨_,rfl,_,rfl,_,_,rfl,rfl,.inl ⟨by decide,by decide⟩,_,_,rfl,rfl,B,_,rfl,s3.2,by omega,log2_small (by omega) (by omega),λd3 H4 l3 u3 s4=>⟨_,rfl,_,_,rfl,rfl,?_⟩⟩
  obtain⟨i,ei,hi⟩:∃i:Nat,d1=(i:Int)/\i<3:=⟨d1.toNat,by omega,by omega⟩
  obtain⟨j,ej,hj⟩:∃j:Nat,((i:Int)+1+d2)%3=(j:Int)/\j<3:=⟨(((i:Int)+1+d2)%3).toNat,by omega,by omega⟩
  have hij:i≠j:=by omega
  obtain⟨o,eo,ho⟩:∃o:Int,o=d3-Qe/\o.natAbs<2^14:=⟨_,rfl,by omega⟩
  simp only[ei,ej,<-eo]
  have UA:=s2.trans (s3.trans s4)
  have T4:=T1.sb UA RD nBb
  have wD:=s1.trans UA
  obtain⟨bi,x1,x2,x3⟩:=aY T4 nq hi
  obtain⟨bj,y1,y2,y3⟩:=aY T4 nq hj
  refine⟨_,rfl,_,rfl,D,_,_,_,rfl,rfl,aN.of T4.1,x1,_,rfl,_,rfl,D,_,_,_,rfl,rfl,aN.of T4.1,y1,bi,bj,_,_,rfl,aN.of x2,aN.of y2,λR hR=> ?_⟩
  have bk:∀s,s<3->(ent m i s+o*ent m j s).natAbs<2^(15*(k+1)+1):=λs hs=>aL (oZ (aL (dm i s hi hs) (show 15*k+1<=14+(15*k+1)by omega)) (dz ho (dm j s hj hs))) (by omega)
  have k6:k<6:=by omega
  refine By (aN.of x2) (aN.of y2) rfl (by show 3<=sizeLine;decide) hR (λu v=>match u,v with| .int i,.int j=> .int (i+o*j)|_,_=> .gu) (λn u v eu ev G Q' sm kk=> ?_) (λH5 s5 e5=> ?_)
  ·have hn:n<3:=(List.getElem?_eq_some_iff.mp eu).1
   rcases aC hn with rfl|rfl|rfl<;>cases eu<;>cases ev<;>exact⟨_,rfl,_,rfl,_,rfl,_,_,rfl,rfl,⟨aL ho (by decide),aL (dm j _ hj (by decide)) (by omega)⟩,_,_,rfl,rfl,kk⟩
  have nR:R≠D:=Ne.symm (d8 T4.1 hR)
  have l3:bs.length=3:=by rw[<-T4.2.length,nq.1]
  have fR:H R=none:=wD.gone hR
  refine⟨_,rfl,_,rfl,D,_,_,i,rfl,rfl,s5 _ _ T4.1,(by rw[List.length_map,l3];rcases aC hi with rfl|rfl|rfl<;>rfl),?_⟩
  have T5:=Ac (g:=λs=>ent m i s+o*ent m j s) (T4.same s5) nq hi e5 nR nD
  have LS:SB B H _:=(wD.trans (SB.of wD.2 s5)).Rq (o:= .lst ((bs.map V.ref).set i (.ref R))) fD RD
  have Sn:∀b∈bs.set i R,H b=none:=λb hb=>by
   rcases List.mem_or_eq_of_mem_set hb with z|z
   ·exact fb b z
   ·rw[z];exact fR
  have UB:D∉bs.set i R:=λhb=>by
   rcases List.mem_or_eq_of_mem_set hb with z|z
   ·exact nD z
   ·exact nR z.symm
  have UC:Bd (15*(k+1)+1) (xZ m i λs=>ent m i s+o*ent m j s):=λr s hr hs=>by
   rw[cY m _ hr hs]
   split
   ·exact bk s hs
   ·exact aL (dm r s hr hs) (by omega)
  have RG:=(NR m hi hj hij o).trans RE
  have c5:bC (xZ m i λs=>ent m i s+o*ent m j s):=bP _
  generalize xZ m i (λs=>ent m i s+o*ent m j s)=M at T5 UC RG c5
  generalize bs.set i R=bS at T5 Sn UB
  refine⟨_,rfl,B,_,rfl,LS.2,by decide,by decide,λd4 H6 l4 u4 s6=>⟨rfl,_,rfl,oS (λ_=> ?_) (λ_=> ?_)⟩⟩
  ·have T6:=T5.sb s6 RD (nB _ Sn)
   have CS:=LS.trans s6
   obtain⟨ai,q1,q2,q3⟩:=aY T6 c5 hi
   obtain⟨aj,r1,r2,r3⟩:=aY T6 c5 hj
   refine⟨_,rfl,_,rfl,D,_,_,_,rfl,rfl,aN.of T6.1,r1,_,rfl,_,rfl,D,_,_,_,rfl,rfl,aN.of T6.1,q1,ai,rfl,⟨_,aN.of q2⟩,λR2 WV=> ?_⟩
   refine eE (bU (aN.of q2)) rfl WV (λs=>0-ent M i s) (λn y hn ey G Q' sm kk=> ?_) (λH7 s7 e7=> ?_)
   ·rcases aC hn with rfl|rfl|rfl<;>cases ey<;>exact⟨_,rfl,_,_,rfl,rfl,kk G (au.refl _)⟩
   refine⟨(by show 2<=sizeLine;decide),λPt hP=> ?_⟩
   have u8:=au.up (o:= .tup [.ref aj,.ref R2]) hP
   have Sq:=s7.trans u8
   have T8:=T6.same Sq
   have l5:bS.length=3:=by rw[<-T6.2.length,c5.1]
   have YI:aj≠D:=λz=>UB (by rw[<-z];exact r3)
   have T9:=Ac (g:=λs=>ent M j s) T8 c5 hi (Sq _ _ r2) YI UB
   have YJ:D∉bS.set i aj:=λhb=>by
    rcases List.mem_or_eq_of_mem_set hb with z|z
    ·exact UB z
    ·exact YI z.symm
   have WW:R2≠D:=Ne.symm (d8 T6.1 WV)
   have e9:upd (upd H7 Pt (.tup [.ref aj,.ref R2])) D (.lst ((bS.map V.ref).set i (.ref aj))) R2=some (.lst [.int (0-ent M i 0),.int (0-ent M i 1),.int (0-ent M i 2)]):=by rw[aF WW];exact u8 _ _ e7
   have Ta:=Ac (g:=λs=>0-ent M i s) T9 (bP _) hj e9 WW YJ
   have ix:∀(r:Nat) (l:List V),r<3->l.length=3->Nz l.length (r:Int)=some r:=λr l hr hl=>by rw[hl];rcases aC hr with rfl|rfl|rfl<;>rfl
   refine⟨Pt,_,rfl,p6.of aA,rfl,_,_,rfl,_,rfl,_,rfl,D,_,_,i,rfl,rfl,T8.1,ix i _ hi (by rw[List.length_map,l5]),_,_,rfl,_,rfl,_,rfl,D,_,_,j,rfl,rfl,aA,ix j _ hj (by rw[List.length_set,List.length_map,l5]),rfl,?_⟩
   have sa:SB B H _:=((CS.trans (SB.of CS.2 Sq)).Rq (o:= .lst ((bS.map V.ref).set i (.ref aj))) fD RD).Rq (o:= .lst (((bS.map V.ref).set i (.ref aj)).set j (.ref R2))) fD RD
   have ea:((bS.set i aj).map V.ref).set j (.ref R2)=((bS.map V.ref).set i (.ref aj)).set j (.ref R2):=by rw[List.map_set]
   refine⟨_,_,_,_,(bS.set i aj).set j R2,xZ (xZ M i λs=>ent M j s) j λs=>0-ent M i s,rfl,sa,(by rw[<-ea];exact Ta),bP _,λr s hr hs=> ?_,(Kw M hi hj hij).trans RG,λb hb=> ?_,λhb=> ?_⟩
   ·rw[cY _ _ hr hs]
    split
    ·have:=UC i s hi hs
     show(0-ent M i s).natAbs<_
     rw[Int.zero_sub,Int.natAbs_neg]
     exact this
    ·rw[cY M _ hr hs]
     split
     ·exact UC j s hj hs
     ·exact UC r s hr hs
   ·rcases List.mem_or_eq_of_mem_set hb with z|z
    ·rcases List.mem_or_eq_of_mem_set z with y|y
     ·exact Sn b y
     ·rw[y];exact Sn aj r3
    ·rw[z];exact CS.gone WV
   ·rcases List.mem_or_eq_of_mem_set hb with z|z
    ·exact YJ z
    ·exact WW z.symm
  ·exact⟨_,_,_,_,_,M,rfl,LS.trans s6,T5.sb s6 RD (nB _ Sn),c5,UC,RG,Sn,UB⟩
 ·obtain⟨o3,o4,o5,o6,bs,m,rfl,s1,T1,nq,dm,RE,fb,nD⟩:=h
  exact⟨_,rfl,K0 m D bs H1 nq (dm.mono (by omega)) RE s1 fD fb nD T1⟩
def FU:Sp:=λvs H Q _=> ∃(B:Addr) (most:Int),vs=[.ref B,.int most]/\kP H B/\4<=most/\most<=1000/\ ∀m t bs H',bC m->Bd 440 m->bI m->dQ m=true->aK m/2<=most->SB B H H'->H t=none->(∀b∈bs,H b=none) ->t∉bs->bs.Nodup->Tab H' t bs m->Q (.ref t) H'
theorem Am(F:fC K mg "_law_form" pI jF)(ly:cQ P w K mg base cj 3 "_law_reduced" gG zd)(aV:cQ P w K mg base cj 3 "_law_take" eN qP)(eY:cQ P w K mg base cj 3 "_law_carried" fY DM)(f9:cQ P w K mg base cj 3 "_law_basis" gR wC):cQ P w K mg base cj 4 "_law_form" jF FU:=by
 refine F.ok nU (λvs H Q E h=> ?_) (λf cdv A outer s H vs Q E hr h=> ?_)
 ·obtain⟨B,most,rfl,hb,m0,m1,q⟩:=h
  rfl
 obtain⟨B,most,rfl,hb,m0,m1,q⟩:=h
 have hu:=hr.units
 refine⟨_,(mR (@ao _ _ _ _ _ (aX (i:=2) nU.nd rfl (Or.inl rfl) (aR ly hr rfl aQ (af (pv 0) (af (pv 1) ak))))
  (@ao _ _ _ _ _ (aX (i:=3) nU.nd rfl (Or.inl rfl) (aR aV hr rfl aQ (af (pv 0) (af ah ak))))
  (@ao _ _ _ _ _ (cV (bg j7 (pv 3) ah (bf _)) (@aM _ _ _ (aO (aR eY hr rfl aQ (af (pv 2) (af (aR f9 hr rfl aQ (af (pv 0) (af (ay Jy ah ah) ak))) ak))))) cU)
  (@ao _ _ _ _ _ (cV (bg PJ (pv 3) ah (bf _)) (@aM _ _ _ (aO (aR eY hr rfl aQ (af (pv 2) (af (aR f9 hr rfl aQ (af (pv 0) (af ah ak))) ak))))) cU)
  (@aM _ _ _ (aO (pv 2)))))))),?_⟩
 refine⟨_,rfl,_,rfl,B,most,rfl,hb,m0,m1,λm t bs H1 nq dm ev ab le s1 ft fb nt nn T=> ?_⟩
 have RH:t≠B:=hb.ne ft
 have RJ:B∉bs:=λz=>hb.ne (fb B z) rfl
 refine⟨_,rfl,B,_,rfl,s1.2,by decide,by decide,λd H2 l0 u0 s2=> ?_⟩
 have T2:=T.sb s2 RH RJ
 have s12:=s1.trans s2
 refine⟨_,rfl,rfl,_,rfl,oS (λ_=> ?_) (λ_=> ?_)⟩
 ·refine⟨_,rfl,_,rfl,_,_,rfl,rfl,⟨by decide,by decide,by decide⟩,B,_,rfl,s12.2,by decide,by decide,λmb tb WX H3 cb dB DN s3 ftb fbb ntb Tb=> ?_⟩
  have Tm:=T2.sb s3 RH RJ
  refine⟨t,bs,m,tb,WX,mb,rfl,Tm,Tb,nq,cb,dm.mono (by decide),dB.mono (by decide),λr rs H4 s4 fr frs nr nn Tr=> ?_⟩
  have tK:=s12.trans s3
  exact q (gX m mb) r rs H4 (show bC (fq (fq mb m) (dR mb))from bP _) ((qa (qa dB dm) (vV dB)).mono (by decide)) (yX ev nq cb) (vZ (iZ ev nq) ab cb (.inl DN)) (by rw[BA (.inl DN)];exact le) (tK.trans (SB.of tK.2 s4)) (tK.gone fr) (λb hb=>tK.gone (frs b hb)) nr nn Tr
 refine⟨_,rfl,_,_,rfl,rfl,_,rfl,oS (λ_=> ?_) (λ_=> ?_)⟩
 ·refine⟨_,rfl,_,rfl,B,_,rfl,s12.2,by decide,by decide,λmb tb WX H3 cb dB DN s3 ftb fbb ntb Tb=> ?_⟩
  have Tm:=T2.sb s3 RH RJ
  refine⟨t,bs,m,tb,WX,mb,rfl,Tm,Tb,nq,cb,dm.mono (by decide),dB.mono (by decide),λr rs H4 s4 fr frs nr nn Tr=> ?_⟩
  have tK:=s12.trans s3
  exact q (gX m mb) r rs H4 (show bC (fq (fq mb m) (dR mb))from bP _) ((qa (qa dB dm) (vV dB)).mono (by decide)) (yX ev nq cb) (vZ (iZ ev nq) ab cb (.inl DN)) (by rw[BA (.inl DN)];exact le) (tK.trans (SB.of tK.2 s4)) (tK.gone fr) (λb hb=>tK.gone (frs b hb)) nr nn Tr
 ·exact⟨_,rfl,q m t bs H2 nq (dm.mono (by decide)) ev ab le s12 ft fb nt nn T2⟩
def BP:Sp:=λvs H Q _=> ∃(B t:Addr) (bs:List Addr) (m:List (List Int)),vs=[.ref B,.ref t]/\kP H B/\Tab H t bs m/\bC m/\Bd 440 m/\bI m/\dQ m=true/\aK m/2<=200/\ ∀(p:Int) H',p∈([3,5,7,11,13]:List Int) ->aK m/2%p≠0->SB B H H'->Q (.int p) H'
theorem yf(F:fC K mg "_law_prime" nV iM)(gA:mg "len"=none)(LU:mg "min"=none)(bw:cQ P w K mg base cj 1 "_law_determinant" cI wB)(aV:cQ P w K mg base cj 1 "_law_take" eN qP):cQ P w K mg base cj 2 "_law_prime" iM BP:=by
 refine F.ok mj (λvs H Q E h=> ?_) (λf cdv A outer s H vs Q E hr h=> ?_)
 ·obtain⟨B,t,bs,m,rfl,hb,hT,cN,hB,ev,ab,le,q⟩:=h
  rfl
 obtain⟨B,t,bs,m,rfl,hb,hT,cN,hB,ev,ab,le,q⟩:=h
 have hu:=hr.units
 refine⟨_,(mR (@ao _ _ _ _ _ (aX (i:=2) mj.nd rfl (Or.inr rfl) (ay fm (aR bw hr rfl aQ (af (pv 1) ak)) ah))
  (@ao _ _ _ _ _ (rJ (i:=3) mj.nd rfl rfl (N2:=["_law_bag_here","_law_form_here","_law_halved","_law_some"]) (tt:=(lN (c7 PF (c7 (rI (λ_ j=>0<j) λi j=> .int (i%j)) (aD 3) (aD 0)) (tC (.int 0))))) (te:=(aD 0)) rfl (QF (sH (af ah (af ah (af ah (af ah (af ah ak))))))) (by kernel_rfl) rfl (λ_ _ _=>by exact rK (bg ju (ay cR (pv 3) (pv 0)) ah (bf _))) (λ_ _ _=>by exact dJ (pv 0)))
  (@aM _ _ _ (aO (aE aq (pv 3) (bD (Hj rfl) rfl LU PyProof.Rows.boot_min (af (aR aV hr rfl aQ (af (pv 0) (af ah ak))) (af (aR aV hr rfl aQ (af (pv 0) (af ah ak))) (af (ay f6 (bD dX rfl gA PySem.boot_len (af (pv 3) ak)) ah) ak)))) (λ_ _=>rfl))))))),?_⟩
 obtain⟨kd,ek⟩:=BD ev
 have hp:=(yV ab).2.2
 refine⟨_,rfl,t,bs,m,rfl,hT,cN,hB.mono (by decide),_,_,rfl,rfl,⟨by decide,by decide⟩,?_⟩
 obtain⟨h,eh,h1,h2⟩:∃h,aK m/2=h/\0<h/\h<=200:=⟨_,rfl,by omega,le⟩
 simp only[eh]
 rw[eh]at q
 refine⟨(by show 5<=sizeLine;decide),λP hP=>⟨P,rfl,⟨_,p6.of aA⟩,λD hD=>di (Rm (p6.of aA)) (by show 5<=sizeLine;decide) hD (λv=>match v with| .int p=> !decide (V.int (h%p)=V.int 0)|_=>false) id (λx hx H2 R s2 kk=> ?_) (λx hx px H2 Q' s2 kk=>⟨_,rfl,kk H2 (au.refl _)⟩) (λH2 s2 e2=> ?_)⟩⟩
 ·simp only[List.mem_cons,List.not_mem_nil,or_false]at hx
  rcases hx with rfl|rfl|rfl|rfl|rfl<;>exact⟨_,rfl,_,rfl,_,_,rfl,rfl,(by show(0:Int)<_;decide),rfl,_,rfl,kk H2 (au.refl _)⟩
 have u1:=au.up (o:= .tup [V.int 3,.int 5,.int 7,.int 11,.int 13]) hP
 have s12:=SB.of hb (u1.trans s2)
 have nD:D≠B:=hb.ne (u1.none hD)
 refine⟨_,rfl,_,rfl,B,_,rfl,s12.2,by decide,by decide,λd1 H3 l1 g1 s3=>⟨_,rfl,B,_,rfl,s3.2,by decide,by decide,λd2 H4 l2 g2 s4=> ?_⟩⟩
 have e4:=s4.1 _ _ nD (s3.1 _ _ nD e2)
 refine⟨_,rfl,D,_,rfl,.inl (aN.of e4),_,_,rfl,rfl,_,_,_,rfl,?_⟩
 have ne:0<(([V.int 3,.int 5,.int 7,.int 11,.int 13].filter (λv=>match v with| .int p=> !decide (V.int (h%p)=V.int 0)|_=>false)).map id).length:=by
  rw[List.length_map]
  refine List.length_pos_iff.mpr λz=> ?_
  rw[List.filter_eq_nil_iff]at z
  have z3:=z (.int 3) (by simp)
  have z5:=z (.int 5) (by simp)
  have z7:=z (.int 7) (by simp)
  simp only[Bool.not_eq_true,Bool.not_eq_false',decide_eq_true_eq,V.int.injEq]at z3 z5 z7
  have z11:=z (.int 11) (by simp)
  simp only[Bool.not_eq_true,Bool.not_eq_false',decide_eq_true_eq,V.int.injEq]at z11
  omega
 generalize OP:([V.int 3,.int 5,.int 7,.int 11,.int 13].filter (λv=>match v with| .int p=> !decide (V.int (h%p)=V.int 0)|_=>false)).map id=Ls at e4 ne
 obtain⟨v,hv,hv2⟩:=Dn (xs:=Ls) (k:=if d2<d1 then(if((Ls.length:Nat):Int) -1<d2 then((Ls.length:Nat):Int) -1 else d2)else(if((Ls.length:Nat):Int) -1<d1 then((Ls.length:Nat):Int) -1 else d1)) (by split<;>split<;>omega) (by split<;>split<;>omega)
 have hm:=List.mem_of_getElem? hv2
 rw[<-OP,List.map_id,List.mem_filter]at hm
 obtain⟨hm,hpv⟩:=hm
 refine⟨D,_,_,_,rfl,rfl,aN.of e4,hv,?_⟩
 simp only[List.mem_cons,List.not_mem_nil,or_false]at hm
 have wD:=s12.trans (s3.trans s4)
 rcases hm with rfl|rfl|rfl|rfl|rfl<;>exact q _ H4 (by decide) (λz=>by simp[z]at hpv) wD
end
end CN
set_option maxHeartbeats 1000000
namespace CN
open PySem L2
section
variable{P:Program}{w:World}{K:PySem.W.Frag}{mg:Str->Option Value}{base:Heap}
def FW:Sp:=λvs H Q _=> ∃(p:Int),vs=[.int p]/\0<p/\p<14/\ ∀t bs H',au H H'->H t=none->(∀b∈bs,H b=none) ->t∉bs->Tab H' t bs (gc p.toNat (p.toNat*p.toNat)) ->Q (.ref t) H'
theorem An(F:fC K mg "_law_rows" pJ jG)(aG:mg "range"=none):cQ P w K mg base cj 1 "_law_rows" jG FW:=by
 refine F.ok kr (λvs H Q E h=> ?_) (λf cdv A outer s H vs Q E hr h=> ?_)
 ·obtain⟨p,rfl,p0,Qg,q⟩:=h
  rfl
 obtain⟨p,rfl,p0,Qg,q⟩:=h
 have hu:=hr.units
 refine toF ?_
 refine⟨_,(Kn (i:=1) kr.nd rfl (Or.inl rfl) (kN (bR (kN (bR eV (bR eV (bR eV kM (by kernel_rfl)) (by kernel_rfl)) (by kernel_rfl))) kM (by kernel_rfl))) (by kernel_rfl) (by first|exact .inl rfl|exact .inr rfl)
  (@ao _ _ _ _ _ (iX PassesOwn.never rfl (aZ rfl aG (af (pv 0) ak)) (bL (i:=2) kr.nd rfl (Or.inl rfl)) (c6 (jo (uy PySem.F.plainAttrs_list PySem.F.slot_list_append PySem.F.type_list_append gO (pv 1) (af (fQ (af ah (af ah (af (pv 2) ak)))) ak)))))
  (@ao _ _ _ _ _ (iX PassesOwn.never rfl (aZ rfl aG (af (ay bO (pv 0) (pv 0)) ak)) (bL (i:=2) kr.nd rfl (Or.inl rfl)) (c6 (jo (uy PySem.F.plainAttrs_list PySem.F.slot_list_append PySem.F.type_list_append gO (pv 1) (af (fQ (af ah (af (ay fm (pv 2) (pv 0)) (af (ay cR (pv 2) (pv 0)) ak)))) ak)))))
  (@aM _ _ _ (aO (pv 1)))))),?_⟩
 refine⟨(by show 3<=sizeLine;decide),λa0 h0=>⟨(by show 1<=sizeLine;decide),λD hD=> ?_⟩⟩
 have v0:=au.up (o:= .lst [.int 0,.int 0,.int 1]) h0
 have v1:=au.up (o:= .lst [.ref a0]) hD
 have fD:H D=none:=v0.none hD
 have nDa:D≠a0:=λz=>by rw[z,aA]at hD;cases hD
 obtain⟨n,rfl⟩:∃n:Nat,p=(n:Int):=⟨p.toNat,by omega⟩
 have T0:Tab (upd (upd H a0 (.lst [.int 0,.int 0,.int 1])) D (.lst [.ref a0])) D [a0] (mT 0):=⟨aA,.cons (v1 _ _ aA) .nil⟩
 refine⟨_,rfl,_,rfl,by omega,by omega,fP (n:=((n:Int)).toNat) (λi σ H'=> ∃(o2:Option V) (bs:List Addr),σ=[some (.int (n:Int)),some (.ref D),o2]/\au H H'/\(∀b∈bs,H b=none)/\D∉bs/\Tab H' D bs (mT i)) ⟨_,[a0],rfl,v0.trans v1,λb hb=>by rw[List.mem_singleton.mp hb];exact h0,λhb=>nDa (List.mem_singleton.mp hb),T0⟩ (λi σ H1 hi h=> ?_) (λσ H1 h=> ?_)⟩
 ·obtain⟨o2,bs,rfl,s1,fb,nD,T⟩:=h
  have hl:bs.length=_:=T.2.length.symm
  refine⟨_,rfl,.inl ⟨rfl,_,aN.of T.1⟩,_,rfl,(by show 3<=sizeLine;decide),λr hr=> ?_⟩
  have u:=au.up (o:= .lst ([.int 0,.int 1,.int (0+(i:Int))]:List V)) hr
  have nr:r≠D:=Ne.symm (d8 T.1 hr)
  refine⟨D,_,_,rfl,rfl,u _ _ T.1,(by rw[List.length_map,hl];(first|rw[sO]|rw[sP]);exact iY (by omega)),?_⟩
  refine⟨_,bs++ [r],rfl,(s1.trans u).upd fD,λb hb=> ?_,λhb=> ?_,?_⟩
  ·rcases List.mem_append.mp hb with z|z
   ·exact fb b z
   ·rw[List.mem_singleton.mp z];exact s1.none hr
  ·rcases List.mem_append.mp hb with z|z
   ·exact nD z
   ·exact nr (List.mem_singleton.mp z).symm
  ·rw[Du];exact BE (T.same u) nD (by rw[aA,Int.zero_add];rfl) nr
 obtain⟨o2,bs,rfl,s1,fb,nD,T⟩:=h
 have T:Tab H1 D bs (gc n 0):=by
  have e:gc n 0=mT n:=by simp[gc]
  rw[e]
  exact T
 have nn:(n:Int)*n<2^40:=Int.lt_of_le_of_lt (Int.mul_le_mul (show(n:Int)<=13 by omega) (show(n:Int)<=13 by omega) (by omega) (by decide)) (by decide)
 have n0:(0:Int)<=(n:Int)*n:=Int.mul_nonneg (by omega) (by omega)
 have nn':n*n<=169:=Nat.mul_le_mul (show n<=13 by omega) (show n<=13 by omega)
 have en:((n:Int)*n).toNat=n*n:=by omega
 refine⟨_,rfl,_,rfl,_,_,rfl,rfl,.inl ⟨by omega,by omega⟩,_,rfl,by omega,by omega,fP (n:=((n:Int)*n).toNat) (λi σ H'=> ∃(o2:Option V) (bs:List Addr),σ=[some (.int (n:Int)),some (.ref D),o2]/\au H H'/\(∀b∈bs,H b=none)/\D∉bs/\Tab H' D bs (gc n i)) ⟨_,bs,rfl,s1,fb,nD,T⟩ (λi σ H1 hi h=> ?_) (λσ H1 h=> ?_)⟩
 ·have i9:i<169:=by omega
  obtain⟨o2,bs,rfl,s1,fb,nD,T⟩:=h
  have hl:bs.length=_:=T.2.length.symm
  refine⟨_,rfl,.inl ⟨rfl,_,aN.of T.1⟩,_,rfl,_,rfl,_,_,rfl,rfl,⟨by omega,by omega⟩,_,rfl,_,rfl,_,_,rfl,rfl,(by show(0:Int)<_;omega),(by show 3<=sizeLine;decide),λr hr=> ?_⟩
  have u:=au.up (o:= .lst ([.int 1,.int ((0+(i:Int))/n),.int ((0+(i:Int))%n)]:List V)) hr
  have nr:r≠D:=Ne.symm (d8 T.1 hr)
  refine⟨D,_,_,rfl,rfl,u _ _ T.1,(by rw[List.length_map,hl];(first|rw[sO]|rw[sP]);exact iY (by omega)),?_⟩
  refine⟨_,bs++ [r],rfl,(s1.trans u).upd fD,λb hb=> ?_,λhb=> ?_,?_⟩
  ·rcases List.mem_append.mp hb with z|z
   ·exact fb b z
   ·rw[List.mem_singleton.mp z];exact s1.none hr
  ·rcases List.mem_append.mp hb with z|z
   ·exact nD z
   ·exact nr (List.mem_singleton.mp z).symm
  ·rw[Dv];exact BE (T.same u) nD (by rw[aA,Int.zero_add];rfl) nr
 ·obtain⟨o2,bs,rfl,s1,fb,nD,T⟩:=h
  rw[en]at T
  exact⟨_,rfl,q D bs H1 s1 fD fb nD T⟩
def BQ:Sp:=λvs H Q _=> ∃(t:Addr) (bs:List Addr) (m:List (List Int)) (p:Int),vs=[.ref t,.int p]/\Tab H t bs m/\bC m/\Bd 1000 m/\bI m/\0<p/\p<14/\ ∀t bs H',au H H'->H t=none->(∀b∈bs,H b=none) ->t∉bs->Tab H' t bs ((gc p.toNat (p.toNat*p.toNat)).filter λr=>decide (aH m (av r)%p=0)) ->Q (.ref t) H'
theorem yg(F:fC K mg "_law_lines" nW iN)(pO:cQ P w K mg base cj 2 "_law_rows" jG FW)(gS:cQ P w K mg base cj 2 "_law_worth" gQ rT):cQ P w K mg base cj 3 "_law_lines" iN BQ:=by
 refine F.ok qv (λvs H Q E h=> ?_) (λf cdv A outer s H vs Q E hr h=> ?_)
 ·obtain⟨t,bs,m,p,rfl,hT,cN,hB,ev,p0,Qg,q⟩:=h
  rfl
 obtain⟨t,bs,m,p,rfl,hT,cN,hB,ev,p0,Qg,q⟩:=h
 have hu:=hr.units
 refine⟨_,(mR (@ao _ _ _ _ _ (aX (i:=2) qv.nd rfl (Or.inr rfl) (dP (N2:=["_law_form_here","_law_p","_law_small"]) (te:=(iT 1 (vL K (aD 0)) (cg 0) (c7 (rI (λ_ j=>0<j) λi j=> .int (i%j)) (aD 0) (c7 (rI qA λi j=> .int (i*j)) (tC (.int 2)) (aD 3))))) rfl (bN (pv 0)) (by kernel_rfl) rfl (λ_ _ _=>by exact dJ (dP (N2:=["_law_row","_law_form_here","_law_p","_law_small"]) (te:=(c7 (rI (λ_ j=>0<j) λi j=> .int (i%j)) (aD 0) (c7 (rI qA λi j=> .int (i*j)) (tC (.int 2)) (aD 3)))) rfl (bN (pv 0)) (by kernel_rfl) rfl (λ_ _ _=>by exact dJ (ay cR (pv 0) (ay bO ah (pv 3))))))))
  (@aM _ _ _ (aO (lP (N2:=["_law_form_here","_law_p","_law_small"]) (tt:=(lN (c7 EX (c7 (rI (λ_ j=>0<j) λi j=> .int (i%j)) (mQ rT [] E0 (bK (aD 3) (bK (aD 0) gM))) (aD 2)) (tC (.int 0))))) (te:=(aD 0)) rfl (bN (aR pO hr rfl aQ (af (pv 1) ak))) (by kernel_rfl) rfl (λ_ _ _=>by exact rK (bg j7 (ay cR (aR gS hr rfl aQ (af (pv 3) (af (pv 0) ak))) (pv 2)) ah (bf _))) (λ_ _ _=>by exact dJ (pv 0))))))),?_⟩
 obtain⟨n,rfl⟩:∃n:Nat,p=(n:Int):=⟨p.toNat,by omega⟩
 have l1:(bs.map V.ref).length=3:=by rw[List.length_map,<-hT.2.length,cN.1]
 refine⟨_,rfl,t,rfl,⟨_,aN.of hT.1⟩,λS hS=>vq (bU (aN.of hT.1)) l1 hS (λi j=>ent m i j%(2*(n:Int))) (λi x hi ex H1 Q1 s1 k1=> ?_) (λss H1 s1 fs nS TS=> ?_)⟩
 ·obtain⟨b,e1,e2,_⟩:=aY (hT.same s1) cN hi
  have ex':x= .ref b:=by
   have q1:=dU ex
   rw[e1]at q1
   exact(Option.some.inj q1).symm
  subst ex'
  refine⟨_,rfl,b,rfl,⟨_,aN.of e2⟩,λD2 pN=>eE (bU (aN.of e2)) rfl pN (λj=>ent m i j%(2*(n:Int))) (λj x hj OO H2 Q2 s2 k2=> ?_) (λH2 s2 e2=>k1 D2 H2 pN s2 e2)⟩
  have ex':x= .int (ent m i j):=by
   rcases aC hj with rfl|rfl|rfl<;>exact(Option.some.inj OO).symm
  subst ex'
  exact⟨_,rfl,_,rfl,_,_,rfl,rfl,.inl ⟨by decide,by decide⟩,_,_,rfl,rfl,(by show(0:Int)<2*n;omega),k2 H2 (au.refl _)⟩
 have TS:Tab H1 S ss (jz m (2*(n:Int))):=TS
 have bS:Bd 1000 (jz m (2*(n:Int))):=λi j hi hj=>by
  unfold jz
  rw[cy _ hi hj]
  have:=Int.emod_nonneg (ent m i j) (show 2*(n:Int)≠0 by omega)
  have:=Int.emod_lt_of_pos (ent m i j) (show 0<2*(n:Int)by omega)
  exact aL (a:=10) (by omega) (by decide)
 refine⟨_,rfl,(n:Int),rfl,p0,Qg,λL ls H2 s2 fL WY nL TL=> ?_⟩
 rw[Int.toNat_natCast]at TL
 have nn:n*n<=169:=Nat.mul_le_mul (show n<=13 by omega) (show n<=13 by omega)
 have mem:∀b∈ls,∃r,r∈gc n (n*n)/\H2 b=some (.lst [.int (av r 0),.int (av r 1),.int (av r 2)])/\(∀i,(av r i).natAbs<2^10)/\r=[av r 0,av r 1,av r 2]:=λb hb=>by
  obtain⟨r,hr,e⟩:=z9 TL.2 hb
  obtain⟨e3,bd⟩:=yY (by omega) nn hr
  refine⟨r,hr,?_,bd,e3⟩
  rw[e]
  conv=>lhs;rw[e3]
  rfl
 have len:(ls.map V.ref).length<=sizeLine:=by rw[List.length_map,<-TL.2.length,sP];exact Nat.le_of_lt (iY (by omega))
 refine⟨L,rfl,⟨_,aN.of TL.1⟩,λD hD=>di (bU (aN.of TL.1)) len hD (λv=>match v with| .ref b=>(match H2 b with|some (.lst [.int r0,.int r1,.int r2])=>decide (V.int (aH (jz m (2*(n:Int))) (av [r0,r1,r2])%(n:Int))=V.int 0)|_=>false)|_=>false) id (λx hx H3 R s3 kk=> ?_) (λx hx px H3 Q' s3 kk=>⟨_,rfl,kk H3 (au.refl _)⟩) (λH3 s3 e3=> ?_)⟩
 ·obtain⟨b,rfl,hb⟩:=rE hx
  obtain⟨r,hr,e,bd,er⟩:=mem b hb
  have kk:=kk H3 (au.refl _)
  simp only[e]at kk
  exact⟨_,rfl,_,rfl,S,ss,_,b,av r,rfl,(TS.same s2).same s3,bP _,bS,s3 _ _ e,λi _=>aL (bd i) (by decide),_,rfl,_,_,rfl,rfl,(by show(0:Int)<n;omega),rfl,_,rfl,kk⟩
 ·obtain⟨ls',el,il,pr⟩:=uH (pf:=(λv=>match v with| .ref b=>(match H2 b with|some (.lst [.int r0,.int r1,.int r2])=>decide (V.int (aH (jz m (2*(n:Int))) (av [r0,r1,r2])%(n:Int))=V.int 0)|_=>false)|_=>false)) (g:=λr=>decide (aH m (av r)%(n:Int)=0)) TL.2 (λrow b hm e=>by
   obtain⟨er,_⟩:=yY (by omega) nn hm
   have e':H2 b=some (.lst [.int (av row 0),.int (av row 1),.int (av row 2)]):=by
    rw[e]
    conv=>lhs;rw[er]
    rfl
   simp only[e',<-er,Ho ev p0]
   simp)
  have Vt:=s1.trans s2
  have nD:D∉ls':=λz=>by
   obtain⟨r,_,e,_⟩:=mem D (il D z)
   rw[hD]at e
   cases e
  refine q D ls' H3 (Vt.trans s3) (Vt.none hD) (λb hb=>s1.none (WY b (il b hb))) nD ⟨by rw[e3,List.map_id,el],?_⟩
  rw[Int.toNat_natCast]
  exact pr.zZ λr b hb e=>s3 _ _ e
def Ao:Sp:=λvs H Q _=> ∃(t:Addr) (bs:List Addr) (m:List (List Int)) (n:Nat) (b:Addr) (x:Nat->Int),vs=[.ref t,.int (n:Int),.ref b]/\Tab H t bs m/\bC m/\Bd 1000 m/\0<n/\n<14/\cP H b x/\(∀i,i<3->(x i).natAbs<2^400)/\(∃k,k<n*n*n/\aH m (d9 n x k)%((n:Int)*n)=0)/\
 ∀(k:Nat) r H',k<n*n*n->aH m (d9 n x k)%((n:Int)*n)=0->(∀j,j<k-> ¬aH m (d9 n x j)%((n:Int)*n)=0) ->au H H'->H r=none->cP H' r (d9 n x k) ->Q (.ref r) H'
theorem Aq(F:fC K mg "_law_lift" pK iB)(aG:mg "range"=none)(gS:cQ P w K mg base cj 2 "_law_worth" gQ rT):cQ P w K mg base cj 3 "_law_lift" iB Ao:=by
 refine F.ok nX (λvs H Q E h=> ?_) (λf cdv A outer s H vs Q E hr h=> ?_)
 ·obtain⟨t,bs,m,n,b,x,rfl,hT,cN,hB,n0,OQ,hx,bx,UD,q⟩:=h
  rfl
 obtain⟨t,bs,m,n,b,x,rfl,hT,cN,hB,n0,OQ,hx,bx,UD,q⟩:=h
 have hu:=hr.units
 refine⟨_,(mR (@ao _ _ _ _ _ (iX PassesOwn.never rfl (aZ rfl aG (af (ay bO (ay bO (pv 1) (pv 1)) (pv 1)) ak)) (bL (i:=3) nX.nd rfl (Or.inl rfl)) (mR (@ao _ _ _ _ _ (aX (i:=4) nX.nd rfl (Or.inl rfl) (fQ (af (ay dI (aE aq (pv 2) ah (λ_ _=>rfl)) (ay bO (ay fm (pv 3) (ay bO (pv 1) (pv 1))) (pv 1))) (af (ay dI (aE aq (pv 2) ah (λ_ _=>rfl)) (ay bO (ay cR (ay fm (pv 3) (pv 1)) (pv 1)) (pv 1))) (af (ay dI (aE aq (pv 2) ah (λ_ _=>rfl)) (ay bO (ay cR (pv 3) (pv 1)) (pv 1))) ak)))))
  (@aM _ _ _ (cV (bg j7 (ay cR (aR gS hr rfl aQ (af (pv 0) (af (pv 4) ak))) (ay bO (pv 1) (pv 1))) ah (bf _)) (@aM _ _ _ (aO (pv 4))) cU)))))
  (@aM _ _ _ (aO vJ)))),?_⟩
 have nn9:n*n<=169:=Nat.mul_le_mul (show n<=13 by omega) (show n<=13 by omega)
 have Vu:0<n*n:=Nat.mul_pos n0 n0
 have YK:n*n*n<=169*13:=Nat.mul_le_mul nn9 (show n<=13 by omega)
 have e2:(n:Int)*n=((n*n:Nat):Int):=by push_cast;rfl
 have e3:(n:Int)*n*n=((n*n*n:Nat):Int):=by push_cast;rfl
 have c2:(n:Int)*n<2^20:=by omega
 have c0:(0:Int)<(n:Int)*n:=by omega
 have c3:(n:Int)*n*n<2^20:=by omega
 refine⟨_,rfl,_,rfl,_,_,rfl,rfl,.inl ⟨by omega,by omega⟩,_,rfl,_,_,rfl,rfl,.inl ⟨by omega,by omega⟩,_,rfl,by omega,by omega,fP (n:=((n:Int)*n*n).toNat) (λk σ H'=>(∃o3 o4,σ=[some (.ref t),some (.int (n:Int)),some (.ref b),o3,o4])/\au H H'/\ ∀j,j<k-> ¬aH m (d9 n x j)%((n:Int)*n)=0) ⟨⟨_,_,rfl⟩,au.refl _,λj hj=>absurd hj (Nat.not_lt_zero _)⟩ (λk σ H1 hk hh=> ?_) (λσ H1 hh=> ?_)⟩
 ·obtain⟨⟨o3,o4,rfl⟩,s1,hn⟩:=hh
  have WZ:=s1 _ _ hx
  have hk':k<n*n*n:=by omega
  have d0:(0+(k:Int))/((n:Int)*n)=((k/(n*n):Nat):Int):=by rw[Int.zero_add,e2];exact(Int.natCast_ediv ..).symm
  have d1:(0+(k:Int))/(n:Int)%n=((k/n%n:Nat):Int):=by rw[Int.zero_add];push_cast;rfl
  have d2:(0+(k:Int))%(n:Int)=((k%n:Nat):Int):=by rw[Int.zero_add];push_cast;rfl
  have q0:k/(n*n)<=k:=Nat.div_le_self _ _
  have q1:k/n%n<=k:=Nat.le_trans (Nat.mod_le _ _) (Nat.div_le_self _ _)
  have q2:k%n<=k:=Nat.mod_le _ _
  refine⟨_,rfl,b,_,_,_,rfl,rfl,aN.of WZ,rfl,_,rfl,_,rfl,_,rfl,_,_,rfl,rfl,.inl ⟨by omega,by omega⟩,_,_,rfl,rfl,⟨c0,by omega⟩,_,rfl,_,_,rfl,rfl,.inr ⟨by omega,by omega⟩,_,_,rfl,rfl,?_⟩
  refine⟨_,rfl,b,_,_,_,rfl,rfl,aN.of WZ,rfl,_,rfl,_,rfl,_,_,rfl,rfl,⟨by omega,by omega⟩,_,rfl,_,_,rfl,rfl,(by show(0:Int)<n;omega),_,rfl,_,_,rfl,rfl,.inr ⟨by omega,by omega⟩,_,_,rfl,rfl,?_⟩
  refine⟨_,rfl,b,_,_,_,rfl,rfl,aN.of WZ,rfl,_,rfl,_,rfl,_,_,rfl,rfl,(by show(0:Int)<n;omega),_,rfl,_,_,rfl,rfl,.inr ⟨by omega,by omega⟩,_,_,rfl,rfl,(by show 3<=sizeLine;decide),λD hD=> ?_⟩
  have eD:upd H1 D (.lst [.int (x 0+(0+(k:Int))/((n:Int)*n)*n),.int (x 1+(0+(k:Int))/(n:Int)%n*n),.int (x 2+(0+(k:Int))%(n:Int)*n)]) D=some (.lst [.int (d9 n x k 0),.int (d9 n x k 1),.int (d9 n x k 2)]):=by
   rw[aA,d0,d1,d2]
   rfl
  have uD:=au.up (o:= .lst [.int (x 0+(0+(k:Int))/((n:Int)*n)*n),.int (x 1+(0+(k:Int))/(n:Int)%n*n),.int (x 2+(0+(k:Int))%(n:Int)*n)]) hD
  have bv:∀i,i<3->(d9 n x k i).natAbs<2^1000:=λi hi=>by
   have dg:digit n k i<=k:=by
    unfold digit
    split
    ·exact q0
    ·split
     ·exact q1
     ·exact q2
   have c1:((digit n k i:Int)*n).natAbs<2^(20+4):=dz (by omega) (by omega)
   exact aL (oZ (bx i hi) (aL c1 (by decide))) (by decide)
  have s2:=s1.trans uD
  refine⟨_,rfl,_,rfl,t,bs,m,D,d9 n x k,rfl,hT.same s2,cN,hB.mono (by decide),eD,bv,_,rfl,_,rfl,_,_,rfl,rfl,.inl ⟨by omega,by omega⟩,_,_,rfl,rfl,c0,rfl,_,rfl,oS (λz=> ?_) (λz=> ?_)⟩
  ·have z:=V.int.inj (of_decide_eq_true z)
   exact⟨_,rfl,q k D _ hk' z (λj hj=>hn j hj) s2 (s1.none hD) eD⟩
  ·refine⟨⟨_,_,rfl⟩,s2,λj hj=> ?_⟩
   by_cases w:j=k
   ·subst w
    exact λw=>z (decide_eq_true (congrArg V.int w))
   ·exact hn j (by omega)
 ·obtain⟨⟨o3,o4,rfl⟩,s1,hn⟩:=hh
  obtain⟨k,hk,ek⟩:=UD
  exact absurd ek (hn k (by omega))
def LV:Sp:=λvs H Q _=> ∃(t:Addr) (bs:List Addr) (m:List (List Int)),vs=[.ref t]/\Tab H t bs m/\bC m/\ ∀r rs H',au H H'->H r=none->(∀b∈rs,H b=none) ->r∉rs->rs.Nodup->Tab H' r rs m->Q (.ref r) H'
theorem Ar(F:fC K mg "_law_copy" pH jE)(eZ:mg "list"=none):cQ P w K mg base cj 1 "_law_copy" jE LV:=by
 refine F.ok Aj (λvs H Q E h=> ?_) (λf cdv A outer s H vs Q E hr h=> ?_)
 ·obtain⟨t,bs,m,rfl,hT,cN,q⟩:=h
  rfl
 obtain⟨t,bs,m,rfl,hT,cN,q⟩:=h
 have hu:=hr.units
 refine⟨_,(c6 (aO (dP (N2:=["_law_table"]) (te:=(Fd (z8 K) (bK (aD 0) gM))) rfl (bN (pv 0)) (by kernel_rfl) rfl (λ_ _ _=>by exact dJ (iz kh rfl eZ PyProof.Rows.boot_list (af (pv 0) ak)))))),?_⟩
 exact⟨_,rfl,t,rfl,⟨_,aN.of hT.1⟩,λD hD=>BB hT (by rw[cN.1];decide) hD λbs' H' s fr nD nn T=>q D bs' H' s hD fr nD nn T⟩
end
end CN
set_option maxHeartbeats 1000000
namespace CN
open PySem L2
section
variable{P:Program}{w:World}{K:PySem.W.Frag}{mg:Str->Option Value}{base:Heap}
def LW(T0:Addr):Sp:=λvs H Q _=> ∃(t1:Addr) (b1:List Addr) (m1:List (List Int)) (t2:Addr) (b2:List Addr) (m2:List (List Int)),vs=[.ref t1,.ref t2]/\Tab H t1 b1 m1/\Tab H t2 b2 m2/\bC m1/\bC m2/\Bd 4096 m1/\Bd 4096 m2/\H T0=some (cu T0)/\
 ∀r bs H',au H H'->H r=none->(∀b∈bs,H b=none) ->r∉bs->Tab H' r bs (fq m1 m2) ->Q (.ref r) H'
theorem DO{bX:Addr}(F:mW K mg "product" sW mY bX)(bm:BM mg base)(oJ:mg "sum"=none)(aG:mg "range"=none):cQ P w K mg base cj 1 "product" mY (LW bX):=by
 refine F.ok DG (λvs H Q E h=> ?_) (λf cdv A outer s H vs Q E cd hr h=> ?_)
 ·obtain⟨t1,b1,m1,t2,b2,m2,rfl,h1,h2,c1,c2,d1,d2,hP,q⟩:=h
  rfl
 obtain⟨t1,b1,m1,t2,b2,m2,rfl,h1,h2,c1,c2,d1,d2,hP,q⟩:=h
 have hu:=hr.units
 refine⟨_,(c6 (aO (dP (N2:=["one","other"]) (te:=(iT 1 (qp (bK (tC (.int 3)) gM)) (cg 0) (yQ 1 bX (qp (bK (tC (.int 3)) gM)) (cg 0) (c7 (rI iH λi j=> .int (i*j)) (c7 (eT K) (c7 (eT K) (aD 3) (aD 2)) (aD 0)) (c7 (eT K) (c7 (eT K) (aD 4) (aD 0)) (aD 1)))))) rfl (aZ rfl aG (af ah ak)) (by kernel_rfl) rfl (λ_ _ _=>by exact dJ (dP (N2:=["i","one","other"]) (te:=(yQ 1 bX (qp (bK (tC (.int 3)) gM)) (cg 0) (c7 (rI iH λi j=> .int (i*j)) (c7 (eT K) (c7 (eT K) (aD 3) (aD 2)) (aD 0)) (c7 (eT K) (c7 (eT K) (aD 4) (aD 0)) (aD 1))))) rfl (aZ rfl aG (af ah ak)) (by kernel_rfl) rfl (λ_ _ _=>by exact dJ (Fw (N2:=["j","i","one","other"]) (te:=(c7 (rI iH λi j=> .int (i*j)) (c7 (eT K) (c7 (eT K) (aD 3) (aD 2)) (aD 0)) (c7 (eT K) (c7 (eT K) (aD 4) (aD 0)) (aD 1)))) rfl (gw.depth hr) cd bm rfl oJ (aZ rfl aG (af ah ak)) (by kernel_rfl) (λ_ _ _ _=>by exact dJ (ay bA (aE aq (aE aq (pv 3) (pv 2) (λ_ _=>rfl)) (pv 0) (λ_ _=>rfl)) (aE aq (aE aq (pv 4) (pv 0) (λ_ _=>rfl)) (pv 1) (λ_ _=>rfl))))))))))),?_⟩
 refine⟨3,rfl,by decide,by decide,λD hD=>vq (dh (n:=3)) rfl hD _ (λi x hi ex H1 Q1 s1 k1=> ?_) (λbs H1 s1 fr nD hT=>q D bs H1 s1 hD fr nD hT)⟩
 obtain⟨_,rfl⟩:=bQ ex
 refine⟨3,rfl,by decide,by decide,λD2 pN=>eE (dh (n:=3)) rfl pN (λj=>ent m1 i 0*ent m2 0 j+ent m1 i 1*ent m2 1 j+ent m1 i 2*ent m2 2 j) (λj x hj OO H2 Q2 s2 k2=> ?_) (λH2 s2 e2=>k1 D2 H2 pN s2 e2)⟩
 obtain⟨_,rfl⟩:=bQ OO
 refine⟨3,rfl,by decide,by decide,JZ (dh (n:=3)) (s2 _ _ (s1 _ _ hP)) (λk=>ent m1 i k*ent m2 k j) (λk x ex3 H3 Q3 s3 k3=> ?_) (λH3 s3=> ?_)⟩
 ·obtain⟨hk,rfl⟩:=bQ ex3
  have sm:=s1.trans (s2.trans s3)
  obtain⟨b,row,e1,e2,e3⟩:=nF (h1.same sm) c1 hi hk
  obtain⟨b',aaa,Dh,Fj,e3'⟩:=nF (h2.same sm) c2 hk hj
  exact⟨_,rfl,_,rfl,t1,_,_,_,rfl,rfl,aN.of (h1.same sm).1,e1,_,rfl,b,_,_,_,rfl,rfl,aN.of e2,e3,_,rfl,_,rfl,t2,_,_,_,rfl,rfl,aN.of (h2.same sm).1,Dh,_,rfl,b',_,_,_,rfl,rfl,aN.of Fj,e3',_,_,rfl,rfl,⟨d1 i k hi hk,d2 k j hk hj⟩,k3 H3 (au.refl _)⟩
 ·have:=k2 H3 s3
  rw[show preSum (λk=>ent m1 i k*ent m2 k j) (iG 3).length=_ from Ub _]
  exact this
def DP:Sp:=λvs H Q _=> ∃(t1:Addr) (b1:List Addr) (m1:List (List Int)),vs=[.ref t1]/\Tab H t1 b1 m1/\bC m1/\
 ∀r bs H',au H H'->H r=none->(∀b∈bs,H b=none) ->r∉bs->Tab H' r bs (dR m1) ->Q (.ref r) H'
theorem wF(F:fC K mg "turned_over" l7 gp)(aG:mg "range"=none):cQ P w K mg base cj 1 "turned_over" gp DP:=by
 refine F.ok wm (λvs H Q E h=> ?_) (λf cdv A outer s H vs Q E hr h=> ?_)
 ·obtain⟨t1,b1,m1,rfl,h1,c1,q⟩:=h
  rfl
 obtain⟨t1,b1,m1,rfl,h1,c1,q⟩:=h
 have hu:=hr.units
 refine⟨_,(c6 (aO (dP (N2:=["table"]) (te:=(iT 1 (qp (bK (tC (.int 3)) gM)) (cg 0) (c7 (eT K) (c7 (eT K) (aD 2) (aD 0)) (aD 1)))) rfl (aZ rfl aG (af ah ak)) (by kernel_rfl) rfl (λ_ _ _=>by exact dJ (dP (N2:=["i","table"]) (te:=(c7 (eT K) (c7 (eT K) (aD 2) (aD 0)) (aD 1))) rfl (aZ rfl aG (af ah ak)) (by kernel_rfl) rfl (λ_ _ _=>by exact dJ (aE aq (aE aq (pv 2) (pv 0) (λ_ _=>rfl)) (pv 1) (λ_ _=>rfl)))))))),?_⟩
 refine⟨3,rfl,by decide,by decide,λD hD=>vq (dh (n:=3)) rfl hD _ (λi x hi ex H1 Q1 s1 k1=> ?_) (λbs H1 s1 fr nD hT=>q D bs H1 s1 hD fr nD hT)⟩
 obtain⟨_,rfl⟩:=bQ ex
 refine⟨3,rfl,by decide,by decide,λD2 pN=>eE (dh (n:=3)) rfl pN (λj=>ent m1 j i) (λj x hj OO H2 Q2 s2 k2=> ?_) (λH2 s2 e2=>k1 D2 H2 pN s2 e2)⟩
 obtain⟨_,rfl⟩:=bQ OO
 have sm:=s1.trans s2
 obtain⟨b,row,e1,e2,e3⟩:=nF (h1.same sm) c1 hj hi
 exact⟨_,rfl,_,rfl,t1,_,_,_,rfl,rfl,aN.of (h1.same sm).1,e1,_,rfl,b,_,_,_,rfl,rfl,aN.of e2,e3,k2 H2 (au.refl _)⟩
def vB(K:PySem.W.Frag):Sp:=λvs H Q _=> ∃(t:Addr) (bs:List Addr) (m:List (List Int)) (i j:Nat),vs=[.ref t,.int (i:Int),.int (j:Int)]/\Tab H t bs m/\bC m/\i<3/\j<3/\Bd 4096 m/\Q (.int (ko m i j)) H
theorem uV(F:fC K mg "signed_minor" kU gE):cQ P w K mg base cj 1 "signed_minor" gE (vB K):=by
 refine F.ok jP (λvs H Q E h=> ?_) (λf cdv A outer s H vs Q E hr h=> ?_)
 ·obtain⟨t,bs,m,i,j,rfl,hT,cN,hi,hj,hB,q⟩:=h
  rfl
 obtain⟨t,bs,m,i,j,rfl,hT,cN,hi,hj,hB,q⟩:=h
 have hu:=hr.units
 refine⟨_,(mR (@ao _ _ _ _ _ (Jq (i:=3) (j:=4) rfl jP.nd rfl rfl (by decide) rfl rfl (af (aE aq (pv 0) (ay cR (ay dI (pv 1) ah) ah) (λ_ _=>rfl)) (af (aE aq (pv 0) (ay cR (ay dI (pv 1) ah) ah) (λ_ _=>rfl)) ak)) rfl)
  (@ao _ _ _ _ _ (Jq (i:=5) (j:=6) rfl jP.nd rfl rfl (by decide) rfl rfl (af (ay cR (ay dI (pv 2) ah) ah) (af (ay cR (ay dI (pv 2) ah) ah) ak)) rfl)
  (@aM _ _ _ (aO (ay f6 (ay bA (aE aq (pv 3) (pv 5) (λ_ _=>rfl)) (aE aq (pv 4) (pv 6) (λ_ _=>rfl))) (ay bA (aE aq (pv 3) (pv 6) (λ_ _=>rfl)) (aE aq (pv 4) (pv 5) (λ_ _=>rfl))))))))),?_⟩
 obtain⟨b,e1,e2,_⟩:=aY hT cN (i:=(i+1)%3) (qb _)
 obtain⟨b',Dh,Fj,_⟩:=aY hT cN (i:=(i+2)%3) (qb _)
 rw[<-m3 i 1]at e1
 rw[<-m3 i 2]at Dh
 refine⟨_,rfl,_,rfl,_,_,rfl,rfl,_,_,rfl,rfl,(by show(0:Int)<3;decide),t,_,_,_,rfl,rfl,aN.of hT.1,e1,?_⟩
 refine⟨_,rfl,_,rfl,_,_,rfl,rfl,_,_,rfl,rfl,(by show(0:Int)<3;decide),t,_,_,_,rfl,rfl,aN.of hT.1,Dh,_,_,rfl,?_⟩
 refine⟨_,rfl,_,_,rfl,rfl,_,_,rfl,rfl,(by show(0:Int)<3;decide),_,rfl,_,_,rfl,rfl,_,_,rfl,rfl,(by show(0:Int)<3;decide),_,_,rfl,?_⟩
 have a1:=jO (λc=>ent m ((i+1)%3) c) (c:=(j+1)%3) (qb _)
 have a2:=jO (λc=>ent m ((i+2)%3) c) (c:=(j+2)%3) (qb _)
 have a3:=jO (λc=>ent m ((i+1)%3) c) (c:=(j+2)%3) (qb _)
 have a4:=jO (λc=>ent m ((i+2)%3) c) (c:=(j+1)%3) (qb _)
 rw[<-m3 j 1]at a1 a4
 rw[<-m3 j 2]at a2 a3
 refine⟨_,rfl,_,rfl,b,_,_,_,rfl,rfl,aN.of e2,a1,_,rfl,_,rfl,b',_,_,_,rfl,rfl,aN.of Fj,a2,_,_,rfl,rfl,⟨hB _ _ (qb _) (qb _),hB _ _ (qb _) (qb _)⟩,?_⟩
 exact⟨_,rfl,_,rfl,b,_,_,_,rfl,rfl,aN.of e2,a3,_,rfl,_,rfl,b',_,_,_,rfl,rfl,aN.of Fj,a4,_,_,rfl,rfl,⟨hB _ _ (qb _) (qb _),hB _ _ (qb _) (qb _)⟩,_,_,rfl,rfl,q⟩
theorem LX{H:Hp}{t:Addr}{bs:List Addr}{m:List (List Int)}(hT:Tab H t bs m)(cN:bC m):∃c0 c1 c2,bs=[c0,c1,c2]/\cP H c0 (λc=>ent m 0 c)/\cP H c1 (λc=>ent m 1 c)/\cP H c2 (λc=>ent m 2 c):=by
 have l3:bs.length=3:=by rw[<-hT.2.length,cN.1]
 match bs,l3,hT with
 | [c0,c1,c2],_,hT=>
  obtain⟨b0,x1,x2,_⟩:=aY hT cN (i:=0) (by decide)
  obtain⟨b1,y1,y2,_⟩:=aY hT cN (i:=1) (by decide)
  obtain⟨b2,w1,w2,_⟩:=aY hT cN (i:=2) (by decide)
  cases x1;cases y1;cases w1
  exact⟨c0,c1,c2,rfl,x2,y2,w2⟩
def BR:Sp:=λvs H Q _=> ∃(t:Addr) (bs:List Addr) (m:List (List Int)),vs=[.ref t]/\Tab H t bs m/\bC m/\Bd 1000 m/\True/\ ∀H',au H H'->Q (.int (aK m)) H'
theorem wG(F:fC K mg "determinant" l8 eK):cQ P w K mg base cj 3 "determinant" eK BR:=by
 refine F.ok cZ (λvs H Q E h=> ?_) (λf cdv A outer s H vs Q E hr h=> ?_)
 ·obtain⟨t,bs,m,rfl,hT,cN,hB,hP,q⟩:=h
  rfl
 obtain⟨t,bs,m,rfl,hT,cN,hB,hP,q⟩:=h
 have hu:=hr.units
 refine⟨_,(mR (@ao _ _ _ _ _ (nA (pv 0) (rH rfl (cz (rH rfl (cz (bL (i:=1) cZ.nd rfl (Or.inl rfl)) (cz (bL (i:=2) cZ.nd rfl (Or.inl rfl)) (cz (bL (i:=3) cZ.nd rfl (Or.inl rfl)) kg)))) (cz (rH rfl (cz (bL (i:=4) cZ.nd rfl (Or.inl rfl)) (cz (bL (i:=5) cZ.nd rfl (Or.inl rfl)) (cz (bL (i:=6) cZ.nd rfl (Or.inl rfl)) kg)))) (cz (rH rfl (cz (bL (i:=7) cZ.nd rfl (Or.inl rfl)) (cz (bL (i:=8) cZ.nd rfl (Or.inl rfl)) (cz (bL (i:=9) cZ.nd rfl (Or.inl rfl)) kg)))) kg)))))
  (@aM _ _ _ (aO (ay dI (ay dI (ay bA (pv 1) (ay f6 (ay bA (pv 5) (pv 9)) (ay bA (pv 6) (pv 8)))) (ay bA (pv 2) (ay f6 (ay bA (pv 6) (pv 7)) (ay bA (pv 4) (pv 9))))) (ay bA (pv 3) (ay f6 (ay bA (pv 4) (pv 8)) (ay bA (pv 5) (pv 7))))))))),?_⟩
 obtain⟨c0,c1,c2,rfl,x2,y2,w2⟩:=LX hT cN
 refine⟨_,rfl,t,_,rfl,aN.of hT.1,rfl,_,_,rfl,c0,_,rfl,aN.of x2,rfl,_,_,rfl,_,_,rfl,_,_,rfl,rfl,_,_,rfl,c1,_,rfl,aN.of y2,rfl,_,_,rfl,_,_,rfl,_,_,rfl,rfl,_,_,rfl,c2,_,rfl,aN.of w2,rfl,_,_,rfl,_,_,rfl,_,_,rfl,rfl,rfl,?_⟩
 refine⟨_,rfl,_,rfl,_,rfl,_,_,rfl,rfl,⟨aL (hB 1 1 (by decide) (by decide)) (by decide),aL (hB 2 2 (by decide) (by decide)) (by decide)⟩,_,rfl,_,rfl,_,_,rfl,rfl,⟨aL (hB 1 2 (by decide) (by decide)) (by decide),aL (hB 2 1 (by decide) (by decide)) (by decide)⟩,_,_,rfl,rfl,_,_,rfl,rfl,⟨aL (hB 0 0 (by decide) (by decide)) (by decide),aL (qF (dz (hB 1 1 (by decide) (by decide)) (hB 2 2 (by decide) (by decide))) (dz (hB 1 2 (by decide) (by decide)) (hB 2 1 (by decide) (by decide)))) (by decide)⟩,_,rfl,_,rfl,_,rfl,_,_,rfl,rfl,⟨aL (hB 1 2 (by decide) (by decide)) (by decide),aL (hB 2 0 (by decide) (by decide)) (by decide)⟩,_,rfl,_,rfl,_,_,rfl,rfl,⟨aL (hB 1 0 (by decide) (by decide)) (by decide),aL (hB 2 2 (by decide) (by decide)) (by decide)⟩,_,_,rfl,rfl,_,_,rfl,rfl,⟨aL (hB 0 1 (by decide) (by decide)) (by decide),aL (qF (dz (hB 1 2 (by decide) (by decide)) (hB 2 0 (by decide) (by decide))) (dz (hB 1 0 (by decide) (by decide)) (hB 2 2 (by decide) (by decide)))) (by decide)⟩,_,_,rfl,rfl,_,rfl,_,rfl,_,rfl,_,_,rfl,rfl,⟨aL (hB 1 0 (by decide) (by decide)) (by decide),aL (hB 2 1 (by decide) (by decide)) (by decide)⟩,_,rfl,_,rfl,_,_,rfl,rfl,⟨aL (hB 1 1 (by decide) (by decide)) (by decide),aL (hB 2 0 (by decide) (by decide)) (by decide)⟩,_,_,rfl,rfl,_,_,rfl,rfl,⟨aL (hB 0 2 (by decide) (by decide)) (by decide),aL (qF (dz (hB 1 0 (by decide) (by decide)) (hB 2 1 (by decide) (by decide))) (dz (hB 1 1 (by decide) (by decide)) (hB 2 0 (by decide) (by decide)))) (by decide)⟩,_,_,rfl,rfl,?_⟩
 have e:ent m 0 0*(ent m 1 1*ent m 2 2-ent m 1 2*ent m 2 1)+ent m 0 1*(ent m 1 2*ent m 2 0-ent m 1 0*ent m 2 2)+ent m 0 2*(ent m 1 0*ent m 2 1-ent m 1 1*ent m 2 0)=aK m:=by
  rw[bV]
 have q:=q H (au.refl _)
 rw[<-e]at q
 exact q
def As:Sp:=λvs H Q _=> ∃(t1:Addr) (b1:List Addr) (m1:List (List Int)),vs=[.ref t1]/\Tab H t1 b1 m1/\bC m1/\Bd 4096 m1/\
 ∀r bs H',au H H'->H r=none->(∀b∈bs,H b=none) ->r∉bs->Tab H' r bs (gy m1) ->Q (.ref r) H'
theorem LY(F:fC K mg "cover" Ah qc)(aG:mg "range"=none)(lA:cQ P w K mg base cj 1 "signed_minor" gE (vB K)):cQ P w K mg base cj 2 "cover" qc As:=by
 refine F.ok LQ (λvs H Q E h=> ?_) (λf cdv A outer s H vs Q E hr h=> ?_)
 ·obtain⟨t1,b1,m1,rfl,h1,c1,d1,q⟩:=h
  rfl
 obtain⟨t1,b1,m1,rfl,h1,c1,d1,q⟩:=h
 have hu:=hr.units
 refine⟨_,(c6 (aO (dP (N2:=["table"]) (te:=(iT 1 (qp (bK (tC (.int 3)) gM)) (cg 0) (mQ (vB K) [] E0 (bK (aD 2) (bK (aD 0) (bK (aD 1) gM)))))) rfl (aZ rfl aG (af ah ak)) (by kernel_rfl) rfl (λ_ _ _=>by exact dJ (dP (N2:=["i","table"]) (te:=(mQ (vB K) [] E0 (bK (aD 2) (bK (aD 0) (bK (aD 1) gM))))) rfl (aZ rfl aG (af ah ak)) (by kernel_rfl) rfl (λ_ _ _=>by exact dJ (aR lA hr rfl aQ (af (pv 2) (af (pv 0) (af (pv 1) ak)))))))))),?_⟩
 refine⟨3,rfl,by decide,by decide,λD hD=>vq (dh (n:=3)) rfl hD (λi j=>ko m1 j i) (λi x hi ex H1 Q1 s1 k1=> ?_) (λbs H1 s1 fr nD hT=>q D bs H1 s1 hD fr nD hT)⟩
 obtain⟨_,rfl⟩:=bQ ex
 refine⟨3,rfl,by decide,by decide,λD2 pN=>eE (dh (n:=3)) rfl pN (λj=>ko m1 j i) (λj x hj OO H2 Q2 s2 k2=> ?_) (λH2 s2 e2=>k1 D2 H2 pN s2 e2)⟩
 obtain⟨_,rfl⟩:=bQ OO
 exact⟨_,rfl,_,rfl,_,rfl,t1,b1,m1,j,i,rfl,h1.same (s1.trans s2),c1,hj,hi,d1,k2 H2 (au.refl _)⟩
def zf(T0:Addr):Sp:=λvs H Q _=> ∃(t1:Addr) (b1:List Addr) (m1:List (List Int)) (t2:Addr) (b2:List Addr) (m2:List (List Int)),vs=[.ref t1,.ref t2]/\Tab H t1 b1 m1/\Tab H t2 b2 m2/\bC m1/\bC m2/\Bd 1000 m1/\Bd 1000 m2/\H T0=some (cu T0)/\
 ∀r bs H',au H H'->H r=none->(∀b∈bs,H b=none) ->r∉bs->Tab H' r bs (fq (fq m2 m1) (dR m2)) ->Q (.ref r) H'
theorem DQ{bX:Addr}(F:fC K mg "carried" sX mZ)(qe:cQ P w K mg base cj 1 "product" mY (LW bX))(gr:cQ P w K mg base cj 1 "turned_over" gp DP):cQ P w K mg base cj 2 "carried" mZ (zf bX):=by
 refine F.ok DH (λvs H Q E h=> ?_) (λf cdv A outer s H vs Q E hr h=> ?_)
 ·obtain⟨t1,b1,m1,t2,b2,m2,rfl,h1,h2,c1,c2,d1,d2,hP,q⟩:=h
  rfl
 obtain⟨t1,b1,m1,t2,b2,m2,rfl,h1,h2,c1,c2,d1,d2,hP,q⟩:=h
 have hu:=hr.units
 refine⟨_,(c6 (aO (aR qe hr rfl aQ (af (aR qe hr rfl aQ (af (pv 1) (af (pv 0) ak))) (af (aR gr hr rfl aQ (af (pv 1) ak)) ak))))),?_⟩
 refine⟨_,rfl,_,rfl,t2,b2,m2,t1,b1,m1,rfl,h2,h1,c2,c1,d2.mono (by decide),d1.mono (by decide),hP,λr rs H1 s1 fr frs nr hr=> ?_⟩
 refine⟨_,rfl,t2,b2,m2,rfl,h2.same s1,c2,λo os H2 s2 fo fos no ho=> ?_⟩
 refine⟨r,rs,_,o,os,_,rfl,hr.same s2,ho,bP _,bP _,(qa d2 d1).mono (by decide),(vV d2).mono (by decide),s2 _ _ (s1 _ _ hP),λu us H3 s3 fu Vv nu Uv=> ?_⟩
 have sm:=s1.trans s2
 exact q u us H3 (sm.trans s3) (sm.none fu) (λb hb=>sm.none (Vv b hb)) nu Uv
def Qh:Sp:=λvs H Q _=> ∃(t:Addr) (bs:List Addr) (m:List (List Int)),vs=[.ref t]/\Tab H t bs m/\bC m/\Bd 440 m/\dR m=m/\True/\(dQ m=true-> ∀H',au H H'->Q .gu H')/\
 (dQ m=false-> ∀(x:Nat->Int) a H',au H H'->H a=none->cP H' a x-> ¬(x 0=0/\x 1=0/\x 2=0) ->aJ m x x<=0->(∀i,i<3->(x i).natAbs<2^1000) ->Q (.ref a) H')
theorem DR(F:fC K mg "low_row" tw m6)(cK:cQ P w K mg base cj 3 "determinant" eK BR)(qf:cQ P w K mg base cj 3 "cover" qc As):cQ P w K mg base cj 4 "low_row" m6 Qh:=by
 refine F.ok qK (λvs H Q E h=> ?_) (λf cdv A outer s H vs Q E hr h=> ?_)
 ·obtain⟨t,bs,m,rfl,hT,cN,hB,hS,hP,q1,q2⟩:=h
  rfl
 obtain⟨t,bs,m,rfl,hT,cN,hB,hS,hP,q1,q2⟩:=h
 have hu:=hr.units
 refine⟨_,(mR (@ao _ _ _ _ _ (aX (i:=1) qK.nd rfl (Or.inl rfl) (aE aq (aE aq (pv 0) ah (λ_ _=>rfl)) ah (λ_ _=>rfl)))
  (@ao _ _ _ _ _ (cV (bg Fc (pv 1) ah (bf _)) (Ko (kN (bR eV (bR eV (bR eV kM (by kernel_rfl)) (by kernel_rfl)) (by kernel_rfl)))) cU)
  (@ao _ _ _ _ _ (aX (i:=2) qK.nd rfl (Or.inl rfl) (aE aq (aE aq (pv 0) ah (λ_ _=>rfl)) ah (λ_ _=>rfl)))
  (@ao _ _ _ _ _ (cV (bg Fc (ay f6 (ay bA (pv 1) (aE aq (aE aq (pv 0) ah (λ_ _=>rfl)) ah (λ_ _=>rfl))) (ay bA (pv 2) (pv 2))) ah (bf _)) (@aM _ _ _ (aO (fQ (af (PD Jz (pv 2)) (af (pv 1) (af ah ak)))))) cU)
  (@ao _ _ _ _ _ (cV (bg Fc (aR cK hr rfl aQ (af (pv 0) ak)) ah (bf _)) (@aM _ _ _ (aO (aE aq (aR qf hr rfl aQ (af (pv 0) ak)) ah (λ_ _=>rfl)))) cU)
  (@aM _ _ _ (aO vJ)))))))),?_⟩
 obtain⟨c0,x1,x2,_⟩:=aY hT cN (i:=0) (by decide)
 obtain⟨c1,y1,y2,_⟩:=aY hT cN (i:=1) (by decide)
 obtain⟨c2,w1,w2,_⟩:=aY hT cN (i:=2) (by decide)
 have b0:=hB 0 0 (by decide) (by decide)
 have b1:=hB 0 1 (by decide) (by decide)
 refine⟨_,rfl,t,_,_,_,rfl,rfl,aN.of hT.1,x1,c0,_,_,_,rfl,rfl,aN.of x2,rfl,?_⟩
 refine⟨_,rfl,_,_,rfl,rfl,_,rfl,oS (λc=> ?_) (λc=> ?_)⟩
 ·have c:ent m 0 0<=0:=of_decide_eq_true c
  have ab:dQ m=false:=by
   unfold dQ
   rw[decide_eq_false (by omega),Bool.false_and]
  refine⟨(by show 3<=sizeLine;decide),λr hr=> ?_⟩
  refine q2 ab (λi=>if i=0 then 1 else 0) r _ (au.up hr) hr aA (λz=>by simp at z) (by rw[Ui];exact c) (λi _=> ?_)
  show(if i=0 then(1:Int)else 0).natAbs<_
  exact aL (a:=1) (by split<;>decide) (by decide)
 have c:0<ent m 0 0:=by
  have:¬ent m 0 0<=0:=λz=>c (decide_eq_true z)
  omega
 refine⟨_,rfl,t,_,_,_,rfl,rfl,aN.of hT.1,x1,c0,_,_,_,rfl,rfl,aN.of x2,rfl,?_⟩
 refine⟨_,rfl,_,rfl,t,_,_,_,rfl,rfl,aN.of hT.1,y1,c1,_,_,_,rfl,rfl,aN.of y2,rfl,_,_,rfl,rfl,⟨aL (hB 0 0 (by decide) (by decide)) (by decide),aL (hB 1 1 (by decide) (by decide)) (by decide)⟩,_,rfl,_,rfl,_,_,rfl,rfl,⟨aL (hB 0 1 (by decide) (by decide)) (by decide),aL (hB 0 1 (by decide) (by decide)) (by decide)⟩,_,_,rfl,rfl,_,_,rfl,rfl,_,rfl,oS (λd=> ?_) (λd=> ?_)⟩
 ·have d:ent m 0 0*ent m 1 1-ent m 0 1*ent m 0 1<=0:=of_decide_eq_true d
  have ab:dQ m=false:=by
   unfold dQ
   rw[decide_eq_false (p:=ent m 0 1*ent m 0 1<ent m 0 0*ent m 1 1) (by omega),Bool.false_and,Bool.and_false]
  refine⟨_,rfl,_,rfl,_,rfl,(by show 3<=sizeLine;decide),λr hr=> ?_⟩
  refine q2 ab (λi=>match i with|0=> -ent m 0 1|1=>ent m 0 0|_=>0) r _ (au.up hr) hr aA (λz=>by have y:ent m 0 0=0:=z.2.1;omega) ?_ (λi hi=> ?_)
  ·rw[Uj hS _ rfl rfl rfl]
   exact Int.mul_nonpos_of_nonneg_of_nonpos (by omega) d
  ·rcases aC hi with rfl|rfl|rfl
   ·show(-ent m 0 1).natAbs<_
    exact aL (a:=440) (by omega) (by decide)
   ·exact aL b0 (by decide)
   ·show(0:Int).natAbs<_
    exact Nat.two_pow_pos _
 have d:0<ent m 0 0*ent m 1 1-ent m 0 1*ent m 0 1:=by
  have:¬ent m 0 0*ent m 1 1-ent m 0 1*ent m 0 1<=0:=λz=>d (decide_eq_true z)
  omega
 refine⟨_,rfl,t,bs,m,rfl,hT,cN,hB.mono (by decide),hP,λH1 s1=>⟨_,_,rfl,rfl,_,rfl,oS (λe=> ?_) (λe=> ?_)⟩⟩
 ·have e:aK m<=0:=of_decide_eq_true e
  have ab:dQ m=false:=by
   unfold dQ
   rw[decide_eq_false (p:=0<aK m) (by omega),Bool.and_false,Bool.and_false]
  refine⟨_,rfl,t,bs,m,rfl,hT.same s1,cN,hB.mono (by decide),λr rs H2 s2 fr frs nr T2=> ?_⟩
  obtain⟨k,k1,k2,k3⟩:=aY T2 (bP _) (i:=2) (by decide)
  refine⟨r,_,_,_,rfl,rfl,aN.of T2.1,k1,?_⟩
  have Yv:0<ent (gy m) 2 2:=by
   rw[Qc,kq hS (i:=0) (j:=1) (by decide) (by decide)]
   exact d
  refine q2 ab (λj=>ent (gy m) 2 j) k H2 (s1.trans s2) (s1.none (frs k k3)) k2 (λz=>by have y:ent (gy m) 2 2=0:=z.2.2;omega) ?_ (λj hj=> ?_)
  ·rw[Uk]
   exact Int.mul_nonpos_of_nonpos_of_nonneg e (by omega)
  ·show(ent (gy m) 2 j).natAbs<_
   rw[cD m (by decide) hj]
   exact aL (FD hB j 2) (by decide)
 ·have e:0<aK m:=by
   have:¬aK m<=0:=λz=>e (decide_eq_true z)
   omega
  refine q1 ?_ H1 s1
  unfold dQ
  rw[decide_eq_true c,decide_eq_true e,decide_eq_true (p:=ent m 0 1*ent m 0 1<ent m 0 0*ent m 1 1) (by omega)]
  rfl
def qg:Sp:=λvs H Q _=> ∃z:Int,vs=[.int z]/\Q (.bl true) H
theorem BS(F:fC K mg "is_whole" qI jd)(bq:mg "isinstance"=none)(lS:mg "int"=none)(tL:mg "bool"=none):cQ P w K mg base cj 1 "is_whole" jd qg:=by
 refine F.ok BI (λvs H Q E h=> ?_) (λf cdv A outer s H vs Q E hr h=> ?_)
 ·obtain⟨z,rfl,q⟩:=h
  rfl
 obtain⟨z,rfl,q⟩:=h
 have hu:=hr.units
 refine⟨_,(c6 (aO (qy (bD eH rfl bq PyProof.Rows.boot_isinstance (af (pv 0) (af (jn (v:= .ty "int") rfl lS PyProof.Rows.boot_int rfl) ak))) (sD (Qz (bD eH rfl bq PyProof.Rows.boot_isinstance (af (pv 0) (af (jn (v:= .ty "bool") rfl tL PyProof.Rows.boot_bool rfl) ak)))))))),?_⟩
 exact⟨_,rfl,_,_,_,_,rfl,.int _,jy K "int",_,rfl,xW ⟨_,rfl,_,_,_,_,rfl,.int _,rF K,_,rfl,q⟩⟩
def vC(T0:Addr):Sp:=λvs H Q _=> ∃(b:Addr) (x:Nat->Int),vs=[.ref b]/\cP H b x/\H T0=some (cu T0)/\ ∀H',au H H'->Q (.bl true) H'
theorem HU{aW:Addr}(F:mW K mg "is_row" wj mX aW)(bm:BM mg base)(bq:mg "isinstance"=none)(eZ:mg "list"=none)(gA:mg "len"=none)(iV:mg "all"=none)(ji:cQ P w K mg base cj 1 "is_whole" jd qg):cQ P w K mg base cj 3 "is_row" mX (vC aW):=by
 refine F.ok HR (λvs H Q E h=> ?_) (λf cdv A outer s H vs Q E cd hr h=> ?_)
 ·obtain⟨b,x,rfl,hx,hP,q⟩:=h
  rfl
 obtain⟨b,x,rfl,hx,hP,q⟩:=h
 have hu:=hr.units
 refine⟨_,(mR (@ao _ _ _ _ _ (cV (PW.pt (oE (gW (gv (bD eH rfl bq PyProof.Rows.boot_isinstance (af (pv 0) (af (jn (v:= .ty "list") rfl eZ PyProof.Rows.boot_list rfl) ak))))) (lV (bg ju (bD dX rfl gA PySem.boot_len (af (pv 0) ak)) ah (bf _))))) (@aM _ _ _ (aO jt)) cU)
  (@aM _ _ _ (aO (vp (N2:=["thing"]) (te:=(mQ qg [] E0 (bK (aD 0) gM))) rfl (gw.depth hr) cd bm rfl iV (bN (pv 0)) (by kernel_rfl) (λ_ _ _ _=>by exact dJ (aR ji (vU hr) rfl aQ (af (pv 0) ak)))))))),?_⟩
 refine⟨_,rfl,_,_,_,_,rfl,.lst hx,jy K "list",_,rfl,jv ⟨_,rfl,b,_,rfl,.inl (aN.of hx),rfl,_,rfl,yO rfl ?_⟩⟩
 refine⟨_,rfl,b,rfl,⟨_,aN.of hx⟩,z6 (bU (aN.of hx)) hP (λ_=>true) (λj y ey H1 Q1 s1 k1=> ?_) (λc H1 s1 hc=> ?_)⟩
 ·obtain⟨z,rfl⟩:∃z,y= .int z:=by
   have hy:=List.mem_of_getElem? ey
   simp only[List.mem_cons,List.not_mem_nil,or_false]at hy
   rcases hy with rfl|rfl|rfl<;>exact⟨_,rfl⟩
  exact⟨_,rfl,z,rfl,k1 H1 (au.refl _)⟩
 ·have e:c=true:=hc.mpr λ_ _=>rfl
  subst e
  exact q H1 s1
def tM(T1 T0:Addr):Sp:=λvs H Q _=> ∃(t:Addr) (bs:List Addr) (m:List (List Int)),vs=[.ref t]/\Tab H t bs m/\bC m/\H T1=some (cu T1)/\H T0=some (cu T0)/\ ∀H',au H H'->Q (.bl true) H'
theorem BU{aW aU:Addr}(F:mW K mg "is_table" qJ je aU)(bm:BM mg base)(bq:mg "isinstance"=none)(eZ:mg "list"=none)(gA:mg "len"=none)(iV:mg "all"=none)(nj:cQ P w K mg base cj 3 "is_row" mX (vC aW)):cQ P w K mg base cj 5 "is_table" je (tM aW aU):=by
 refine F.ok BJ (λvs H Q E h=> ?_) (λf cdv A outer s H vs Q E cd hr h=> ?_)
 ·obtain⟨t,bs,m,rfl,hT,cN,hR,hP,q⟩:=h
  rfl
 obtain⟨t,bs,m,rfl,hT,cN,hR,hP,q⟩:=h
 have hu:=hr.units
 refine⟨_,(mR (@ao _ _ _ _ _ (cV (PW.pt (oE (gW (gv (bD eH rfl bq PyProof.Rows.boot_isinstance (af (pv 0) (af (jn (v:= .ty "list") rfl eZ PyProof.Rows.boot_list rfl) ak))))) (lV (bg ju (bD dX rfl gA PySem.boot_len (af (pv 0) ak)) ah (bf _))))) (@aM _ _ _ (aO jt)) cU)
  (@aM _ _ _ (aO (vp (N2:=["thing"]) (te:=(mQ (vC aW) [] E0 (bK (aD 0) gM))) rfl (gw.depth hr) cd bm rfl iV (bN (pv 0)) (by kernel_rfl) (λ_ _ _ _=>by exact dJ (aR nj (vU hr) rfl aQ (af (pv 0) ak)))))))),?_⟩
 have l3:(bs.map V.ref).length=3:=by rw[List.length_map,<-hT.2.length,cN.1]
 refine⟨_,rfl,_,_,_,_,rfl,.lst hT.1,jy K "list",_,rfl,jv ⟨_,rfl,t,_,rfl,.inl (aN.of hT.1),rfl,_,rfl,yO (by rw[l3];rfl) ?_⟩⟩
 refine⟨_,rfl,t,rfl,⟨_,aN.of hT.1⟩,z6 (bU (aN.of hT.1)) hP (λ_=>true) (λj y ey H1 Q1 s1 k1=> ?_) (λc H1 s1 hc=> ?_)⟩
 ·have hj:j<3:=by
   have:=(List.getElem?_eq_some_iff.mp ey).1
   rw[l3]at this
   exact this
  obtain⟨b,e1,e2,_⟩:=aY (hT.same s1) cN hj
  have ex':y= .ref b:=by
   have q1:=dU ey
   rw[e1]at q1
   exact(Option.some.inj q1).symm
  subst ex'
  exact⟨_,rfl,b,λc=>ent m j c,rfl,e2,s1 _ _ hR,k1⟩
 ·have e:c=true:=hc.mpr λ_ _=>rfl
  subst e
  exact q H1 s1
def BV(T1 T2 T0:Addr):Sp:=λvs H Q _=> ∃(t:Addr) (bs:List Addr) (m:List (List Int)),vs=[.ref t]/\Tab H t bs m/\bC m/\bI m/\H T1=some (cu T1)/\H T2=some (cu T2)/\H T0=some (cu T0)/\ ∀H',au H H'->Q (.bl true) H'
theorem tN{aW aU aI:Addr}(F:mW K mg "is_even_table" jQ gf aI)(bm:BM mg base)(iV:mg "all"=none)(aG:mg "range"=none)(jj:cQ P w K mg base cj 6 "is_table" je (tM aW aU))(gr:cQ P w K mg base cj 6 "turned_over" gp DP):cQ P w K mg base cj 7 "is_even_table" gf (BV aW aU aI):=by
 refine F.ok sY (λvs H Q E h=> ?_) (λf cdv A outer s H vs Q E cd hr h=> ?_)
 ·obtain⟨t,bs,m,rfl,hT,cN,ev,hR,hU,hP,q⟩:=h
  rfl
 obtain⟨t,bs,m,rfl,hT,cN,ev,hR,hU,hP,q⟩:=h
 have hu:=hr.units
 refine⟨_,(mR (@ao _ _ _ _ _ (cV (gW (gv (aR jj hr rfl aQ (af (pv 0) ak)))) (@aM _ _ _ (aO jt)) cU)
  (@aM _ _ _ (aO (qy (f7 (JU hu) (pv 0) (aR gr hr rfl aQ (af (pv 0) ak)) (bf _)) (sD (vp (N2:=["thing"]) (te:=(c7 EX (c7 (rI (λ_ j=>0<j) λi j=> .int (i%j)) (c7 (eT K) (c7 (eT K) (aD 1) (aD 0)) (aD 0)) (tC (.int 2))) (tC (.int 0)))) rfl (gw.depth hr) cd bm rfl iV (aZ rfl aG (af ah ak)) (by kernel_rfl) (λ_ _ _ _=>by exact dJ (f7 j7 (ay cR (aE aq (aE aq (pv 1) (pv 0) (λ_ _=>rfl)) (pv 0) (λ_ _=>rfl)) ah) ah (bf _)))))))))),?_⟩
 refine⟨_,rfl,t,bs,m,rfl,hT,cN,hR,hU,λH1 s1=>⟨_,rfl,jv ?_⟩⟩
 refine⟨_,rfl,_,rfl,t,bs,m,rfl,hT.same s1,cN,λr rs H2 s2 fr frs nr Tr=> ?_⟩
 rw[iZ ev cN]at Tr
 refine NQ (uO m) (uB ((hT.same s1).same s2)) (uB Tr) (qE m) ⟨_,rfl,xW ?_⟩
 have s12:=s1.trans s2
 refine⟨3,rfl,by decide,by decide,z6 (dh (n:=3)) (s12 _ _ hP) (λ_=>true) (λj y ey H3 Q3 s3 k3=> ?_) (λc H3 s3 hc=> ?_)⟩
 ·obtain⟨hj,rfl⟩:=bQ ey
  obtain⟨b,row,e1,e2,e3⟩:=nF (hT.same (s12.trans s3)) cN hj hj
  refine⟨_,rfl,_,rfl,t,_,_,_,rfl,rfl,aN.of (hT.same (s12.trans s3)).1,e1,_,rfl,b,_,_,_,rfl,rfl,aN.of e2,e3,_,_,rfl,rfl,(by show(0:Int)<2;decide),rfl,?_⟩
  have e:ent m j j%2=0:=by
   obtain⟨_,a,b,c,p1,p2,p3⟩:=ev
   rcases aC hj with rfl|rfl|rfl<;>omega
  rw[decide_eq_true (congrArg V.int e)]
  exact k3 H3 (au.refl _)
 ·have e:c=true:=hc.mpr λ_ _=>rfl
  subst e
  exact q H3 (s12.trans s3)
def BW(T1 T2 T3:Addr):Sp:=λvs H Q _=> ∃(t:Addr) (bs:List Addr) (m:List (List Int)),vs=[.ref t]/\Tab H t bs m/\bC m/\Bd 440 m/\bI m/\dQ m=true/\H T1=some (cu T1)/\H T2=some (cu T2)/\H T3=some (cu T3)/\True/\ ∀H',au H H'->Q (.bl true) H'
theorem DS{aW aU aI:Addr}(F:fC K mg "is_form" sZ m5)(jV:cQ P w K mg base cj 7 "is_even_table" gf (BV aW aU aI))(tO:cQ P w K mg base cj 7 "low_row" m6 Qh):cQ P w K mg base cj 8 "is_form" m5 (BW aW aU aI):=by
 refine F.ok DI (λvs H Q E h=> ?_) (λf cdv A outer s H vs Q E hr h=> ?_)
 ·obtain⟨t,bs,m,rfl,hT,cN,hB,ev,ab,h1,h2,h3,h4,q⟩:=h
  rfl
 obtain⟨t,bs,m,rfl,hT,cN,hB,ev,ab,h1,h2,h3,h4,q⟩:=h
 have hu:=hr.units
 refine⟨_,(c6 (aO (qy (aR jV hr rfl aQ (af (pv 0) ak)) (sD (f7 QJ (aR tO hr rfl aQ (af (pv 0) ak)) vJ (bf _)))))),?_⟩
 refine⟨_,rfl,t,bs,m,rfl,hT,cN,ev,h1,h2,h3,λH1 s1=>⟨_,rfl,xW ?_⟩⟩
 exact⟨_,rfl,t,bs,m,rfl,hT.same s1,cN,hB,iZ ev cN,trivial,λ_ H2 s2=>⟨rfl,q H2 (s1.trans s2)⟩,λab'=>absurd ab' (by rw[ab];decide)⟩
def LZ(T1 T2 T3:Addr):Sp:=λvs H Q _=> ∃(t:Addr) (bs:List Addr) (m:List (List Int)),vs=[.ref t]/\Tab H t bs m/\bC m/\Bd 440 m/\bI m/\dQ m=true/\aK m/2<=200/\H T1=some (cu T1)/\H T2=some (cu T2)/\H T3=some (cu T3)/\True/\ ∀H',au H H'->Q (.int (aK m/2)) H'
theorem OR{aW aU aI:Addr}(F:fC K mg "half" DJ wo){jW:_}(jX:mg "GREATEST_HALF"=some (Value.int 200 jW))(tP:cQ P w K mg base cj 8 "is_form" m5 (BW aW aU aI))(cK:cQ P w K mg base cj 8 "determinant" eK BR):cQ P w K mg base cj 9 "half" wo (LZ aW aU aI):=by
 refine F.ok FT (λvs H Q E h=> ?_) (λf cdv A outer s H vs Q E hr h=> ?_)
 ·obtain⟨t,bs,m,rfl,hT,cN,hB,ev,ab,le,h1,h2,h3,h4,q⟩:=h
  rfl
 obtain⟨t,bs,m,rfl,hT,cN,hB,ev,ab,le,h1,h2,h3,h4,q⟩:=h
 have hu:=hr.units
 refine⟨_,(mR (@ao _ _ _ _ _ (cV (gW (gv (aR tP hr rfl aQ (af (pv 0) ak)))) (@aM _ _ _ oO) cU)
  (@ao _ _ _ _ _ (aX (i:=1) FT.nd rfl (Or.inl rfl) (ay fm (aR cK hr rfl aQ (af (pv 0) ak)) ah))
  (@ao _ _ _ _ _ (cV (bg yI (pv 1) (EW (v:= .int 200) rfl jX ⟨_,rfl⟩) (bf _)) (@aM _ _ _ oO) cU)
  (@aM _ _ _ (aO (pv 1))))))),?_⟩
 refine⟨_,rfl,t,bs,m,rfl,hT,cN,hB,ev,ab,h1,h2,h3,h4,λH1 s1=>⟨_,rfl,jv ?_⟩⟩
 refine⟨_,rfl,t,bs,m,rfl,hT.same s1,cN,hB.mono (by decide),trivial,λH2 s2=>⟨_,_,rfl,rfl,⟨by decide,by decide⟩,?_⟩⟩
 refine⟨_,rfl,_,_,rfl,rfl,_,rfl,oS (λc=> ?_) (λ_=>⟨_,rfl,q H2 (s1.trans s2)⟩)⟩
 have c:(200:Int)<aK m/2:=of_decide_eq_true c
 omega
theorem HV{H:Hp}{t:Addr}{bs:List Addr}{m:List (List Int)}(hT:Tab H t bs m)(cN:bC m):∃c0 c1 c2,bs=[c0,c1,c2]/\cP H c0 (λc=>ent m 0 c)/\cP H c1 (λc=>ent m 1 c)/\cP H c2 (λc=>ent m 2 c):=by
 have l3:bs.length=3:=by rw[<-hT.2.length,cN.1]
 match bs,l3,hT with
 | [c0,c1,c2],_,hT=>
  obtain⟨b0,x1,x2,_⟩:=aY hT cN (i:=0) (by decide)
  obtain⟨b1,y1,y2,_⟩:=aY hT cN (i:=1) (by decide)
  obtain⟨b2,w1,w2,_⟩:=aY hT cN (i:=2) (by decide)
  cases x1;cases y1;cases w1
  exact⟨c0,c1,c2,rfl,x2,y2,w2⟩
def DT(T0:Addr):Sp:=λvs H Q _=> ∃(t:Addr) (bs:List Addr) (m:List (List Int)) (a b:Addr) (x y:Nat->Int),vs=[.ref t,.ref a,.ref b]/\Tab H t bs m/\bC m/\Bd 1000 m/\cP H a x/\cP H b y/\(∀i,i<3->(x i).natAbs<2^1000)/\(∀i,i<3->(y i).natAbs<2^1000)/\H T0=some (cu T0)/\ ∀H',au H H'->Q (.int (aJ m x y)) H'
theorem DU{aT:Addr}(F:mW K mg "pairing" tu kE aT)(bm:BM mg base)(oJ:mg "sum"=none)(oH:mg "zip"=none):cQ P w K mg base cj 1 "pairing" kE (DT aT):=by
 refine F.ok nK (λvs H Q E h=> ?_) (λf cdv A outer s H vs Q E cd hr h=> ?_)
 ·obtain⟨t,bs,m,a,b,x,y,rfl,hT,cN,hB,hx,hy,bx,bY,hP,q⟩:=h
  rfl
 obtain⟨t,bs,m,a,b,x,y,rfl,hT,cN,hB,hx,hy,bx,bY,hP,q⟩:=h
 have hu:=hr.units
 refine⟨_,(mR (@ao _ _ _ _ _ (nA (pv 2) (rH rfl (cz (bL (i:=3) nK.nd rfl (Or.inr rfl)) (cz (bL (i:=4) nK.nd rfl (Or.inr rfl)) (cz (bL (i:=5) nK.nd rfl (Or.inr rfl)) kg)))))
  (@aM _ _ _ (aO (NT (N2:=["table","one","other","x","y","z"]) (te:=(c7 (rI iH λi j=> .int (i*j)) (aD 0) (c7 (CO λi j=> .int (i+j)) (c7 (CO λi j=> .int (i+j)) (c7 (rI iH λi j=> .int (i*j)) (c7 (eT K) (aD 1) (tC (.int 0))) (aD 5)) (c7 (rI iH λi j=> .int (i*j)) (c7 (eT K) (aD 1) (tC (.int 1))) (aD 6))) (c7 (rI iH λi j=> .int (i*j)) (c7 (eT K) (aD 1) (tC (.int 2))) (aD 7))))) rfl (gw.depth hr) cd bm rfl oJ (Aa rfl oH (af (pv 1) (af (pv 0) ak))) (by kernel_rfl) (λ_ _ _ _=>by exact dJ (ay bA (pv 0) (ay dI (ay dI (ay bA (aE aq (pv 1) ah (λ_ _=>rfl)) (pv 5)) (ay bA (aE aq (pv 1) ah (λ_ _=>rfl)) (pv 6))) (ay bA (aE aq (pv 1) ah (λ_ _=>rfl)) (pv 7)))))))))),?_⟩
 obtain⟨c0,c1,c2,rfl,x2,y2,w2⟩:=HV hT cN
 refine⟨_,rfl,b,_,rfl,aN.of hy,rfl,_,_,rfl,_,_,rfl,_,_,rfl,rfl,?_⟩
 refine⟨_,rfl,_,rfl,a,t,_,_,rfl,aN.of hx,aN.of hT.1,NV (aN.of hx) (aN.of hT.1) rfl hP (λi=>x i*(ent m i 0*y 0+ent m i 1*y 1+ent m i 2*y 2)) (λi u v eu ev H' Q' sm k=> ?_) (λH' sm=> ?_)⟩
 ·have hi:i<3:=(List.getElem?_eq_some_iff.mp eu).1
  obtain⟨c,e1,e2,_⟩:=aY (hT.same sm) cN hi
  have UE:u= .int (x i):=by
   rcases aC hi with rfl|rfl|rfl<;>exact(Option.some.inj eu).symm
  have ev':v= .ref c:=by
   have q1:=dU ev
   rw[e1]at q1
   exact(Option.some.inj q1).symm
  subst UE ev'
  have b0:=dz (hB i 0 hi (by decide)) (bY 0 (by decide))
  have b1:=dz (hB i 1 hi (by decide)) (bY 1 (by decide))
  have b2:=dz (hB i 2 hi (by decide)) (bY 2 (by decide))
  have bs:=oZ (oZ b0 b1) (aL b2 (by decide))
  exact⟨_,rfl,_,rfl,c,_,_,_,rfl,rfl,aN.of e2,rfl,_,rfl,_,_,rfl,rfl,⟨aL (hB i 0 hi (by decide)) (by decide),aL (bY 0 (by decide)) (by decide)⟩,_,rfl,c,_,_,_,rfl,rfl,aN.of e2,rfl,_,rfl,_,_,rfl,rfl,⟨aL (hB i 1 hi (by decide)) (by decide),aL (bY 1 (by decide)) (by decide)⟩,_,_,rfl,rfl,_,rfl,c,_,_,_,rfl,rfl,aN.of e2,rfl,_,rfl,_,_,rfl,rfl,⟨aL (hB i 2 hi (by decide)) (by decide),aL (bY 2 (by decide)) (by decide)⟩,_,_,rfl,rfl,_,_,rfl,rfl,⟨aL (bx i hi) (by decide),aL bs (by decide)⟩,k H' (au.refl _)⟩
 ·have e:PySem.preSum (λi=>x i*(ent m i 0*y 0+ent m i 1*y 1+ent m i 2*y 2)) 3=aJ m x y:=by
   rw[bH]
   show 0+x 0*(ent m 0 0*y 0+ent m 0 1*y 1+ent m 0 2*y 2)+x 1*(ent m 1 0*y 0+ent m 1 1*y 1+ent m 1 2*y 2)+x 2*(ent m 2 0*y 0+ent m 2 1*y 1+ent m 2 2*y 2)=_
   grind
  have q:=q H' sm
  rw[<-e]at q
  exact q
def Au(T0:Addr):Sp:=λvs H Q _=> ∃(t:Addr) (bs:List Addr) (m:List (List Int)) (a:Addr) (x:Nat->Int),vs=[.ref t,.ref a]/\Tab H t bs m/\bC m/\Bd 1000 m/\cP H a x/\(∀i,i<3->(x i).natAbs<2^1000)/\H T0=some (cu T0)/\ ∀H',au H H'->Q (.int (aH m x)) H'
theorem Ma{aT:Addr}(F:fC K mg "worth" Ai qd)(kF:cQ P w K mg base cj 1 "pairing" kE (DT aT)):cQ P w K mg base cj 2 "worth" qd (Au aT):=by
 refine F.ok LR (λvs H Q E h=> ?_) (λf cdv A outer s H vs Q E hr h=> ?_)
 ·obtain⟨t,bs,m,a,x,rfl,hT,cN,hB,hx,bx,hP,q⟩:=h
  rfl
 obtain⟨t,bs,m,a,x,rfl,hT,cN,hB,hx,bx,hP,q⟩:=h
 have hu:=hr.units
 refine⟨_,(c6 (aO (ay fm (aR kF hr rfl aQ (af (pv 0) (af (pv 1) (af (pv 1) ak)))) ah))),?_⟩
 exact⟨_,rfl,_,rfl,_,rfl,t,bs,m,a,a,x,x,rfl,hT,cN,hB,hx,hx,bx,bx,hP,λH' sm=>⟨_,_,rfl,rfl,⟨by decide,by decide⟩,q H' sm⟩⟩
end
end CN
set_option maxHeartbeats 1000000
namespace CN
open PySem L2
section
variable{P:Program}{w:World}{K:PySem.W.Frag}{mg:Str->Option Value}{base:Heap}
def zg:Sp:=λvs H Q _=> ∃h p:Int,vs=[.int h,.int p]/\p∈([3,5,7,11,13]:List Int)/\h%p≠0/\Q (.bl true) H
theorem wH(F:fC K mg "is_prime_by" l9 g6){jJ:Addr}(wI:mg "PRIMES"=some (Value.ref jJ))(wJ:∀H:Hp,p6 K H jJ [.int 3,.int 5,.int 7,.int 11,.int 13])(ji:cQ P w K mg base cj 1 "is_whole" jd qg):cQ P w K mg base cj 2 "is_prime_by" g6 zg:=by
 refine F.ok wu (λvs H Q E h=> ?_) (λf cdv A outer s H vs Q E hr h=> ?_)
 ·obtain⟨h,p,rfl,hp,hd,q⟩:=h
  rfl
 obtain⟨h,p,rfl,hp,hd,q⟩:=h
 have hu:=hr.units
 refine⟨_,(c6 (aO (qy (aR ji hr rfl aQ (af (pv 1) ak)) (qy (f7 GG (pv 1) (EW (v:= .ref jJ) rfl wI rfl) (by rfl)) (sD (f7 ju (ay cR (pv 0) (pv 1)) ah (bf _))))))),?_⟩
 have p0:0<p:=by
  simp only[List.mem_cons,List.not_mem_nil,or_false]at hp
  omega
 have e:Wn (.int p) [.int 3,.int 5,.int 7,.int 11,.int 13]=true:=by
  simp only[List.mem_cons,List.not_mem_nil,or_false]at hp
  rcases hp with rfl|rfl|rfl|rfl|rfl<;>rfl
 refine⟨_,rfl,p,rfl,_,rfl,xW ⟨_,rfl,jJ,_,rfl,.inr (wJ H),rfl,rfl,_,rfl,Uo e ⟨_,rfl,_,rfl,_,_,rfl,rfl,p0,rfl,?_⟩⟩⟩
 rw[decide_eq_false (p:=V.int (h%p)=V.int 0) (λz=>hd (V.int.inj z))]
 exact q
def Mb(T1 T2 T3:Addr):Sp:=λvs H Q _=> ∃(t:Addr) (bs:List Addr) (m:List (List Int)) (p:Int),vs=[.ref t,.int p]/\Tab H t bs m/\bC m/\Bd 440 m/\bI m/\dQ m=true/\aK m/2<=200/\H T1=some (cu T1)/\H T2=some (cu T2)/\H T3=some (cu T3)/\p∈([3,5,7,11,13]:List Int)/\aK m/2%p≠0/\ ∀H',au H H'->Q .gu H'
theorem qR{aW aU aI:Addr}(F:fC K mg "refuse_no_prime" iI fJ)(mz:cQ P w K mg base cj 9 "is_prime_by" g6 zg)(DW:cQ P w K mg base cj 9 "half" wo (LZ aW aU aI)):cQ P w K mg base cj 10 "refuse_no_prime" fJ (Mb aW aU aI):=by
 refine F.ok qL (λvs H Q E h=> ?_) (λf cdv A outer s H vs Q E hr h=> ?_)
 ·obtain⟨t,bs,m,p,rfl,hT,cN,hB,ev,ab,le,h1,h2,h3,hp,hd,q⟩:=h
  rfl
 obtain⟨t,bs,m,p,rfl,hT,cN,hB,ev,ab,le,h1,h2,h3,hp,hd,q⟩:=h
 have hu:=hr.units
 refine⟨_,(c6 (cV (gW (gv (aR mz hr rfl aQ (af (aR DW hr rfl aQ (af (pv 0) ak)) (af (pv 1) ak))))) (@aM _ _ _ oO) cU)),?_⟩
 exact⟨_,rfl,t,bs,m,rfl,hT,cN,hB,ev,ab,le,h1,h2,h3,trivial,λH1 s1=>⟨_,rfl,_,p,rfl,hp,hd,⟨_,rfl,jv (q H1 s1)⟩⟩⟩
def RK:Sp:=λvs H Q _=> ∃n p:Int,vs=[.int n,.int p]/\p∈([3,5,7,11,13]:List Int)/\n%p≠0/\ ∀(u:Int) H',0<u->u<p->u*n%p=1->au H H'->Q (.int u) H'
theorem BX(F:fC K mg "upturned" qM jf)(aG:mg "range"=none):cQ P w K mg base cj 1 "upturned" jf RK:=by
 refine F.ok BK (λvs H Q E h=> ?_) (λf cdv A outer s H vs Q E hr h=> ?_)
 ·obtain⟨n,p,rfl,hp,hn,q⟩:=h
  rfl
 obtain⟨n,p,rfl,hp,hn,q⟩:=h
 have hu:=hr.units
 refine⟨_,(c6 (aO (aE aq (lP (N2:=["number","p"]) (tt:=(lN (c7 EX (c7 (rI (λ_ j=>0<j) λi j=> .int (i%j)) (c7 (rI qA λi j=> .int (i*j)) (aD 0) (aD 1)) (aD 2)) (tC (.int 1))))) (te:=(aD 0)) rfl (yH rfl aG (af ah (af (pv 1) ak))) (by kernel_rfl) rfl (λ_ _ _=>by exact rK (bg j7 (ay cR (ay bO (pv 0) (pv 1)) (pv 2)) ah (bf _))) (λ_ _ _=>by exact dJ (pv 0))) ah (λ_ _=>rfl)))),?_⟩
 have p0:2<p/\p<14:=by
  simp only[List.mem_cons,List.not_mem_nil,or_false]at hp
  omega
 refine⟨_,rfl,1,p,rfl,⟨by decide,by decide,by omega,by omega⟩,λD hD=>di Hq (by rw[nJ];exact Nat.le_of_lt (iY (by omega))) hD (λv=>match v with| .int t=>decide (V.int (t*n%p)=V.int 1)|_=>false) id (λx hx H2 R s2 kk=> ?_) (λx hx px H2 Q' s2 kk=>⟨_,rfl,kk H2 (au.refl _)⟩) (λH2 s2 e2=> ?_)⟩
 ·obtain⟨i,hi⟩:=List.mem_iff_getElem?.mp hx
  obtain⟨hj,rfl⟩:=v8 hi
  exact⟨_,rfl,_,rfl,_,_,rfl,rfl,.inl ⟨by omega,by omega⟩,_,rfl,_,_,rfl,rfl,(by show(0:Int)<p;omega),rfl,_,rfl,kk H2 (au.refl _)⟩
 ·obtain⟨t,ht,et⟩:=pq hp hn
  generalize OP:((qG 1 (p-1).toNat).filter (λv=>match v with| .int t=>decide (V.int (t*n%p)=V.int 1)|_=>false)).map id=Ls at e2
  have mem:∀v∈Ls,∃u:Int,v= .int u/\0<u/\u<p/\u*n%p=1:=λv hv=>by
   rw[<-OP,List.map_id,List.mem_filter]at hv
   obtain⟨i,hi⟩:=List.mem_iff_getElem?.mp hv.1
   obtain⟨hj,rfl⟩:=v8 hi
   exact⟨_,rfl,by omega,by omega,V.int.inj (of_decide_eq_true hv.2)⟩
  have ne:Ls≠ []:=λz=>by
   have:V.int (1+(t:Int))∈Ls:=by
    rw[<-OP,List.map_id,List.mem_filter]
    refine⟨List.mem_map.mpr ⟨t,List.mem_range.mpr ht,rfl⟩,decide_eq_true (congrArg V.int et)⟩
   rw[z]at this
   cases this
  match Ls,ne,mem,e2 with
  |v::r,_,mem,e2=>
   obtain⟨u,rfl,u0,u1,eu⟩:=mem v List.mem_cons_self
   exact⟨D,_,_,_,rfl,rfl,aN.of e2,kQ,q u H2 u0 u1 eu s2⟩
def vD(T0:Addr):Sp:=λvs H Q _=> ∃(t:Addr) (bs:List Addr) (m:List (List Int)) (p:Int) (b:Addr) (x:Nat->Int),vs=[.ref t,.int p,.ref b]/\Tab H t bs m/\bC m/\Bd 1000 m/\p∈([3,5,7,11,13]:List Int)/\cP H b x/\H T0=some (cu T0)/\(¬Dw m p x-> ∀H',au H H'->Q .gu H')/\(Dw m p x-> ∀(u:Int) (a:Addr) H',0<u->u<p->u*jA p x%p=1->au H H'->H a=none->cP H' a (λi=>u*(x i%p)%p) ->Q (.ref a) H')
theorem yh{aT:Addr}(F:fC K mg "line_under" nM gP)(qh:cQ P w K mg base cj 3 "worth" qd (Au aT))(jk:cQ P w K mg base cj 3 "upturned" jf RK):cQ P w K mg base cj 4 "line_under" gP (vD aT):=by
 refine F.ok jr (λvs H Q E h=> ?_) (λf cdv A outer s H vs Q E hr h=> ?_)
 ·obtain⟨t,bs,m,p,b,x,rfl,hT,cN,hB,hp,hx,hP,q1,q2⟩:=h
  rfl
 obtain⟨t,bs,m,p,b,x,rfl,hT,cN,hB,hp,hx,hP,q1,q2⟩:=h
 have hu:=hr.units
 refine⟨_,(mR (@ao _ _ _ _ _ (sL (i:=3) jr.nd rfl rfl (N2:=["form","p","row","rests","leading","times"]) (te:=(c7 (rI (λ_ j=>0<j) λi j=> .int (i%j)) (aD 0) (aD 2))) rfl (bN (pv 2)) (by kernel_rfl) rfl (λ_ _ _=>by exact dJ (ay cR (pv 0) (pv 2))))
  (@ao _ _ _ _ _ (rJ (i:=4) jr.nd rfl rfl (N2:=["form","p","row","rests","leading","times"]) (tt:=(lN (c7 PF (aD 0) (tC (.int 0))))) (te:=(aD 0)) rfl (bN (pv 3)) (by kernel_rfl) rfl (λ_ _ _=>by exact rK (bg ju (pv 0) ah (bf _))) (λ_ _ _=>by exact dJ (pv 0)))
  (@ao _ _ _ _ _ (cV (PW.pt (oE (gW (JC (pv 4) (λ_=>rfl))) (lV (bg ju (ay cR (aR qh hr rfl aQ (af (pv 0) (af (pv 3) ak))) (pv 1)) ah (bf _))))) (@aM _ _ _ (aO vJ)) cU)
  (@ao _ _ _ _ _ (aX (i:=5) jr.nd rfl (Or.inr rfl) (aR jk hr rfl aQ (af (aE aq (pv 4) ah (λ_ _=>rfl)) (af (pv 1) ak))))
  (@aM _ _ _ (aO (dP (N2:=["form","p","row","rests","leading","times"]) (te:=(c7 (rI (λ_ j=>0<j) λi j=> .int (i%j)) (c7 (rI qA λi j=> .int (i*j)) (aD 6) (aD 0)) (aD 2))) rfl (bN (pv 3)) (by kernel_rfl) rfl (λ_ _ _=>by exact dJ (ay cR (ay bO (pv 6) (pv 0)) (pv 2))))))))))),?_⟩
 have p0:2<p/\p<14:=by
  simp only[List.mem_cons,List.not_mem_nil,or_false]at hp
  omega
 have r0:∀i,0<=x i%p:=λi=>Int.emod_nonneg _ (by omega)
 have r1:∀i,x i%p<p:=λi=>Int.emod_lt_of_pos _ (by omega)
 refine⟨_,rfl,b,rfl,⟨_,aN.of hx⟩,λR hR=>eE (bU (aN.of hx)) rfl hR (λi=>x i%p) (λj y hj ey H1 Q1 s1 k1=> ?_) (λH1 s1 e1=> ?_)⟩
 ·have Mc:y= .int (x j):=by
   rcases aC hj with rfl|rfl|rfl<;>exact(Option.some.inj ey).symm
  subst Mc
  exact⟨_,rfl,_,rfl,_,_,rfl,rfl,(by show(0:Int)<p;omega),k1 H1 (au.refl _)⟩
 refine⟨_,rfl,R,rfl,⟨_,aN.of e1⟩,λD hD=>di (bU (aN.of e1)) (by show 3<=sizeLine;decide) hD (λv=>match v with| .int z=> !decide (V.int z=V.int 0)|_=>false) id (λy hy H2 R2 s2 kk=> ?_) (λy hy px H2 Q' s2 kk=>⟨_,rfl,kk H2 (au.refl _)⟩) (λH2 s2 e2=> ?_)⟩
 ·simp only[List.mem_cons,List.not_mem_nil,or_false]at hy
  rcases hy with rfl|rfl|rfl<;>exact⟨_,rfl,rfl,_,rfl,kk H2 (au.refl _)⟩
 have s12:=s1.trans s2
 obtain⟨Ls,OP,hL1,hL2⟩:∃Ls:List V,([V.int (x 0%p),.int (x 1%p),.int (x 2%p)].filter (λv=>match v with| .int z=> !decide (V.int z=V.int 0)|_=>false)).map id=Ls/\(iU p x->Ls=[])/\(¬iU p x-> ∃r,Ls= .int (jA p x)::r):=by
  refine⟨_,rfl,λz=> ?_,λz=> ?_⟩
  ·obtain⟨z0,z1,z2⟩:=z
   simp[z0,z1,z2]
  ·unfold jA
   unfold iU at z
   by_cases z0:x 0%p=0
   ·by_cases z1:x 1%p=0
    ·have z2:¬x 2%p=0:=by omega
     simp[z0,z1,z2]
    ·simp[z0,z1,List.filter_cons]
   ·simp[z0,List.filter_cons]
 rw[OP]at e2
 refine⟨_,rfl,!Ls.isEmpty,.inl ⟨Ls,aN.of e2,rfl⟩,?_⟩
 by_cases z:iU p x
 ·rw[hL1 z]
  exact xW (xW (q1 (λc=>c.1 z) H2 s12))
 obtain⟨r,er⟩:=hL2 z
 subst er
 refine jv ⟨_,rfl,_,rfl,t,bs,m,R,(λi=>x i%p),rfl,hT.same s12,cN,hB.mono (by decide),s2 _ _ e1,(λi _=>aL (a:=4) (by have:=r0 i;have:=r1 i;show(x i%p).natAbs<2^4;omega) (by decide)),s12 _ _ hP,λH3 s3=>⟨_,rfl,_,_,rfl,rfl,(by show(0:Int)<p;omega),rfl,_,rfl,?_⟩⟩
 have tK:=s12.trans s3
 by_cases w:aH m (λi=>x i%p)%p=0
 ·refine WJ (by simp[w]) ?_
  have lt:=Ky (x:=x) (show 0<p by omega)
  refine⟨_,rfl,D,_,_,_,rfl,rfl,aN.of (s3 _ _ e2),kQ,_,rfl,_,p,rfl,hp,(by rw[bJ lt.1 lt.2];exact Kx z),λu H4 u0 u1 eu s4=> ?_⟩
  have wD:=tK.trans s4
  have e4:=s4 _ _ (s3 _ _ (s2 _ _ e1))
  refine⟨_,rfl,R,rfl,⟨_,aN.of e4⟩,λD2 pN=>eE (bU (aN.of e4)) rfl pN (λi=>u*(x i%p)%p) (λj y hj ey H5 Q5 s5 k5=> ?_) (λH5 s5 e5=>q2 ⟨z,w⟩ u D2 H5 u0 u1 eu (wD.trans s5) (wD.none pN) e5)⟩
  have Mc:y= .int (x j%p):=by
   rcases aC hj with rfl|rfl|rfl<;>exact(Option.some.inj ey).symm
  subst Mc
  exact⟨_,rfl,_,rfl,_,_,rfl,rfl,.inl ⟨by omega,by omega⟩,_,rfl,_,_,rfl,rfl,(by show(0:Int)<p;omega),k5 H5 (au.refl _)⟩
 ·exact Uo (by simp[w]) (q1 (λc=>w c.2) H3 tK)
def BY(T0:Addr):Sp:=λvs H Q _=> ∃(t:Addr) (bs:List Addr) (m:List (List Int)) (p:Int) (b:Addr) (x:Nat->Int),vs=[.ref t,.int p,.ref b]/\Tab H t bs m/\bC m/\Bd 440 m/\0<p/\cP H b x/\(∀i,i<3->(x i).natAbs<2^400)/\H T0=some (cu T0)/\ ∀r H',au H H'->H r=none->cP H' r (λj=>az m x j%p) ->Q (.ref r) H'
theorem HW{dj:Addr}(F:mW K mg "slopes" wz pD dj)(bm:BM mg base)(oJ:mg "sum"=none)(aG:mg "range"=none):cQ P w K mg base cj 1 "slopes" pD (BY dj):=by
 refine F.ok HS (λvs H Q E h=> ?_) (λf cdv A outer s H vs Q E cd hr h=> ?_)
 ·obtain⟨t,bs,m,p,b,x,rfl,hT,cN,hB,hp0,hx,bx,hP,q⟩:=h
  rfl
 obtain⟨t,bs,m,p,b,x,rfl,hT,cN,hB,hp0,hx,bx,hP,q⟩:=h
 have hu:=hr.units
 refine⟨_,(c6 (aO (dP (N2:=["form","p","line"]) (te:=(c7 (rI (λ_ j=>0<j) λi j=> .int (i%j)) (yQ 1 dj (qp (bK (tC (.int 3)) gM)) (cg 0) (c7 (rI iH λi j=> .int (i*j)) (c7 (eT K) (aD 4) (aD 0)) (c7 (eT K) (c7 (eT K) (aD 2) (aD 0)) (aD 1)))) (aD 2))) rfl (aZ rfl aG (af ah ak)) (by kernel_rfl) rfl (λ_ _ _=>by exact dJ (ay cR (Fw (N2:=["j","form","p","line"]) (te:=(c7 (rI iH λi j=> .int (i*j)) (c7 (eT K) (aD 4) (aD 0)) (c7 (eT K) (c7 (eT K) (aD 2) (aD 0)) (aD 1)))) rfl (gw.depth hr) cd bm rfl oJ (aZ rfl aG (af ah ak)) (by kernel_rfl) (λ_ _ _ _=>by exact dJ (ay bA (aE aq (pv 4) (pv 0) (λ_ _=>rfl)) (aE aq (aE aq (pv 2) (pv 0) (λ_ _=>rfl)) (pv 1) (λ_ _=>rfl))))) (pv 2)))))),?_⟩
 refine⟨3,rfl,by decide,by decide,λD hD=>eE (dh (n:=3)) rfl hD (λj=>az m x j%p) (λj y hj ey H1 Q1 s1 k1=> ?_) (λH1 s1 e1=>q D H1 s1 hD e1)⟩
 obtain⟨_,rfl⟩:=bQ ey
 refine⟨3,rfl,by decide,by decide,JZ (dh (n:=3)) (s1 _ _ hP) (λi=>x i*ent m i j) (λi z ez H2 Q2 s2 k2=> ?_) (λH2 s2=> ?_)⟩
 ·obtain⟨hi,rfl⟩:=bQ ez
  have sm:=s1.trans s2
  obtain⟨c,row,f1,f2,f3⟩:=nF (hT.same sm) cN hi hj
  exact⟨_,rfl,_,rfl,b,_,_,_,rfl,rfl,aN.of (sm _ _ hx),jO x hi,_,rfl,_,rfl,t,_,_,_,rfl,rfl,aN.of (hT.same sm).1,f1,_,rfl,c,_,_,_,rfl,rfl,aN.of f2,f3,_,_,rfl,rfl,⟨aL (bx i hi) (by decide),aL (hB i j hi hj) (by decide)⟩,k2 H2 (au.refl _)⟩
 ·have k:=k1 H2 s2
  have e:preSum (λi=>x i*ent m i j) (iG 3).length=az m x j:=Ub _
  rw[e]
  exact⟨_,rfl,_,_,rfl,rfl,hp0,k⟩
def Me(T0:Addr):Sp:=λvs H Q _=> ∃(b:Addr) (s:Nat->Int),vs=[.ref b]/\cP H b s/\H T0=some (cu T0)/\ ¬(s 0=0/\s 1=0/\s 2=0)/\ ∀(i:Nat) H',au H H'->i<3->s i≠0->(∀j,i<j->j<3->s j=0) ->Q (.int (i:Int)) H'
theorem yi{bz:Addr}(F:mW K mg "last_slope" nN iJ bz)(bm:BM mg base)(Mf:mg "max"=none)(aG:mg "range"=none):cQ P w K mg base cj 1 "last_slope" iJ (Me bz):=by
 refine F.ok x9 (λvs H Q E h=> ?_) (λf cdv A outer s H vs Q E cd hr h=> ?_)
 ·obtain⟨b,s,rfl,hx,hP,ex,q⟩:=h
  rfl
 obtain⟨b,s,rfl,hx,hP,ex,q⟩:=h
 have hu:=hr.units
 refine⟨_,(c6 (aO (LM (N2:=["told"]) (tt:=(lN (c7 PF (c7 (eT K) (aD 1) (aD 0)) (tC (.int 0))))) (te:=(aD 0)) rfl (gw.depth hr) cd bm rfl Mf (aZ rfl aG (af ah ak)) (by kernel_rfl) (λ_ _ _ _=>by exact rK (bg ju (aE aq (pv 1) (pv 0) (λ_ _=>rfl)) ah (bf _))) (λ_ _ _ _=>by exact dJ (pv 0))))),?_⟩
 refine⟨3,rfl,by decide,by decide,ON hP (λj=> !decide (V.int (s j)=V.int 0)) ?_ (λj hj H1 R s1 k1=> ?_) (λj hj H1 Q1 s1 k1=>⟨_,rfl,k1⟩) (λi H1 s1 hi h1 h2=>q i H1 s1 hi (λz=>by simp[z]at h1) (λj a b=>by have:=h2 j a b;simpa using this))⟩
 ·rcases Classical.em (s 0=0)with z0|z0
  ·rcases Classical.em (s 1=0)with z1|z1
   ·exact .inr (.inr (by simpa using λz2=>ex ⟨z0,z1,z2⟩))
   ·exact .inr (.inl (by simpa using z1))
  ·exact .inl (by simpa using z0)
 ·exact⟨_,rfl,_,rfl,b,_,_,_,rfl,rfl,aN.of (s1 _ _ hx),(by rw[Int.zero_add];exact jO s hj),rfl,_,rfl,k1 H1 (au.refl _)⟩
def FY(T1 T2 T3:Addr):Sp:=λvs H Q _=> ∃(t:Addr) (bs:List Addr) (m:List (List Int)) (p:Int) (b:Addr) (x:Nat->Int),vs=[.ref t,.int p,.ref b]/\Tab H t bs m/\bC m/\Bd 440 m/\bI m/\p∈([3,5,7,11,13]:List Int)/\aK m/2%p≠0/\cP H b x/\jB p x/\aH m x%p=0/\H T1=some (cu T1)/\H T2=some (cu T2)/\H T3=some (cu T3)/\ ∀(i:Nat) (tm:Int) r H',pA m p x i tm->au H H'->H r=none->cP H' r (cH p x i tm) ->Q (.ref r) H'
theorem yj{dj bz aT:Addr}(F:fC K mg "first_lift" nO iK)(eZ:mg "list"=none)(wK:cQ P w K mg base cj 5 "slopes" pD (BY dj))(nY:cQ P w K mg base cj 5 "last_slope" iJ (Me bz))(qh:cQ P w K mg base cj 5 "worth" qd (Au aT))(jk:cQ P w K mg base cj 5 "upturned" jf RK):cQ P w K mg base cj 6 "first_lift" iK (FY dj bz aT):=by
 refine F.ok g7 (λvs H Q E h=> ?_) (λf cdv A outer s H vs Q E hr h=> ?_)
 ·obtain⟨t,bs,m,p,b,x,rfl,hT,cN,hB,ev,hp,hd,hx,L,hc,h1,h2,h3,q⟩:=h
  rfl
 obtain⟨t,bs,m,p,b,x,rfl,hT,cN,hB,ev,hp,hd,hx,L,hc,h1,h2,h3,q⟩:=h
 have hu:=hr.units
 refine⟨_,(mR (@ao _ _ _ _ _ (aX (i:=3) g7.nd rfl (Or.inl rfl) (aR wK hr rfl aQ (af (pv 0) (af (pv 1) (af (pv 2) ak)))))
  (@ao _ _ _ _ _ (aX (i:=4) g7.nd rfl (Or.inl rfl) (aR nY hr rfl aQ (af (pv 3) ak)))
  (@ao _ _ _ _ _ (aX (i:=5) g7.nd rfl (Or.inl rfl) (ay cR (ay bO (PD Jz (ay fm (aR qh hr rfl aQ (af (pv 0) (af (pv 2) ak))) (pv 1))) (aR jk hr rfl aQ (af (aE aq (pv 3) (pv 4) (λ_ _=>rfl)) (af (pv 1) ak)))) (pv 1)))
  (@ao _ _ _ _ _ (aX (i:=6) g7.nd rfl (Or.inl rfl) (iz kh rfl eZ PyProof.Rows.boot_list (af (pv 2) ak)))
  (@ao _ _ _ _ _ (Nt (pv 6) (pv 4) Ks (ay bO (pv 5) (pv 1)) QD set_list)
  (@aM _ _ _ (aO (pv 6))))))))),?_⟩
 have p0:2<p/\p<14:=by
  simp only[List.mem_cons,List.not_mem_nil,or_false]at hp
  omega
 have bx:∀i,i<3->(x i).natAbs<2^400:=λi hi=>aL (a:=4) (by have:=L.lo i hi;have:=L.hi i hi;omega) (by decide)
 refine⟨_,rfl,_,rfl,_,rfl,t,bs,m,p,b,x,rfl,hT,cN,hB,by omega,hx,bx,h1,λr H1 s1 fr er=> ?_⟩
 refine⟨_,rfl,r,_,rfl,er,s1 _ _ h2,rO ev hp hd L,λi H2 s2 hi si fl=> ?_⟩
 have s12:=s1.trans s2
 refine⟨_,rfl,_,rfl,t,bs,m,b,x,rfl,hT.same s12,cN,hB.mono (by decide),s12 _ _ hx,λi hi=>aL (bx i hi) (by decide),s12 _ _ h3,λH3 s3=> ?_⟩
 have tK:=s12.trans s3
 have er3:=s3 _ _ (s2 _ _ er)
 refine⟨_,rfl,_,_,rfl,rfl,⟨by omega,by omega⟩,_,rfl,_,rfl,_,rfl,r,_,_,.int (az m x i%p),rfl,rfl,aN.of er3,jO (λj=>az m x j%p) hi,_,rfl,_,p,rfl,hp,(by rw[Int.emod_emod_of_dvd _ (Int.dvd_refl p)];exact si),λu H4 u0 u1 eu s4=> ?_⟩
 refine⟨_,_,rfl,rfl,.inr ⟨by omega,by omega⟩,_,rfl,_,_,rfl,rfl,(by show(0:Int)<p;omega),?_⟩
 have wD:=tK.trans s4
 have t0:=Int.emod_nonneg (-(aH m x/p)*u) (show p≠0 by omega)
 have t1:=Int.emod_lt_of_pos (-(aH m x/p)*u) (show 0<p by omega)
 have te:(aH m x/p+ -(aH m x/p)*u%p*az m x i)%p=0:=by
  rw[ja]at eu
  obtain⟨k,hk⟩:=fN (show u*az m x i%p=1%p by rw[eu];exact(bJ (by decide) (by omega)).symm)
  have e2:=Int.emod_add_mul_ediv (-(aH m x/p)*u) p
  generalize aH m x/p=w at e2 ⊢
  generalize-w*u%p=y at e2 ⊢
  refine Int.emod_eq_zero_of_dvd ⟨-(w*k) - (-w*u/p)*az m x i,?_⟩
  generalize-w*u/p=v at e2 ⊢
  have e3:y= -w*u-p*v:=by omega
  have e4:w+y*az m x i=w-w*(u*az m x i) -p*(v*az m x i):=by rw[e3];grind
  rw[e4,hk]
  grind
 have hx4:=wD _ _ hx
 refine⟨_,rfl,b,_,rfl,.inl (aN.of hx4),λD hD=> ?_⟩
 have uD:=au.up (o:= .lst [.int (x 0),.int (x 1),.int (x 2)]) hD
 have xi: [V.int (x 0),.int (x 1),.int (x 2)][i]?=some (.int (x i)):=by rcases aC hi with rfl|rfl|rfl<;>rfl
 refine⟨_,rfl,_,rfl,D,_,i,_,rfl,rfl,aN.of aA,xi,_,rfl,_,rfl,_,_,rfl,rfl,.inl ⟨Int.lt_of_lt_of_le (by decide) t0,Int.lt_trans t1 (by omega)⟩,_,_,rfl,rfl,D,_,_,i,rfl,rfl,aA,(by rcases aC hi with rfl|rfl|rfl<;>rfl),?_⟩
 refine⟨_,rfl,q i (-(aH m x/p)*u%p) D _ ⟨hi,si,fl,t0,t1,te⟩ ((wD.trans uD).upd (wD.none hD)) (wD.none hD) ?_⟩
 show upd _ D _ D=_
 rw[aA]
 unfold cH
 rcases aC hi with rfl|rfl|rfl<;>rfl
def BZ(T1 T2:Addr):Sp:=λvs H Q _=> ∃(t:Addr) (bs:List Addr) (m:List (List Int)) (p:Int) (b:Addr) (x:Nat->Int),vs=[.ref t,.int p,.ref b]/\Tab H t bs m/\bC m/\Bd 440 m/\bI m/\p∈([3,5,7,11,13]:List Int)/\aK m/2%p≠0/\cP H b x/\jB p x/\aH m x%p=0/\H T1=some (cu T1)/\H T2=some (cu T2)/\ ∀H',au H H'->Q (.bl true) H'
theorem DX{aW aT:Addr}(F:fC K mg "is_line" tD m7)(nj:cQ P w K mg base cj 4 "is_row" mX (vC aW))(gT:cQ P w K mg base cj 4 "line_under" gP (vD aT)):cQ P w K mg base cj 5 "is_line" m7 (BZ aW aT):=by
 refine F.ok DK (λvs H Q E h=> ?_) (λf cdv A outer s H vs Q E hr h=> ?_)
 ·obtain⟨t,bs,m,p,b,x,rfl,hT,cN,hB,ev,hp,hd,hx,L,hc,h1,h2,q⟩:=h
  rfl
 obtain⟨t,bs,m,p,b,x,rfl,hT,cN,hB,ev,hp,hd,hx,L,hc,h1,h2,q⟩:=h
 have hu:=hr.units
 refine⟨_,(c6 (aO (qy (aR nj hr rfl aQ (af (pv 2) ak)) (sD (f7 (JU hu) (aR gT hr rfl aQ (af (pv 0) (af (pv 1) (af (pv 2) ak)))) (pv 2) (bf _)))))),?_⟩
 have p0:2<p/\p<14:=by
  simp only[List.mem_cons,List.not_mem_nil,or_false]at hp
  omega
 have e1:∀i,i<3->1*x i%p=x i%p:=λi _=>by rw[Int.one_mul]
 have lo:=FN (show 1<p by omega) L (by decide) (by omega) e1
 have oc:Dw m p x:=⟨lo.2,NX ev hc e1⟩
 refine⟨_,rfl,b,x,rfl,hx,h1,λH1 s1=>⟨_,rfl,xW ?_⟩⟩
 refine⟨_,rfl,_,rfl,_,rfl,t,bs,m,p,b,x,rfl,hT.same s1,cN,hB.mono (by decide),hp,s1 _ _ hx,s1 _ _ h2,λz=>absurd oc z,λ_ u a H2 u0 u1 eu s2 fa ea=> ?_⟩
 have Xa:∀i,i<3->u*(x i%p)%p=x i:=λi hi=>Hr (show 1<p by omega) L (by decide) (by omega) e1 eu i hi
 have ea:H2 a=some (.lst [.int (x 0),.int (x 1),.int (x 2)]):=by
  rw[<-Xa 0 (by decide),<-Xa 1 (by decide),<-Xa 2 (by decide)]
  exact ea
 refine⟨_,rfl,Rx (xs:=[x 0,x 1,x 2]) (ys:=[x 0,x 1,x 2]) (aN.of ea) (aN.of (s2 _ _ (s1 _ _ hx))) ?_⟩
 rw[decide_eq_true rfl]
 exact q H2 (s1.trans s2)
def Mh(T1 T2 T3 T4:Addr):Sp:=λvs H Q _=> ∃(t:Addr) (bs:List Addr) (m:List (List Int)) (p:Int) (b:Addr) (x:Nat->Int),vs=[.ref t,.int p,.ref b]/\Tab H t bs m/\bC m/\Bd 440 m/\bI m/\dQ m=true/\aK m/2<=200/\H T1=some (cu T1)/\H T2=some (cu T2)/\H T3=some (cu T3)/\p∈([3,5,7,11,13]:List Int)/\aK m/2%p≠0/\cP H b x/\jB p x/\aH m x%p=0/\H T4=some (cu T4)/\ ∀H',au H H'->Q .gu H'
theorem rV{aW aU aI aT:Addr}(F:fC K mg "refuse_no_line" jg fX)(iP:cQ P w K mg base cj 10 "refuse_no_prime" fJ (Mb aW aU aI))(tQ:cQ P w K mg base cj 10 "is_line" m7 (BZ aW aT)):cQ P w K mg base cj 11 "refuse_no_line" fX (Mh aW aU aI aT):=by
 refine F.ok rP (λvs H Q E h=> ?_) (λf cdv A outer s H vs Q E hr h=> ?_)
 ·obtain⟨t,bs,m,p,b,x,rfl,hT,cN,hB,ev,ab,le,h1,h2,h3,hp,hd,hx,L,hc,h4,q⟩:=h
  rfl
 obtain⟨t,bs,m,p,b,x,rfl,hT,cN,hB,ev,ab,le,h1,h2,h3,hp,hd,hx,L,hc,h4,q⟩:=h
 have hu:=hr.units
 refine⟨_,(mR (@ao _ _ _ _ _ (jo (aR iP hr rfl aQ (af (pv 0) (af (pv 1) ak))))
  (@aM _ _ _ (cV (gW (gv (aR tQ hr rfl aQ (af (pv 0) (af (pv 1) (af (pv 2) ak)))))) (@aM _ _ _ oO) cU)))),?_⟩
 refine⟨_,rfl,_,rfl,t,bs,m,p,rfl,hT,cN,hB,ev,ab,le,h1,h2,h3,hp,hd,λH1 s1=> ?_⟩
 exact⟨_,rfl,_,rfl,_,rfl,t,bs,m,p,b,x,rfl,hT.same s1,cN,hB,ev,hp,hd,s1 _ _ hx,L,hc,s1 _ _ h1,s1 _ _ h4,λH2 s2=>⟨_,rfl,jv (q H2 (s1.trans s2))⟩⟩
end
end CN
namespace L2
open PySem PySem.Spec PyProof.Rows
structure Cl(M:(Nat->Int) ->Prop):Prop where
 zero:M λ_=>0
 add:∀x y c,M x->M y->M λj=>x j+c*y j
 ext:∀x y,M x->(∀j,j<3->x j=y j) ->M y
theorem Cl.mul{M:(Nat->Int) ->Prop}(h:Cl M){x:Nat->Int}(c:Int)(hx:M x):M λj=>c*x j:=h.ext _ _ (h.add _ _ c h.zero hx) λj _=>by simp
def In(M:(Nat->Int) ->Prop)(L:List (List Int)):Prop:=∀r∈L,M (av r)
def Av(A B:List (List Int)):Prop:=∀M,Cl M->(In M A↔In M B)
theorem Av.refl(A:List (List Int)):Av A A:=λ_ _=>Iff.rfl
theorem Av.trans{A B C:List (List Int)}(h:Av A B)(k:Av B C):Av A C:=λM c=>(h M c).trans (k M c)
theorem dW{M:(Nat->Int) ->Prop}{A B:List (List Int)}:In M (A++B)↔In M A/\In M B:=by
 unfold In
 constructor
 ·exact λh=>⟨λr hr=>h r (List.mem_append_left _ hr),λr hr=>h r (List.mem_append_right _ hr)⟩
 ·rintro⟨h1,h2⟩ r hr
  rcases List.mem_append.mp hr with z|z
  ·exact h1 r z
  ·exact h2 r z
theorem OS{M:(Nat->Int) ->Prop}{A B:List (List Int)}(p:A.Perm B):In M A↔In M B:=⟨λh r hr=>h r (p.mem_iff.mpr hr),λh r hr=>h r (p.mem_iff.mp hr)⟩
def DY(q:Int)(r y:List Int):List Int:=[av r 0-q*av y 0,av r 1-q*av y 1,av r 2-q*av y 2]
theorem gU(q:Int)(r y:List Int){j:Nat}(h:j<3):av (DY q r y) j=av r j-q*av y j:=by
 rcases aC h with rfl|rfl|rfl<;>rfl
def d7(k:Nat)(y:List Int)(L:List (List Int)):List (List Int):=L.map λr=>DY ((av r k).fdiv (av y k)) r y
theorem Mi{M:(Nat->Int) ->Prop}(c:Cl M){k:Nat}{y:List Int}{L:List (List Int)}(hy:M (av y)):In M (d7 k y L)↔In M L:=by
 unfold In d7
 constructor
 ·intro h r hr
  have:=h _ (List.mem_map.mpr ⟨r,hr,rfl⟩)
  exact c.ext _ _ (c.add _ _ ((av r k).fdiv (av y k)) this hy) λj hj=>by rw[gU _ _ _ hj];omega
 ·intro h r hr
  obtain⟨r',hr',rfl⟩:=List.mem_map.mp hr
  exact c.ext _ _ (c.add _ _ (-((av r' k).fdiv (av y k))) (h r' hr') hy) λj hj=>by rw[gU _ _ _ hj,Int.neg_mul];omega
def qS(k:Nat)(L:List (List Int)):List (List Int):=L.filter λr=> !decide (av r k=0)
def uW(k:Nat)(L:List (List Int)):List (List Int):=L.filter λr=>decide (av r k=0)
theorem Ca{M:(Nat->Int) ->Prop}(k:Nat)(L:List (List Int)):In M L↔In M (uW k L)/\In M (qS k L):=by
 unfold In uW qS
 constructor
 ·exact λh=>⟨λr hr=>h r (List.mem_filter.mp hr).1,λr hr=>h r (List.mem_filter.mp hr).1⟩
 ·rintro⟨h1,h2⟩ r hr
  by_cases e:av r k=0
  ·exact h1 r (List.mem_filter.mpr ⟨hr,by simp[e]⟩)
  ·exact h2 r (List.mem_filter.mpr ⟨hr,by simp[e]⟩)
theorem Mj{x y:Int}(h:0<y):x-x.fdiv y*y=x%y/\x.fdiv y=x/y:=by
 have e:x.fdiv y=x/y:=Int.fdiv_eq_ediv_of_nonneg x (by omega)
 have:=Int.emod_add_mul_ediv x y
 rw[Int.mul_comm]at this
 exact⟨by rw[e];omega,e⟩
theorem iC{x y:Int}(hy:y≠0):(x-x.fdiv y*y).natAbs<y.natAbs/\(0<y->0<=x-x.fdiv y*y)/\(y<0->x-x.fdiv y*y<=0)/\(x.fdiv y).natAbs*y.natAbs<=x.natAbs+y.natAbs/\
  (((0<x/\0<y)∨(x<0/\y<0)) ->(x.fdiv y).natAbs*y.natAbs<=x.natAbs/\(y.natAbs<=x.natAbs->2*(x-x.fdiv y*y).natAbs<=x.natAbs)):=by
 have core:∀x y:Int,0<y->(x-x.fdiv y*y).natAbs<y.natAbs/\0<=x-x.fdiv y*y/\(x.fdiv y).natAbs*y.natAbs<=x.natAbs+y.natAbs/\(0<x->(x.fdiv y).natAbs*y.natAbs<=x.natAbs/\(y.natAbs<=x.natAbs->2*(x-x.fdiv y*y).natAbs<=x.natAbs)):=by
  intro x y h
  obtain⟨e1,e2⟩:=Mj (x:=x) h
  have m0:=Int.emod_nonneg x (show y≠0 by omega)
  have m1:=Int.emod_lt_of_pos x h
  have e3:(x.fdiv y).natAbs*y.natAbs=(x.fdiv y*y).natAbs:=(Int.natAbs_mul _ _).symm
  rw[e3]
  generalize hq:x.fdiv y*y=q at e1 ⊢
  refine⟨by omega,by omega,by omega,λhx=>⟨?_,λhyx=> ?_⟩⟩
  ·have d0:0<=x/y:=Int.ediv_nonneg (by omega) (by omega)
   have:0<=q:=by rw[<-hq,e2];exact Int.mul_nonneg d0 (by omega)
   omega
  ·have d1:1<=x/y:=by
    rw[Int.le_ediv_iff_mul_le h]
    omega
   have:y<=q:=by
    rw[<-hq,e2]
    have:=Int.mul_le_mul_of_nonneg_right d1 (show 0<=y by omega)
    omega
   omega
 rcases Int.lt_or_gt_of_ne hy with h|h
 ·have e:x.fdiv y=(-x).fdiv (-y):=(Int.neg_fdiv_neg x y).symm
  obtain⟨a1,a2,a3,a4⟩:=core (-x) (-y) (by omega)
  rw[e]
  have e5: -x- (-x).fdiv (-y)* -y= -(x- (-x).fdiv (-y)*y):=by grind
  rw[e5]at a1 a2 a4
  rw[Int.natAbs_neg,Int.natAbs_neg]at a1 a4
  rw[Int.natAbs_neg,Int.natAbs_neg]at a3
  refine⟨a1,λz=>by omega,λ_=>by omega,a3,λz=> ?_⟩
  have hx:x<0:=by omega
  obtain⟨b1,b2⟩:=a4 (by omega)
  rw[Int.natAbs_neg]at b2
  exact⟨b1,b2⟩
 ·obtain⟨a1,a2,a3,a4⟩:=core x y h
  exact⟨a1,λ_=>a2,λz=>by omega,a3,λz=>a4 (by omega)⟩
structure Wk(k:Nat)(S:List (List Int))(E M m:Nat)(same:Bool)(Z:Nat):Prop where
 nz:∀r∈S,av r k≠0
 off:∀r∈S,∀j,j<3->j≠k->(av r j).natAbs<=E
 hi:∀r∈S,(av r k).natAbs<=M
 lo:∀r∈S,m<=(av r k).natAbs
 ex:∃r∈S,(av r k).natAbs=m
 sg:same=true->(∀r∈S,0<av r k)∨(∀r∈S,av r k<0)
 Vw:E*2^S.length*(M*M)*m*(if same then 1 else 3)<=Z
theorem DZ(k:Nat):∀{S:List (List Int)},S≠ [] -> ∃r∈S,∀x∈S,(av r k).natAbs<=(av x k).natAbs
 | [],h=>absurd rfl h
 | [r],_=>⟨r,List.mem_cons_self,λx hx=>by rw[List.mem_singleton.mp hx];exact Nat.le_refl _⟩
 |r::s::S,_=>by
  obtain⟨z,hz,h⟩:=DZ k (S:=s::S) (by simp)
  by_cases c:(av r k).natAbs<=(av z k).natAbs
  ·refine⟨r,List.mem_cons_self,λx hx=> ?_⟩
   rcases List.mem_cons.mp hx with rfl|hx
   ·exact Nat.le_refl _
   ·exact Nat.le_trans c (h x hx)
  ·refine⟨z,List.mem_cons_of_mem _ hz,λx hx=> ?_⟩
   rcases List.mem_cons.mp hx with rfl|hx
   ·omega
   ·exact h x hx
theorem Wk.start{k:Nat}{S:List (List Int)}{B E:Nat}(h0:S≠ [])(hl:S.length<=4)(nz:∀r∈S,av r k≠0)(off:∀r∈S,∀j,j<3->j≠k->(av r j).natAbs<=E)(hi:∀r∈S,(av r k).natAbs<=B):
  ∃m,Wk k S E B m false (48*(E*(B*B)*B)):=by
 obtain⟨r,hr,h⟩:=DZ k h0
 refine⟨(av r k).natAbs,nz,off,hi,h,⟨r,hr,rfl⟩,λz=>by simp at z,?_⟩
 have p:2^S.length<=2^4:=Nat.pow_le_pow_right (by decide) hl
 have mb:=hi r hr
 simp only[Bool.false_eq_true,if_false]
 generalize(av r k).natAbs=m at mb ⊢
 generalize 2^S.length=t at p ⊢
 have e1:E*t*(B*B)*m*3=t*(E*(B*B)*m)*3:=by grind
 have e2:E*(B*B)*m<=E*(B*B)*B:=Nat.mul_le_mul_left _ mb
 have e3:t*(E*(B*B)*m)<=16*(E*(B*B)*B):=Nat.mul_le_mul p e2
 rw[e1]
 omega
theorem OT{k:Nat}{y r:List Int}{E M m Q:Nat}(hy:av y k≠0)(my:(av y k).natAbs=m)(oy:∀j,j<3->j≠k->(av y j).natAbs<=E)(orr:∀j,j<3->j≠k->(av r j).natAbs<=E)
  (hQ:((av r k).fdiv (av y k)).natAbs<=Q){j:Nat}(hj:j<3)(hk:j≠k):(av (DY ((av r k).fdiv (av y k)) r y) j).natAbs<=E*(1+Q):=by
 rw[gU _ _ _ hj]
 have h1:=orr j hj hk
 have h2:((av r k).fdiv (av y k)*av y j).natAbs<=Q*E:=by
  rw[Int.natAbs_mul]
  exact Nat.mul_le_mul hQ (oy j hj hk)
 have h3:E*(1+Q)=E+Q*E:=by grind
 omega
theorem Wk.step{k:Nat}{y:List Int}{rest:List (List Int)}{E M m Z:Nat}{same:Bool}(hk:k<3)(W:Wk k (y::rest) E M m same Z)(hr:rest≠ [])(RL:∀r∈rest,(av y k).natAbs<=(av r k).natAbs):
  ∃E' m',Wk k (y::qS k (d7 k y rest)) E' m m' true Z/\m<=M/\(∀r∈d7 k y rest,∀j,j<3->j≠k->(av r j).natAbs<=E')/\(∀r∈d7 k y rest,(av r k).natAbs<m):=by
 have ny:=W.nz y List.mem_cons_self
 have my:(av y k).natAbs=m:=by
  obtain⟨z,hz,e⟩:=W.ex
  have h1:=W.lo y List.mem_cons_self
  rcases List.mem_cons.mp hz with rfl|hz
  ·exact e
  ·have:=RL z hz
   omega
 have m0:0<m:=by omega
 have mM:m<=M:=by have:=W.hi y List.mem_cons_self;omega
 obtain⟨Q,hQ,PZ⟩:∃Q:Nat,(∀r∈rest,((av r k).fdiv (av y k)).natAbs<=Q)/\(1+Q)*m<=(if same then 2 else 3)*M:=by
  cases same with
  |true=>
   refine⟨M/m,λr hr=> ?_,?_⟩
   ·obtain⟨_,_,_,_,a5⟩:=iC (x:=av r k) ny
    have sg:(0<av r k/\0<av y k)∨(av r k<0/\av y k<0):=by
     rcases W.sg rfl with z|z
     ·exact .inl ⟨z r (List.mem_cons_of_mem _ hr),z y List.mem_cons_self⟩
     ·exact .inr ⟨z r (List.mem_cons_of_mem _ hr),z y List.mem_cons_self⟩
    have b1:=(a5 sg).1
    rw[my]at b1
    rw[Nat.le_div_iff_mul_le m0]
    exact Nat.le_trans b1 (W.hi r (List.mem_cons_of_mem _ hr))
   ·have:=Nat.div_mul_le_self M m
    rw[Nat.add_mul]
    simp only[if_true]
    omega
  |false=>
   refine⟨M/m+1,λr hr=> ?_,?_⟩
   ·obtain⟨_,_,_,a4,_⟩:=iC (x:=av r k) ny
    rw[my]at a4
    have hM:=W.hi r (List.mem_cons_of_mem _ hr)
    have:((av r k).fdiv (av y k)).natAbs*m<=M+m:=by omega
    have e:(M+m)/m=M/m+1:=Nat.add_div_right M m0
    rw[<-e,Nat.le_div_iff_mul_le m0]
    exact this
   ·have:=Nat.div_mul_le_self M m
    have e:(1+(M/m+1))*m=2*m+M/m*m:=by grind
    rw[e]
    simp only[Bool.false_eq_true,if_false]
    omega
 have off':∀r∈d7 k y rest,∀j,j<3->j≠k->(av r j).natAbs<=E*(1+Q):=λr hr j hj hjk=>by
  obtain⟨r0,hr0,rfl⟩:=List.mem_map.mp hr
  exact OT (m:=m) (M:=M) ny my (W.off y List.mem_cons_self) (W.off r0 (List.mem_cons_of_mem _ hr0)) (hQ r0 hr0) hj hjk
 have lt':∀r∈d7 k y rest,(av r k).natAbs<m:=λr hr=>by
  obtain⟨r0,hr0,rfl⟩:=List.mem_map.mp hr
  rw[gU _ _ _ hk,<-my]
  exact(iC ny).1
 have E0:E<=E*(1+Q):=by
  have:E*1<=E*(1+Q):=Nat.mul_le_mul_left _ (by omega)
  omega
 obtain⟨z,hz,hmin⟩:=DZ k (S:=y::qS k (d7 k y rest)) (by simp)
 have inr:∀{r},r∈qS k (d7 k y rest) ->r∈d7 k y rest/\av r k≠0:=λ {r} h=>by
  obtain⟨a,b⟩:=List.mem_filter.mp h
  exact⟨a,by simpa using b⟩
 have zm:(av z k).natAbs<=m:=by rw[<-my];exact hmin y List.mem_cons_self
 refine⟨E*(1+Q),(av z k).natAbs,⟨λr hr=> ?_,λr hr j hj hjk=> ?_,λr hr=> ?_,hmin,⟨z,hz,rfl⟩,λ_=> ?_,?_⟩,mM,off',lt'⟩
 ·rcases List.mem_cons.mp hr with rfl|hr
  ·exact ny
  ·exact(inr hr).2
 ·rcases List.mem_cons.mp hr with rfl|hr
  ·exact Nat.le_trans (W.off r List.mem_cons_self j hj hjk) E0
  ·exact off' r (inr hr).1 j hj hjk
 ·rcases List.mem_cons.mp hr with rfl|hr
  ·omega
  ·exact Nat.le_of_lt (lt' r (inr hr).1)
 ·rcases Int.lt_or_gt_of_ne ny with c|c
  ·refine .inr λr hr=> ?_
   rcases List.mem_cons.mp hr with rfl|hr
   ·exact c
   ·obtain⟨a,b⟩:=inr hr
    obtain⟨r0,hr0,rfl⟩:=List.mem_map.mp a
    rw[gU _ _ _ hk]at b ⊢
    have:=(iC (x:=av r0 k) ny).2.2.1 c
    omega
  ·refine .inl λr hr=> ?_
   rcases List.mem_cons.mp hr with rfl|hr
   ·exact c
   ·obtain⟨a,b⟩:=inr hr
    obtain⟨r0,hr0,rfl⟩:=List.mem_map.mp a
    rw[gU _ _ _ hk]at b ⊢
    have:=(iC (x:=av r0 k) ny).2.1 c
    omega
 ·--the Su
  have len:(qS k (d7 k y rest)).length<=rest.length:=by
   have:=List.length_filter_le (λr=> !decide (av r k=0)) (d7 k y rest)
   have e:(d7 k y rest).length=rest.length:=List.length_map _
   show(List.filter _ _).length<=_
   omega
  have key:(if same then 2 else 3)*2^(qS k (d7 k y rest)).length*(av z k).natAbs<=2^rest.length*M*(if same then 1 else 3):=by
   have p1:2^(qS k (d7 k y rest)).length<=2^rest.length:=Nat.pow_le_pow_right (by decide) len
   cases same with
   |false=>
    simp only[Bool.false_eq_true,if_false]
    have:=Nat.mul_le_mul p1 (Nat.le_trans zm mM)
    generalize 2^(qS k (d7 k y rest)).length=u at this ⊢
    generalize 2^rest.length=v at this ⊢
    have e1:3*u*(av z k).natAbs=3*(u*(av z k).natAbs):=Nat.mul_assoc _ _ _
    omega
   |true=>
    simp only[if_true]
    rw[Nat.mul_one]
    rcases Nat.lt_or_ge (qS k (d7 k y rest)).length rest.length with c|c
    ·have p2:2*2^(qS k (d7 k y rest)).length<=2^rest.length:=by
      rw[Nat.mul_comm,<-Nat.pow_succ]
      exact Nat.pow_le_pow_right (by decide) c
     exact Nat.mul_le_mul p2 (Nat.le_trans zm mM)
    ·cases rest with
     |nil=>exact absurd rfl hr
     |cons r1 rest=>
      have full:(d7 k y (r1::rest)).length<=(qS k (d7 k y (r1::rest))).length:=by
       have e:(d7 k y (r1::rest)).length=(r1::rest).length:=List.length_map _
       omega
      have hm:DY ((av r1 k).fdiv (av y k)) r1 y∈d7 k y (r1::rest):=List.mem_map.mpr ⟨r1,List.mem_cons_self,rfl⟩
      have keep:DY ((av r1 k).fdiv (av y k)) r1 y∈qS k (d7 k y (r1::rest)):=by
       have e:List.filter (λr=> !decide (av r k=0)) (d7 k y (r1::rest))=d7 k y (r1::rest):=List.filter_sublist.eq_of_length_le full
       show _∈List.filter _ _
       rw[e]
       exact hm
      have h1:=hmin _ (List.mem_cons_of_mem _ keep)
      rw[gU _ _ _ hk]at h1
      have sg:(0<av r1 k/\0<av y k)∨(av r1 k<0/\av y k<0):=by
       rcases W.sg rfl with z|z
       ·exact .inl ⟨z r1 (by simp),z y (by simp)⟩
       ·exact .inr ⟨z r1 (by simp),z y (by simp)⟩
      have h2:=((iC (x:=av r1 k) ny).2.2.2.2 sg).2 (RL r1 List.mem_cons_self)
      have h3:=W.hi r1 (by simp)
      have:2*(av z k).natAbs<=M:=by omega
      have e3:=Nat.mul_le_mul p1 this
      have e4:2*2^(qS k (d7 k y (r1::rest))).length*(av z k).natAbs=2^(qS k (d7 k y (r1::rest))).length*(2*(av z k).natAbs):=by rw[Nat.mul_comm 2,Nat.mul_assoc]
      omega
  have P:=W.Vw
  rw[List.length_cons,Nat.pow_succ]at P ⊢
  simp only[if_true,Nat.mul_one]
  generalize 2^(qS k (d7 k y rest)).length=u at key ⊢
  generalize 2^rest.length=v at key P ⊢
  generalize(av z k).natAbs=m' at key ⊢
  generalize(if same then 2 else 3)=c2 at key PZ
  generalize(if same then 1 else 3)=c1 at key P
  have s1:E*(1+Q)*(u*2)*(m*m)*m'=(E*2*m)*(((1+Q)*m)*(u*m')):=by grind
  have s2:((1+Q)*m)*(u*m')<=(c2*M)*(u*m'):=Nat.mul_le_mul_right _ PZ
  have s3:(c2*M)*(u*m')=M*(c2*u*m'):=by grind
  have s4:M*(c2*u*m')<=M*(v*M*c1):=Nat.mul_le_mul_left _ key
  have s5:(E*2*m)*(M*(v*M*c1))=E*(v*2)*(M*M)*m*c1:=by grind
  rw[s1]
  refine Nat.le_trans (Nat.mul_le_mul_left _ (Nat.le_trans s2 (by rw[s3];exact s4))) ?_
  rw[s5]
  exact P
theorem Wk.bound{k:Nat}{S:List (List Int)}{E M m Z:Nat}{same:Bool}(W:Wk k S E M m same Z):E<=Z:=by
 obtain⟨r,hr,e⟩:=W.ex
 have m0:0<m:=by have:=W.nz r hr;omega
 have M0:0<M:=by have:=W.hi r hr;omega
 have c0:0<(if same then 1 else 3):=by cases same<;>decide
 have p:0<2^S.length*(M*M)*m*(if same then 1 else 3):=Nat.mul_pos (Nat.mul_pos (Nat.mul_pos (Nat.pow_pos (by decide)) (Nat.mul_pos M0 M0)) m0) c0
 have h:=W.Vw
 have e2:E*2^S.length*(M*M)*m*(if same then 1 else 3)=E*(2^S.length*(M*M)*m*(if same then 1 else 3)):=by
  simp only[Nat.mul_assoc]
 rw[e2]at h
 exact Nat.le_trans (Nat.le_mul_of_pos_right E p) h
end L2
namespace Aw
open PySem PyProof.Rows
section
variable{M:Model}{A:Around}{E:Value->Shared->Prop}{s:Shared}{st:SortSt}{b:Nat->Bool}{n:Nat}{bd:Nat->StateT SortSt Sem (Option Bool)}
end
def Ea(prog:Program)(w:World)(A:Around)(E:Value->Shared->Prop)(s:Shared)(κ:SortKind)(K:Keyed->Int)(D:Keyed->Prop):Prop:=
 ∀(st:SortSt) (x y:Keyed) (Q:Option Bool->SortSt->Prop),kindOf st=κ->D x->D y->Q (some (decide (K x<K y))) st->wpS (model prog w) A E s (lt' x y) Q st
section
variable{prog:Program}{w:World}{A:Around}{E:Value->Shared->Prop}{s:Shared}{κ:SortKind}{K:Keyed->Int}{D:Keyed->Prop}{st:SortSt}
theorem Ml{ar:Array Keyed}{i:Nat}{x:Keyed}{Q:Keyed->SortSt->Prop}{M:Model}(h:ar[i]?=some x)(hq:Q x st):wpS M A E s (elem' ar i) Q st:=by
 rw[elem'_eq,h]
 exact wpS_pure hq
end
structure MG(K:Keyed->Int)(tot out ra rb:List Keyed):Prop where
 perm:(out++(ra++rb)).Perm tot
 so:out.Pairwise λx y=>K x<=K y
 sa:ra.Pairwise λx y=>K x<=K y
 sb:rb.Pairwise λx y=>K x<=K y
 oa:∀x∈out,∀y∈ra,K x<=K y
 ob:∀x∈out,∀y∈rb,K x<=K y
def Good(K:Keyed->Int)(tot r:List Keyed):Prop:=r.Perm tot/\r.Pairwise λx y=>K x<=K y
theorem MG.fin{K:Keyed->Int}{tot out ra rb r:List Keyed}(h:MG K tot out ra rb)(p:r.Perm (ra++rb))(s:r.Pairwise λx y=>K x<=K y):Good K tot (out++r):=by
 refine⟨(List.Perm.append_left out p).trans h.perm,List.pairwise_append.mpr ⟨h.so,s,λx hx y hy=> ?_⟩⟩
 rcases List.mem_append.mp (p.mem_iff.mp hy)with q|q
 ·exact h.oa x hx y q
 ·exact h.ob x hx y q
section
variable{prog:Program}{w:World}{A:Around}{E:Value->Shared->Prop}{s:Shared}{κ:SortKind}{K:Keyed->Int}{D:Keyed->Prop}{st:SortSt}
end
section
variable{prog:Program}{w:World}{A:Around}{E:Value->Shared->Prop}{s:Shared}{κ:SortKind}{K:Keyed->Int}{D:Keyed->Prop}{st:SortSt}
abbrev rv (a:Array Keyed) (i:Nat):List Keyed:=(a.toList.take i).reverse
end
def kA(K:Keyed->Int)(xs:Array Keyed)(i:Nat):Int:=match xs[i]? with
 |some p=>K p
 |none=>0
theorem pP{K:Keyed->Int}{xs ys:Array Keyed}{i j:Nat}(h:xs[i]?=ys[j]?):kA K xs i=kA K ys j:=by unfold kA;rw[h]
def So(K:Keyed->Int)(xs:Array Keyed)(lo n:Nat):Prop:=∀i j,i<=j->j<n->kA K xs (lo+i)<=kA K xs (lo+j)
def Si(K:Keyed->Int)(xs:Array Keyed)(lo n:Nat):Prop:=∀i j,i<=j->j<n->kA K xs (lo+j)<=kA K xs (lo+i)
theorem tR{K:Keyed->Int}{xs:Array Keyed}{i j:Nat}(hj:j<=xs.size)(k:Nat):
  kA K (mirror xs i j ((j-i)/2)) k=if i<=k/\k<j then kA K xs (i+j-1-k)else kA K xs k:=by
 have e:=getElem?_mirror_all (i:=i) hj k
 by_cases h1:i<=k/\k<j
 ·rw[if_pos h1]at e ⊢;exact pP e
 ·rw[if_neg h1]at e ⊢;exact pP e
theorem Ax{K:Keyed->Int}{xs:Array Keyed}{i j:Nat}(hj:j<=xs.size)(heq:∀k,i<=k->k<j->kA K xs k=kA K xs (j-1))(k:Nat):kA K (mirror xs i j ((j-i)/2)) k=kA K xs k:=by
 rw[tR hj]
 split
 ·rw[heq _ (by omega) (by omega),heq k (by omega) (by omega)]
 ·rfl
theorem HX{K:Keyed->Int}{xs:Array Keyed}{src d:Nat}(hs:src<xs.size)(hd:d<=src)(k:Nat):
  kA K (bubble xs src d) k=if k=src-d then kA K xs src else if src-d<k/\k<=src then kA K xs (k-1)else kA K xs k:=by
 have e:=getElem?_bubble hs d hd k
 by_cases h1:k=src-d
 ·rw[if_pos h1]at e ⊢;exact pP e
 ·rw[if_neg h1]at e ⊢
  by_cases h2:src-d<k/\k<=src
  ·rw[if_pos h2]at e ⊢;exact pP e
  ·rw[if_neg h2]at e ⊢;exact pP e
structure SC(lo:Nat)(s0 st:SortSt):Prop where
 perm:(arrOf st).Perm (arrOf s0)
 kind:kindOf st=kindOf s0
 failed:failedOf st=failedOf s0
 pend:pendingOf st=pendingOf s0
 low:∀i,i<lo->(arrOf st)[i]?=(arrOf s0)[i]?
theorem SC.refl(lo:Nat)(st:SortSt):SC lo st st:=⟨Array.Perm.refl _,rfl,rfl,rfl,λ_ _=>rfl⟩
theorem SC.trans{lo:Nat}{a b c:SortSt}(x:SC lo a b)(y:SC lo b c):SC lo a c:=⟨y.perm.trans x.perm,y.kind.trans x.kind,y.failed.trans x.failed,y.pend.trans x.pend,λi h=>(y.low i h).trans (x.low i h)⟩
theorem SC.size{lo:Nat}{a b:SortSt}(x:SC lo a b):(arrOf b).size=(arrOf a).size:=x.perm.size_eq
theorem SC.mirror{lo:Nat}{s0 st:SortSt}(x:SC lo s0 st){i j:Nat}(hi:lo<=i)(hj:j<=(arrOf st).size):SC lo s0 (setArr st (mirror (arrOf st) i j ((j-i)/2))):=
 x.trans ⟨mirror_perm _ _ _ _,rfl,rfl,rfl,λk hk=>by
  show(PyProof.Rows.mirror (arrOf st) i j ((j-i)/2))[k]?=_
  rw[getElem?_mirror_all hj,if_neg (by omega)]⟩
theorem SC.bubble{lo:Nat}{s0 st:SortSt}(x:SC lo s0 st){src d:Nat}(hs:src<(arrOf st).size)(hd:lo+d<=src):SC lo s0 (setArr st (bubble (arrOf st) src d)):=
 x.trans ⟨bubble_perm _ _ _,rfl,rfl,rfl,λk hk=>by
  show(PyProof.Rows.bubble (arrOf st) src d)[k]?=_
  rw[getElem?_bubble hs d (by omega),if_neg (by omega),if_neg (by omega)]⟩
structure SB(κ:SortKind)(D:Keyed->Prop)(st:SortSt):Prop where
 kind:kindOf st=κ
 failed:failedOf st=none
 all:∀x∈(arrOf st).toList,D x
theorem SB.sc{κ:SortKind}{D:Keyed->Prop}{lo:Nat}{s0 st:SortSt}(b:SB κ D s0)(x:SC lo s0 st):SB κ D st:=
 ⟨x.kind.trans b.kind,x.failed.trans b.failed,λy hy=>b.all y ((Array.perm_iff_toList_perm.mp x.perm).mem_iff.mp hy)⟩
section
variable{prog:Program}{w:World}{A:Around}{E:Value->Shared->Prop}{s:Shared}{κ:SortKind}{K:Keyed->Int}{D:Keyed->Prop}{st:SortSt}
theorem tS(hL:Ea prog w A E s κ K D){i j:Nat}{Q:Option Bool->SortSt->Prop}(hB:SB κ D st)(hi:i<(arrOf st).size)(hj:j<(arrOf st).size)
  (h:Q (some (decide (kA K (arrOf st) i<kA K (arrOf st) j))) st):wpS (model prog w) A E s (ltAt' i j) Q st:=by
 rw[ltAt'_eq]
 refine wpS_bind (wpS_get ?_)
 show wpS _ _ _ _ (do let x<-elem' (arrOf st) i;let y<-elem' (arrOf st) j;lt' x y) Q st
 have e1:(arrOf st)[i]?=some (arrOf st)[i]:=getElem?_pos _ i hi
 have e2:(arrOf st)[j]?=some (arrOf st)[j]:=getElem?_pos _ j hj
 refine wpS_bind (Ml e1 (wpS_bind (Ml e2 ?_)))
 refine hL st _ _ _ hB.kind (hB.all _ (by simp)) (hB.all _ (by simp)) ?_
 unfold kA at h
 rw[e1,e2]at h
 exact h
theorem w_rev{M:Model}{i j:Nat}{Q:Unit->SortSt->Prop}(h:Q ⟨⟩ (setArr st (mirror (arrOf st) i j ((j-i)/2)))):wpS M A E s (reverseSlice' i j) Q st:=by
 rw[reverseSlice'_eq]
 exact wpS_modify h
theorem w_count(hL:Ea prog w A E s κ K D){lo nrem:Nat}{Q:Option Nat->SortSt->Prop}(hB:SB κ D st)(h1:1<=nrem)(hz:lo+nrem<=(arrOf st).size)
  (hq:∀n st',SC lo st st'->1<=n->n<=nrem->So K (arrOf st') lo n->Q (some n) st'):wpS (model prog w) A E s (countRun' lo nrem) Q st:=by
 rw[countRun'_eq]
 refine wpS_bind (wpS_mono (wpS_forRange (I:=λx c st'=>st'=st/\c=(none,x)/\So K (arrOf st) lo x)
  (Q:=λc st'=>st'=st/\ ∃n,c=(none,n)/\1<=n/\n<=nrem/\So K (arrOf st) lo n/\(n=nrem∨kA K (arrOf st) (lo+n)<kA K (arrOf st) (lo+n-1))) ?_ ?_ ⟨rfl,rfl,λi j hij hj=> ?_⟩) ?_)
 ·rintro x c st' ha hx ⟨rfl,rfl,hs⟩
  dsimp only
  refine wpS_bind (tS hL hB (by omega) (by omega) ?_)
  dsimp only
  by_cases lt:kA K (arrOf st') (lo+x)<kA K (arrOf st') (lo+x-1)
  ·rw[decide_eq_true lt,if_pos rfl]
   exact wpS_pure ⟨rfl,x,rfl,ha,by omega,hs,.inr lt⟩
  ·rw[decide_eq_false lt,if_neg (by simp)]
   refine wpS_pure ⟨rfl,rfl,λi j hij hj=> ?_⟩
   by_cases c:j=x
   ·subst c
    by_cases c2:i=j
    ·subst c2;exact Int.le_refl _
    ·have:=hs i (j-1) (by omega) (by omega)
     rw[show lo+(j-1)=lo+j-1 by omega]at this
     omega
   ·exact hs i j hij (by omega)
 ·rintro c st' ⟨rfl,rfl,hs⟩
  rw[Nat.max_eq_right h1]at hs ⊢
  exact⟨rfl,nrem,rfl,h1,Nat.le_refl _,hs,.inl rfl⟩
 ·have:i=j:=by omega
  subst this
  exact Int.le_refl _
 rintro c st' ⟨rfl,n,rfl,n1,n2,hs,hend⟩
 dsimp only
 by_cases c1:(n==nrem)=true
 ·rw[if_pos c1]
  exact wpS_pure (hq n st' (.refl _ _) n1 n2 hs)
 rw[if_neg c1]
 have nn:n<nrem:=by
  have:n≠nrem:=λe=>c1 (by rw[e];simp)
  omega
 have hlt:kA K (arrOf st') (lo+n)<kA K (arrOf st') (lo+n-1):=hend.resolve_left (by omega)
 have part:∀s1:SortSt,SC lo st' s1->(∀k,kA K (arrOf s1) k=kA K (arrOf st') k) ->Si K (arrOf st') lo (n+1) -> ∀F:StateT SortSt Sem (Option Nat),F=(do
   rule "list.sort.descending-run"
   let mut n:=n
   n:=n+1
   let mut q:=0
   for _ in [n:nrem] do
    let some m<-ltAt' (lo+n) (lo+n-1)|return none
    if m then
     if q>0 then reverseSlice' (lo+n- (q+1)) (lo+n)
     q:=0
    else
     let some g<-ltAt' (lo+n-1) (lo+n)|return none
     if g then break
     q:=q+1
    n:=n+1
   if q>0 then reverseSlice' (lo+n- (q+1)) (lo+n)
   reverseSlice' lo (lo+n)
   for _ in [n:nrem] do
    let some m<-ltAt' (lo+n) (lo+n-1)|return none
    if m then break
    n:=n+1
   return some n) ->wpS (model prog w) A E s F Q s1:=by
  intro s1 S1 hk1 hd F hF
  subst hF
  refine wpS_bind (wpS_lift (wpAny_rule ⟨rfl,?_⟩))
  dsimp only
  have rest:∀(s2:SortSt) (m:Nat),SC lo st' s2->n+1<=m->m<=nrem->Si K (arrOf s2) lo m-> ∀F:StateT SortSt Sem (Option Nat),F=(do
    reverseSlice' lo (lo+m)
    let mut n:=m
    for _ in [n:nrem] do
     let some m<-ltAt' (lo+n) (lo+n-1)|return none
     if m then break
     n:=n+1
    return some n) ->wpS (model prog w) A E s F Q s2:=by
   intro s2 m S2 m1 m2 hd2 F hF
   subst hF
   have z2:=S2.size
   refine wpS_bind (w_rev ?_)
   have S3:=S2.mirror (i:=lo) (j:=lo+m) (Nat.le_refl _) (by omega)
   have YL:So K (arrOf (setArr s2 (mirror (arrOf s2) lo (lo+m) ((lo+m-lo)/2)))) lo m:=by
    intro i j hij hj
    show kA K (mirror (arrOf s2) lo (lo+m) ((lo+m-lo)/2)) (lo+i)<=kA K (mirror (arrOf s2) lo (lo+m) ((lo+m-lo)/2)) (lo+j)
    rw[tR (by omega),tR (by omega),if_pos (by omega),if_pos (by omega)]
    have:=hd2 (m-1-j) (m-1-i) (by omega) (by omega)
    rw[show lo+(m-1-i)=lo+(lo+m) -1- (lo+i)by omega,show lo+(m-1-j)=lo+(lo+m) -1- (lo+j)by omega]at this
    exact this
   generalize setArr s2 (mirror (arrOf s2) lo (lo+m) ((lo+m-lo)/2))=s3 at S3 YL ⊢
   have z3:=S3.size
   have hB3:=hB.sc S3
   refine wpS_bind (wpS_mono (wpS_forRange (I:=λx c st''=>st''=s3/\c=(none,x)/\So K (arrOf s3) lo x)
    (Q:=λc st''=>st''=s3/\ ∃n,c=(none,n)/\1<=n/\n<=nrem/\So K (arrOf s3) lo n) ?_ ?_ ⟨rfl,rfl,YL⟩) ?_)
   ·rintro x c st'' ha hx ⟨rfl,rfl,hs⟩
    dsimp only
    refine wpS_bind (tS hL hB3 (by omega) (by omega) ?_)
    dsimp only
    by_cases lt:kA K (arrOf st'') (lo+x)<kA K (arrOf st'') (lo+x-1)
    ·rw[decide_eq_true lt,if_pos rfl]
     exact wpS_pure ⟨rfl,x,rfl,by omega,by omega,hs⟩
    ·rw[decide_eq_false lt,if_neg (by simp)]
     refine wpS_pure ⟨rfl,rfl,λi j hij hj=> ?_⟩
     by_cases c:j=x
     ·subst c
      by_cases c2:i=j
      ·subst c2;exact Int.le_refl _
      ·have:=hs i (j-1) (by omega) (by omega)
       rw[show lo+(j-1)=lo+j-1 by omega]at this
       omega
     ·exact hs i j hij (by omega)
   ·rintro c st'' ⟨rfl,rfl,hs⟩
    rw[Nat.max_eq_right m2]at hs ⊢
    exact⟨rfl,nrem,rfl,by omega,Nat.le_refl _,hs⟩
   ·rintro c st'' ⟨rfl,n',rfl,a1,a2,a3⟩
    exact wpS_pure (hq n' st'' S3 a1 a2 a3)
  refine wpS_bind (wpS_mono (wpS_forRange (I:=λx c s2=> ∃q,c=(none,x,q)/\SC lo st' s2/\Si K (arrOf s2) lo x/\q+1<=x/\ ∀i,x- (q+1)<=i->i<x->kA K (arrOf s2) (lo+i)=kA K (arrOf s2) (lo+x-1))
   (Q:=λc s2=> ∃x q,c=(none,x,q)/\n+1<=x/\x<=nrem/\SC lo st' s2/\Si K (arrOf s2) lo x/\q+1<=x/\ ∀i,x- (q+1)<=i->i<x->kA K (arrOf s2) (lo+i)=kA K (arrOf s2) (lo+x-1)) ?_ ?_ ⟨0,rfl,S1,λi j hij hj=> ?_,by omega,λi h1 h2=> ?_⟩) ?_)
  ·rintro x c s2 ha hx ⟨q,rfl,S2,hd2,hq1,heq⟩
   dsimp only
   have z2:=S2.size
   have hB2:=hB.sc S2
   refine wpS_bind (tS hL hB2 (by omega) (by omega) ?_)
   dsimp only
   by_cases lt:kA K (arrOf s2) (lo+x)<kA K (arrOf s2) (lo+x-1)
   ·rw[decide_eq_true lt,if_pos rfl]
    have YM:∀s3:SortSt,SC lo st' s3->(∀k,kA K (arrOf s3) k=kA K (arrOf s2) k) -> ∃q,((none,x+1,0):Option (Option Nat)×Nat×Nat)=(none,x+1,q)/\SC lo st' s3/\Si K (arrOf s3) lo (x+1)/\q+1<=x+1/\ ∀i,x+1- (q+1)<=i->i<x+1->kA K (arrOf s3) (lo+i)=kA K (arrOf s3) (lo+(x+1) -1):=by
     intro s3 S3 PN
     refine⟨0,rfl,S3,λi j hij hj=> ?_,by omega,λi h1 h2=> ?_⟩
     ·rw[PN,PN]
      by_cases c:j=x
      ·subst c
       by_cases c2:i=j
       ·subst c2;exact Int.le_refl _
       ·have:=hd2 i (j-1) (by omega) (by omega)
        rw[show lo+(j-1)=lo+j-1 by omega]at this
        omega
      ·exact hd2 i j hij (by omega)
     ·have:i=x:=by omega
      subst this
      rfl
    by_cases HY:q>0
    ·rw[if_pos HY]
     refine wpS_bind (w_rev (wpS_pure (YM _ (S2.mirror (by omega) (by omega)) λk=> ?_)))
     refine Ax (by omega) (λk k1 k2=> ?_) k
     have:=heq (k-lo) (by omega) (by omega)
     rw[show lo+(k-lo)=k by omega]at this
     exact this
    ·rw[if_neg HY]
     exact wpS_pure (YM s2 S2 λ_=>rfl)
   ·rw[decide_eq_false lt,if_neg (by simp)]
    refine wpS_bind (tS hL hB2 (by omega) (by omega) ?_)
    dsimp only
    by_cases Vm:kA K (arrOf s2) (lo+x-1)<kA K (arrOf s2) (lo+x)
    ·rw[decide_eq_true Vm,if_pos rfl]
     exact wpS_pure ⟨x,q,rfl,ha,by omega,S2,hd2,hq1,heq⟩
    ·rw[decide_eq_false Vm,if_neg (by simp)]
     have e:kA K (arrOf s2) (lo+x)=kA K (arrOf s2) (lo+x-1):=by omega
     refine wpS_pure ⟨q+1,rfl,S2,λi j hij hj=> ?_,by omega,λi h1 h2=> ?_⟩
     ·by_cases c:j=x
      ·subst c
       by_cases c2:i=j
       ·subst c2;exact Int.le_refl _
       ·have:=hd2 i (j-1) (by omega) (by omega)
        rw[show lo+(j-1)=lo+j-1 by omega]at this
        omega
      ·exact hd2 i j hij (by omega)
     ·rw[show lo+(x+1) -1=lo+x by omega,e]
      by_cases c:i=x
      ·subst c;exact e
      ·exact heq i (by omega) (by omega)
  ·rintro c s2 ⟨q,rfl,S2,hd2,hq1,heq⟩
   rw[Nat.max_eq_right (show n+1<=nrem by omega)]at hd2 hq1 heq ⊢
   exact⟨nrem,q,rfl,by omega,Nat.le_refl _,S2,hd2,hq1,heq⟩
  ·rw[hk1,hk1]
   exact hd i j hij hj
  ·have:i=n:=by omega
   subst this
   rfl
  ·rintro c s2 ⟨x,q,rfl,x1,x2,S2,hd2,hq1,heq⟩
   dsimp only
   have z2:=S2.size
   by_cases HY:q>0
   ·rw[if_pos HY]
    refine wpS_bind (w_rev ?_)
    have hk:∀k,kA K (arrOf (setArr s2 (mirror (arrOf s2) (lo+x- (q+1)) (lo+x) ((lo+x- (lo+x- (q+1)))/2)))) k=kA K (arrOf s2) k:=λk=>by
     refine Ax (by omega) (λk k1 k2=> ?_) k
     have:=heq (k-lo) (by omega) (by omega)
     rw[show lo+(k-lo)=k by omega]at this
     exact this
    exact rest _ x (S2.mirror (by omega) (by omega)) x1 x2 (λi j hij hj=>by rw[hk,hk];exact hd2 i j hij hj) _ rfl
   ·rw[if_neg HY]
    exact rest s2 x S2 x1 x2 hd2 _ rfl
 by_cases gt:n>1
 ·rw[if_pos gt]
  refine wpS_bind (tS hL hB (by omega) (by omega) ?_)
  dsimp only
  by_cases UG:kA K (arrOf st') lo<kA K (arrOf st') (lo+n-1)
  ·rw[decide_eq_true UG,if_pos rfl]
   exact wpS_pure (hq n st' (.refl _ _) n1 n2 hs)
  ·rw[decide_eq_false UG,if_neg (by simp)]
   have hall:∀k,lo<=k->k<lo+n->kA K (arrOf st') k=kA K (arrOf st') (lo+n-1):=λk k1 k2=>by
    have a1:=hs 0 (k-lo) (by omega) (by omega)
    have a2:=hs (k-lo) (n-1) (by omega) (by omega)
    rw[show lo+(k-lo)=k by omega]at a1 a2
    rw[show lo+(n-1)=lo+n-1 by omega]at a2
    rw[Nat.add_zero]at a1
    omega
   refine wpS_bind (w_rev (part _ ((SC.refl lo st').mirror (Nat.le_refl _) (by omega)) (λk=>Ax (by omega) hall k) (λi j hij hj=> ?_) _ rfl))
   by_cases c:j=n
   ·subst c
    by_cases c2:i=j
    ·subst c2;exact Int.le_refl _
    ·rw[hall (lo+i) (by omega) (by omega)]
     omega
   ·rw[hall (lo+i) (by omega) (by omega),hall (lo+j) (by omega) (by omega)]
    exact Int.le_refl _
 ·rw[if_neg gt]
  have e1:n=1:=by omega
  subst e1
  refine part st' (.refl _ _) (λ_=>rfl) (λi j hij hj=> ?_) _ rfl
  by_cases c2:i=j
  ·subst c2;exact Int.le_refl _
  ·have:i=0:=by omega
   have:j=1:=by omega
   subst_vars
   rw[show lo+1-1=lo+0 by omega]at hlt
   omega
end
section
variable{prog:Program}{w:World}{A:Around}{E:Value->Shared->Prop}{s:Shared}{κ:SortKind}{K:Keyed->Int}{D:Keyed->Prop}{st:SortSt}
theorem UH(hL:Ea prog w A E s κ K D){lo n ok:Nat}{Q:Bool->SortSt->Prop}(hB:SB κ D st)(hok:ok<=n)(hz:lo+n<=(arrOf st).size)(hs:So K (arrOf st) lo ok)
  (h:∀st',SC lo st st'->So K (arrOf st') lo n->Q true st'):wpS (model prog w) A E s (binarySort' lo n ok) Q st:=by
 rw[binarySort'_eq]
 refine wpS_bind (wpS_mono (wpS_forRange (I:=λk c st'=>c=(none,())/\SC lo st st'/\So K (arrOf st') lo (min k n))
  (Q:=λc st'=>c=(none,())/\SC lo st st'/\So K (arrOf st') lo n) ?_ ?_ ⟨rfl,.refl _ _,λi j hij hj=> ?_⟩) ?_)
 ·rintro k c st' hak hkn ⟨rfl,S,hs'⟩
  rw[show min k n=k by omega]at hs'
  have z:=S.size
  have hk:lo+k<(arrOf st').size:=by omega
  have hB':=hB.sc S
  refine wpS_bind (wpS_mono (wpS_forRange (I:=λx c s2=>s2=st'/\ ∃l r,c=(none,l,r)/\l<=r/\r<=k/\r-l<=k-x/\
    (∀i,i<l->kA K (arrOf st') (lo+i)<=kA K (arrOf st') (lo+k))/\(∀i,r<=i->i<k->kA K (arrOf st') (lo+k)<kA K (arrOf st') (lo+i)))
   (Q:=λc s2=>s2=st'/\ ∃l r,c=(none,l,r)/\l<=k/\
    (∀i,i<l->kA K (arrOf st') (lo+i)<=kA K (arrOf st') (lo+k))/\(∀i,l<=i->i<k->kA K (arrOf st') (lo+k)<kA K (arrOf st') (lo+i))) ?_ ?_ ⟨rfl,0,k,rfl,by omega,by omega,by omega,λi hi=>by omega,λi h1 h2=>by omega⟩) ?_)
  ·rintro x c s2 _ hxk ⟨rfl,l,r,rfl,hlr,hrk,hm,hlo,hhi⟩
   dsimp only
   by_cases hge:l≥r
   ·rw[if_pos hge]
    have:l=r:=by omega
    subst this
    exact wpS_pure ⟨rfl,l,l,rfl,hrk,hlo,hhi⟩
   ·rw[if_neg hge]
    refine wpS_bind (tS hL hB' hk (by omega) ?_)
    by_cases less:kA K (arrOf s2) (lo+k)<kA K (arrOf s2) (lo+(l+r)/2)
    ·simp only[less,decide_true,if_true]
     refine wpS_pure ⟨rfl,l,(l+r)/2,rfl,by omega,by omega,by omega,hlo,λi h1 h2=> ?_⟩
     exact Int.lt_of_lt_of_le less (hs' _ _ h1 h2)
    ·simp only[less,decide_false,Bool.false_eq_true,if_false]
     refine wpS_pure ⟨rfl,(l+r)/2+1,r,rfl,by omega,by omega,by omega,λi h1=> ?_,hhi⟩
     exact Int.le_trans (hs' i ((l+r)/2) (by omega) (by omega)) (Int.not_lt.mp less)
  ·rintro c s2 ⟨rfl,l,r,rfl,hlr,hrk,hm,hlo,hhi⟩
   have:l=r:=by omega
   subst this
   exact⟨rfl,l,l,rfl,hrk,hlo,hhi⟩
  ·rintro c s2 ⟨rfl,l,r,rfl,hlk,hlo,hhi⟩
   dsimp only
   rw[moveDown'_eq,show lo+k- (lo+l)=k-l by omega]
   refine wpS_bind (wpS_modify (wpS_pure ⟨rfl,S.bubble hk (by omega),?_⟩))
   rw[show min (k+1) n=k+1 by omega]
   intro i j hij hj
   show kA K (bubble (arrOf s2) (lo+k) (k-l)) (lo+i)<=kA K (bubble (arrOf s2) (lo+k) (k-l)) (lo+j)
   have e:∀t,t<k+1->kA K (bubble (arrOf s2) (lo+k) (k-l)) (lo+t)=if t=l then kA K (arrOf s2) (lo+k)else if l<t then kA K (arrOf s2) (lo+(t-1))else kA K (arrOf s2) (lo+t):=by
    intro t ht
    rw[HX hk (by omega)]
    by_cases c1:t=l
    ·rw[if_pos (by omega),if_pos c1]
    ·rw[if_neg (by omega),if_neg c1]
     by_cases c2:l<t
     ·rw[if_pos (by omega),if_pos c2,show lo+t-1=lo+(t-1)by omega]
     ·rw[if_neg (by omega),if_neg c2]
   rw[e i (by omega),e j hj]
   repeat' split
   all_goals first
    |(exfalso;omega)
    |exact Int.le_refl _
    |exact hlo _ (by omega)
    |exact Int.le_of_lt (hhi _ (by omega) (by omega))
    |exact hs' _ _ (by omega) (by omega)
 ·rintro c st' ⟨hc,S,hs'⟩
  refine⟨hc,S,?_⟩
  rwa [show min (max (max ok 1) n) n=n by omega]at hs'
 ·by_cases h1:ok=0
  ·have:i=j:=by omega
   subst this;exact Int.le_refl _
  ·exact hs i j hij (by omega)
 ·rintro c st' ⟨rfl,S,hs'⟩
  exact wpS_pure (h st' S hs')
abbrev sl (a:Array Keyed) (lo n:Nat):List Keyed:=(a.toList.drop lo).take n
theorem RM{a:Array Keyed}{lo n:Nat}(h:lo+n<=a.size):So K a lo n↔(sl a lo n).Pairwise λx y=>K x<=K y:=by
 have len:(sl a lo n).length=n:=by simp[sl];omega
 have at':∀i (hi:i<n),∃x,(sl a lo n)[i]'(by omega)=x/\kA K a (lo+i)=K x:=λi hi=>by
  refine⟨_,rfl,?_⟩
  have e:a[lo+i]?=some ((sl a lo n)[i]'(by omega)):=by
   rw[<-List.getElem?_eq_getElem]
   simp[sl,List.getElem?_take_of_lt hi]
  unfold kA
  rw[e]
 constructor
 ·intro hs
  rw[List.pairwise_iff_getElem]
  intro i j hi hj hij
  obtain⟨x,ex,kx⟩:=at' i (by omega)
  obtain⟨y,ey,ky⟩:=at' j (by omega)
  have:=hs i j (by omega) (by omega)
  rw[ex,ey,<-kx,<-ky]
  exact this
 ·intro hs i j hij hj
  by_cases c:i=j
  ·subst c;exact Int.le_refl _
  obtain⟨x,ex,kx⟩:=at' i (by omega)
  obtain⟨y,ey,ky⟩:=at' j hj
  have:=List.pairwise_iff_getElem.mp hs i j (by omega) (by omega) (by omega)
  rw[ex,ey,<-kx,<-ky]at this
  exact this
theorem Ay{M:Model}{α:Type}{c:Prop} [Decidable c]{x y:StateT SortSt Sem α}{Q:α->SortSt->Prop}(h1:c->wpS M A E s x Q st)(h2:¬c->wpS M A E s y Q st):wpS M A E s (if c then x else y) Q st:=by
 split
 ·exact h1 ‹_›
 ·exact h2 ‹_›
structure Mg(K:Keyed->Int)(sa n:Nat)(p:Array (Nat×Nat×Nat))(s0 st:SortSt):Prop where
 perm:(arrOf st).Perm (arrOf s0)
 kind:kindOf st=kindOf s0
 failed:failedOf st=failedOf s0
 pend:pendingOf st=p
 out:∀t,t<sa∨sa+n<=t->(arrOf st)[t]?=(arrOf s0)[t]?
 so:So K (arrOf st) sa n
end
def Ji(K:Keyed->Int)(ar:Array Keyed):Nat->List (Nat×Nat×Nat) ->Nat->Prop
 |a,[],e=>a=e
 |a,(u,n,_)::r,e=>u=a/\0<n/\So K ar a n/\Ji K ar (a+n) r e
theorem Ji.append{K:Keyed->Int}{ar:Array Keyed}{r:List (Nat×Nat×Nat)}{e:Nat}:∀{l:List (Nat×Nat×Nat)} {a:Nat},Ji K ar a (l++r) e↔ ∃m,Ji K ar a l m/\Ji K ar m r e
 | [],a=>⟨λh=>⟨a,rfl,h⟩,λ ⟨m,h,q⟩=>by cases h;exact q⟩
 |(u,n,z)::l,a=>by
  constructor
  ·rintro⟨h1,h2,h3,h4⟩
   obtain⟨m,p,q⟩:=Ji.append.mp h4
   exact⟨m,⟨h1,h2,h3,p⟩,q⟩
  ·rintro⟨m,⟨h1,h2,h3,p⟩,q⟩
   exact⟨h1,h2,h3,Ji.append.mpr ⟨m,p,q⟩⟩
theorem Ji.push{K:Keyed->Int}{ar:Array Keyed}{l:List (Nat×Nat×Nat)}{a e n z:Nat}(h:Ji K ar a l e)(hn:0<n)(hs:So K ar e n):Ji K ar a (l++ [(e,n,z)]) (e+n):=Ji.append.mpr ⟨e,h,rfl,hn,hs,rfl⟩
theorem RN:sortRuns'=(do
 let zz:=(arrOf (<-get)).size
 let mr:=minRun' zz zz 0
 let mut lo:=0
 for _ in [0:zz] do
  if lo≥zz then break
  let some f<-countRun' lo (zz-lo)|return
  let mut n:=f
  if n<mr then
   rule "list.sort.binary-insertion"
   let fo:=min (zz-lo) mr
   if !(<-binarySort' lo fo n)then return
   n:=fo
  if let some (a1,b1,_):=(pendingOf (<-get)).back? then
   let pw:=power' zz (2*a1+b1) (2*a1+b1+b1+n) zz
   for _ in [0:zz] do
    let p:=pendingOf (<-get)
    let some (_,_,od):=(if p.size>1 then p[p.size-2]? else none)|break
    if od<=pw then break
    if !(<-mergeAt' (p.size-2))then return
   modify λy=>setPending y ((pendingOf y).modify ((pendingOf y).size-1) λ (c,d,_)=>(c,d,pw))
  modify λy=>setPending y ((pendingOf y).push (lo,n,0))
  lo:=lo+n
 for _ in [0:zz] do
  let p:=pendingOf (<-get)
  if p.size<=1 then break
  let i:=p.size-2
  let be:=if i>0 then p[i-1]?.map (·.2.1)else none
  let i:=if be.any (· <(p[i+1]?.elim 0 (·.2.1)))then i-1 else i
  if !(<-mergeAt' i)then return):=rfl
section
variable{prog:Program}{w:World}{A:Around}{E:Value->Shared->Prop}{s:Shared}{κ:SortKind}{K:Keyed->Int}{D:Keyed->Prop}{st:SortSt}{a₀:Array Keyed}
structure RI(κ:SortKind)(K:Keyed->Int)(D:Keyed->Prop)(a₀:Array Keyed)(lo:Nat)(st:SortSt):Prop where
 sb:SB κ D st
 perm:(arrOf st).Perm a₀
 Xb:Ji K (arrOf st) 0 (pendingOf st).toList lo
 le:lo<=a₀.size
theorem RI.size{lo:Nat}(R:RI κ K D a₀ lo st):(arrOf st).size=a₀.size:=R.perm.size_eq
end
end Aw
namespace L2
open PySem PySem.Spec PyProof.Rows PySem.SeqAt
open AutoSeq1 (wpAny_loadPart')
open MeetsSeq MeetsSeq2 MeetsSeq3 SeqRoads2
mutual
inductive RO:PyData->PyData->Prop
 |int (a b:Int):RO (.int a) (.int b)
 |lst {xs ys:List PyData}:zh xs ys->RO (.list xs) (.list ys)
inductive zh:List PyData->List PyData->Prop
 |nil:zh [] []
 |cons {x y:PyData} {xs ys:List PyData}:RO x y->zh xs ys->zh (x::xs) (y::ys)
end
section
variable{A:Around}{s:Shared}
end
theorem zh.length:∀{xs ys:List PyData},zh xs ys->xs.length=ys.length
 |_,_,.nil=>rfl
 |_,_,.cons _ cs=>congrArg (· +1) cs.length
section
variable{prog:Program}{w:World}{A:Around}{E:Value->Shared->Prop}{s:Shared}
end
end L2
namespace L2
open PySem PySem.Spec PyProof.Rows PySem.SeqAt Aw
section
variable{prog:Program}{w:World}{A:Around}{E:Value->Shared->Prop}{s:Shared}
structure Vx(prog:Program)(w:World)(A:Around)(E:Value->Shared->Prop)(a:Addr)(vs:List Value)(κ:SortKind)(K:Keyed->Int)(s:Shared):Prop where
 kind:2<=vs.length-> ∀s':Shared,(∀b o,b≠a->s.heap.get? b=some o->s'.heap.get? b=some o) -> ∀Q:SortKind->Shared->Prop,Q κ s'->wpAny (model prog w) A (keyKind' vs.toArray) Q E s'
 lt:∀s':Shared,(∀b o,b≠a->s.heap.get? b=some o->s'.heap.get? b=some o) ->Ea prog w A E s' κ K (λp=>p.1=p.2/\p.1∈vs)
end
section
variable{prog:Program}{w:World}{A:Around}{E:Value->Shared->Prop}{s:Shared}
theorem OU{κ:SortKind}{K:Keyed->Int}{D:Keyed->Prop}(h:∀x y:Keyed,D x->D y-> ∀(E:Value->Shared->Prop) (Q:Bool->Shared->Prop),Q (decide (K x<K y)) s->wpAny (model prog w) A (keyLt' κ x.1 y.1) Q E s):Ea prog w A E s κ K D:=by
 intro st x y Q hk hx hy hq
 rw[lt'_eq]
 refine wpS_bind (wpS_get ?_)
 rw[hk]
 refine wpS_bind (wpS_lift (wpAny_attempt (h x y hx hy _ _ ⟨rfl,?_⟩)))
 exact wpS_pure hq
end
section
variable{X:Cx}
end
end L2
namespace L2
open PySem PySem.Spec PyProof.Rows PySem.W PySem.Calls
abbrev kn (o:Obj):HO:= .zJ o (.ext λ_=>True)
theorem Mn{P:Program}{w:World}{H:Hp}{h:Heap}{a:Addr}{o:Obj}(e:h.get? a=some o):gb P w H h a (kn o):=⟨e,trivial,⟨o,e⟩,λ_ _ _ _=>trivial⟩
theorem wL{pos pos2:Pos}{c:Value}:∀{l:List Value},TriplesOk l-> ∀{cv:Value},codeAmong pos (l++ [rawInt pos2.line,rawInt pos2.col,c])=some cv->codeAmong pos l=some cv∨cv=c
 | [],_,cv,h=>by
  simp only[List.nil_append,rawInt,codeAmong]at h
  split at h
  ·exact .inr (Option.some.inj h).symm
  ·cases h
 | .int x t:: .int y u::d::r,ht,cv,h=>by
  simp only[List.cons_append,codeAmong]at h ⊢
  split at h
  ·rename_i q
   rw[if_pos q]
   exact .inl h
  ·rename_i q
   rw[if_neg q]
   exact wL (l:=r) ht h
theorem rW{pos:Pos}{c:Value}:∀{l:List Value},TriplesOk l->TriplesOk (l++ [rawInt pos.line,rawInt pos.col,c])
 | [],_=>trivial
 | .int _ _:: .int _ _::_::r,h=>rW (l:=r) h
structure Cb(X:Cx)(args:Arguments)(body:Expr)(sc:Scope)(H:Hp)(f:Addr):Prop where
 ex:∃(qual:Str) (pm ctv:Value) (c:Addr) (oc:Obj) (vs:Array Value) (q:Str) (t:Tok),
  H f=some (kn {cls:= .type "function",data:= .func (kla_fn "<lambda>" qual args body sc (b8 X.env sc.names []) pm (.ref c) ctv)})/\H c=some (kn oc)/\oc.data= .fields vs/\vs[1]?=some (.str q t)
theorem Cb.same{X:Cx}{args:Arguments}{body:Expr}{sc:Scope}{H H':Hp}{f:Addr}(L:Cb X args body sc H f)(s:au H H'):Cb X args body sc H' f:=by
 obtain⟨qual,pm,ctv,c,oc,vs,q,t,e1,e2,e3,e4⟩:=L.ex
 exact⟨qual,pm,ctv,c,oc,vs,q,t,s _ _ e1,s _ _ e2,e3,e4⟩
section
variable{X:Cx}{pins:List (Addr×Obj)}{σ:St}{H:Hp}{s:Shared}{P:Addr}{args:Arguments}{body:Expr}{sc:Scope}{pos:Pos}{own N2:List Str}
theorem HZ(I:Inv X pins σ H s)(hcd:gx X.K X.env.code P)(hP:(H P).isSome=true):∃c,X.env.code= .ref c/\CodeHd s.heap c P:=by
 obtain⟨c,o,vs,file,tf,flags,tg,JL,text,tt,ec,hc,hcl,hd,h11,TQ,h7,h9,TR⟩:=hcd.ex
 have hcs:s.heap.get? c=some o:=I.zK c o hc
 have hcn:H c=none:=(I.bs c o (I.ok.mod.Se c o hc)).2
 have ne:c≠P:=λe=>by rw[<-e,hcn]at hP;cases hP
 have QY:vs.getD 11 .none= .ref P:=by
  have:vs.getD 11 .none=(vs[11]?).getD .none:=by simp
  rw[this,h11];rfl
 exact⟨c,ec,o,vs,file,tf,flags,tg,JL,text,tt,hcs,hcl,hd,h11,QY,TQ,h7,h9,TR,ne⟩
theorem Ia{Q:Value->Shared->Prop}{E:Value->Shared->Prop}{M:Model}{A:Around}(I:Inv X pins σ H s)(hcd:gx X.K X.env.code P)(hP:H P=some .EU)(bm:BM X.mg X.base)
  (Bk:rj sc.names X.env.scope.names own N2 X.N)(hdef:defaultsOf args X.env=([],[]))
  (h:∀f H' s',Inv X pins σ H' s'->au H H'->H f=none->Cb X args body sc H' f->Q (.ref f) s'):wpAny M A (eval (.Lambda args body sc pos) X.env) Q E s:=by
 obtain⟨c,ec,C⟩:=HZ I hcd (by rw[hP];rfl)
 obtain⟨ps,eP,tr,cs⟩:=I.hok P _ hP
 obtain⟨Vg,ob,b1,b2,b3,b4,b5,b6⟩:=bm
 have hg:s.heap.Ns mainGlobals X.mg:=by have:=I.mod.glob.keeps I.bk;exact this
 have hgP:mainGlobals≠P:=λq=>by
  obtain⟨o,es,ep,e,hd,_⟩:=hg
  rw[q,eP]at e;cases e;cases hd
 have hbG:Vg≠mainGlobals:=λq=>by
  obtain⟨o,es,ep,e,hd,_⟩:=I.mod.glob
  rw[q,e]at b3;cases b3;rw[hd]at b6;cases b6
 have hbP:Vg≠P:=λq=>by
  have:=(I.bs _ _ b3).2
  rw[q,hP]at this;cases this
 have ba:s.heap.BuiltinsAt X.mg P:=⟨Vg,ob,b1,b2,hbG,hbP,I.bk _ _ b3,b4,b5,b6⟩
 refine kla_eval hdef ?_
 cases q:codeAmong pos ps.toList with
 |some cv=>
  obtain⟨c',oc,vs,q',t',rfl,e2,e3,e4⟩:=cs pos cv q
  refine kla_makeFunctionHit (mg:=X.mg) (rD I Bk) I.ok.glob hg ec C eP tr q ba λctv h' tk hk hsz=> ?_
  have I1:Inv X pins σ H {s with heap:=h',toks:=tk}:=I.kept hk
  have I2:=I1.laid (a:=h'.objs.size) (o:=kn {cls:= .type "function",data:= .func (kla_fn "<lambda>" (X.env.qual++ "<lambda>") args body sc (b8 X.env sc.names []) ((X.mg "__name__").getD .none) (.ref c') ctv)}) (h':=h'.push _) (t':=tk) (λb o e=>Heap.get?_push_of_some _ e) (Nat.le_refl _) (Mn (Heap.get?_push_size _ rfl))
  have fr:H h'.objs.size=none:=I1.hok.fresh (Nat.le_refl _)
  exact h _ _ _ I2 (au.up fr) fr ⟨_,_,_,c',oc,vs,q',t',aA,(au.up fr) _ _ e2,e3,e4⟩
 |none=>
  refine kla_makeFunction (mg:=X.mg) (rD I Bk) I.ok.glob hg ec C eP tr q hgP ba λc' ctv h' tk hx hge hlt hrec htb=> ?_
  obtain⟨c2,oc,vs,t,e2,hoc,hd,hv⟩:=hrec
  cases e2
  have Rh:H c'=none:=I.hok.fresh hge
  have nP:P≠c':=λz=>by rw[z,Rh]at hP;cases hP
  have I1:Inv X pins σ (upd H c' (kn oc)) {s with heap:=h',toks:=tk}:=by
   have ne:∀{b u},H b=some u->b≠c':=λ {b u} e z=>by rw[z,Rh]at e;cases e
   have YN:∀{b},H b=none->b≠P:=λ {b} e z=>by rw[z,hP]at e;cases e
   refine I.un (t':=tk) ⟨λb o e n _ _=>hx b o (YN n) e,λb o e n _ _=>⟨o.slots,hx b o (YN n) e⟩,λb o e n _=>by rw[aF (Nat.ne_of_lt (Nat.lt_of_lt_of_le (Heap.lt_size e) hge))];exact n,λb o e _=> ?_,
    λb xs e=>by rw[aF (ne e)];exact e,λb o u e=>by rw[aF (ne e)];exact e,λb ps e=>⟨#[],by rw[aF (ne e),e];simp⟩⟩ (λb u e=> ?_)
   ·by_cases hb:b=P
    ·subst hb;exact⟨_,htb⟩
    ·exact⟨o,hx b o hb e⟩
   ·by_cases hb:b=c'
    ·subst hb
     rw[aA]at e
     cases e
     exact Mn hoc
    ·rw[aF hb]at e
     by_cases hb2:b=P
     ·subst hb2
      rw[hP]at e
      cases e
      refine⟨_,htb,by simpa using rW tr,λpos2 cv e2=> ?_⟩
      have e3:codeAmong pos2 (ps.toList++ [rawInt pos.line,rawInt pos.col,.ref c'])=some cv:=by simpa using e2
      rcases wL tr e3 with z|z
      ·obtain⟨c3,oc3,vs3,q3,t3,f1,f2,f3,f4⟩:=cs pos2 cv z
       exact⟨c3,oc3,vs3,q3,t3,f1,by rw[aF (ne f2)];exact f2,f3,f4⟩
      ·exact⟨c',oc,vs,_,t,z,aA,hd,hv⟩
     ·refine(I.hok b u e).stay (λd v hc2 q2=>hx d v (λz=> ?_) q2) (λd q2=>by rw[aF (ne q2)];exact q2) (λd xs q2=>by rw[aF (ne q2)];exact q2) (λd ob xs q2=>by rw[aF (ne q2)];exact q2)
      subst z
      rcases hc2 with z|z
      ·exact hb2 z.symm
      ·rw[hP]at z;cases z
  have I2:=I1.laid (a:=h'.objs.size) (o:=kn (kla_obj "<lambda>" (X.env.qual++ "<lambda>") args body sc (b8 X.env sc.names []) ((X.mg "__name__").getD .none) c' ctv)) (h':=h'.push _) (t':=tk) (λb o e=>Heap.get?_push_of_some _ e) (Nat.le_refl _) (Mn (Heap.get?_push_size _ rfl))
  have Rc:upd H c' (kn oc) h'.objs.size=none:=I1.hok.fresh (Nat.le_refl _)
  have Nf:H h'.objs.size=none:=by
   have:=Rc
   rwa [aF (Nat.ne_of_gt hlt)]at this
  exact h _ _ _ I2 ((au.up Rh).trans (au.up Rc)) Nf ⟨_,_,_,c',oc,vs,_,t,aA,(au.up Rc) _ _ aA,hd,hv⟩
end
section
variable{prog:Program}{w:World}{A:Around}{R:Result->Shared->Prop}{s:Shared}
theorem Eb{a:Addr}{ar:Args}{o:Obj}{fd:FuncData}{bd:Expr}{q:Str}(room:A.depth<recursionLimit)(ho:s.heap.get? a=some o)(hfd:o.data= .func fd)
  (co:fd.scope.isCoroutine=false)(gen:fd.scope.isGenerator=false)(hbd:fd.body= .expr bd)(cd:s.heap.CodeRec fd.code q)
  (h:wpAny (model prog w) A.in1 (bindArgs fd ar) (λbs s1=>
   wpAny (model prog w) A.in1 (newFunctionEnv fd.scope fd.globals fd.closure bs (q++ ".<locals>.") (some a) fd.code none fd.builtins)
    (λev s2=>s2.heap.NoLimit/\codeAny (model prog w) A (.expr bd ev) R s2) (λe s'=>R (.error e) s') s1) (λe s'=>R (.error e) s') s):
  codeAny (model prog w) A (.call (.ref a) ar) R s:=by
 refine codeAny_of_tree ?_
 show wpAny _ A.in1 (callAny (.ref a) ar) _ _ s
 simp only[callAny]
 refine wpAny_bind (wpAny_load ho ?_)
 obtain⟨c,oc,vs,tq,hc,hoc,hdc,hq⟩:=cd
 simp only[hfd,callFunction,co,gen,hbd,hc]
 rw[hc]at h
 refine wpAny_bind (m:=field (.ref c) 1) (wpAny_field hoc hdc hq (wpAny_bind (wpAny_pure ?_)))
 refine wpAny_bind (wpAny_mono h (λbs s1 h1=>wpAny_bind (wpAny_mono h1 (λev s2 h2=> ?_) λ_ _ e=>e)) λ_ _ e=>e)
 exact wpAny_bind (wpAny_enterFrame h2.1 room (wpAny_pure (And.intro rfl h2.2)))
end
def Cx.lam(X:Cx)(B:Around)(sc:Scope)(N':List Str)(q:Str)(f:Addr)(cd:Value)(s:Shared)(H:Hp):Cx:=
 {X with
  N:=N'
  s₀:=s
  H₀:=H
  A:=B.deeper (envX q sc s.heap.objs.size f cd (b8 X.env sc.names []))
  env:=envX q sc s.heap.objs.size f cd (b8 X.env sc.names [])
  outer:=X.stack
  stack:=envX q sc s.heap.objs.size f cd (b8 X.env sc.names [])::X.stack
  ex:=[]
  fn:=λ_=>false
  calm:=true
  pn:=[]
  xe:=λ_ _=>False}
section
variable{X:Cx}{pins:List (Addr×Obj)}{σ:St}{H:Hp}{s:Shared}{sc:Scope}{x:Str}{N2:List Str}{B:Around}{q:Str}{f:Addr}{cd:Value}
theorem OV{h':Heap}{tk:Nat}{v:V}{u:Value}(I:Inv X pins σ H s)(Bk:rj sc.names X.env.scope.names [x] N2 X.N)(hk:sc.kind= .function)(hnc:∀y∈sc.names,y.2≠ .cell)(hx:sc.names.lookup x=some .local)
  (hB:B.frames=some X.stack)(hh:B.handled=none)(hn:h'.Ns s.heap.objs.size (λy=>([(x,u)]:List (Str×Value)).reverse.lookup y))(keep:∀b o,s.heap.get? b=some o->h'.get? b=some o)(rv:RelV v u):
  Inv (X.lam B sc ([x]++N2) q f cd s H) [] (some v::σ) H {s with heap:=h',toks:=tk}:=by
 have j8:∀y c,(b8 X.env sc.names []).lookup y=some c->(y,NameKind.free)∈sc.names/\X.env.cells.lookup y=some c:=λy c h=>by
  have h2:(cellsFrom 0 sc.names (b8 X.env sc.names [])).lookup y=some c:=by rw[fH hnc];exact h
  rcases jx I Bk (mem_of_lookup h2)with⟨_,z⟩|z
  ·exact absurd rfl (hnc _ z)
  ·exact z
 have Jf:∀b:Addr,b∉(X.lam B sc ([x]++N2) q f cd s H).ex:=λb z=>absurd (show b∈([]:List Addr)from z) (by simp)
 have ok:(X.lam B sc ([x]++N2) q f cd s H).Ok:=by
  refine⟨I.ok.mod,hk,rfl,rfl,Nat.le_refl _,λy z c h1 h2=>I.ok.inj y z c (j8 y c h1).2 (j8 z c h2).2,λy hy=> ?_,λy c hy _=>absurd hy (by show ¬(false=true);decide),λ_=>hh,Around.frames_deeper hB,.inr ⟨rfl,rfl⟩,λb hb=>absurd hb (Jf b),I.bs,Nat.le_trans I.ok.Nl I.sz,λb _ _=>Jf b,λb hb=>absurd hb (Jf b),I.stack,I.vm⟩
  have hy':sc.names.lookup y=some .cell∨sc.names.lookup y=some .free:=hy
  rcases hy' with e|e
  ·exact absurd rfl (hnc _ (mem_of_lookup e))
  ·obtain⟨c,hc⟩:=kI I Bk y (mem_of_lookup e)
   have:=nC (n:=0) I Bk (mem_of_lookup e) hc
   rw[fH hnc]at this
   exact⟨c,this⟩
 refine⟨ok,rfl,.refl I.bare.bare,Un.kept keep,⟨_,hn,λi y w e1 e2 e3=> ?_⟩,λy c hc=> ?_,I.fresh,λy c hc=>I.oB y c (j8 y c hc).2,λp hp=>absurd (show p∈([]:List (Addr×Obj))from hp) (by simp),I.hok.kept keep,?_⟩
 ·cases i with
  |zero=>
   have ey:x=y:=Option.some.inj e1
   have ew:v=w:=by
    have:some (some v)=some (some w):=e2
    cases this;rfl
   subst ey ew
   refine⟨u,rv,.inl ⟨hx,?_⟩⟩
   simp[List.lookup]
  |succ i=>
   have Dh:N2[i]?=some y:=e1
   have Fj:σ[i]?=some (some w):=e2
   have hown:y∉([x]:List Str):=λhm=>by
    have nd:=Bk.NF
    rw[List.nodup_append]at nd
    exact nd.2.2 y hm y (List.mem_of_getElem? Dh) rfl
   refine zT I Bk (n:=0) Dh Fj (fH hnc).symm (λz hz=> .inr (cO Bk.nd hz)) (λhv=>let⟨k,e,_⟩:=p8 hv;⟨k,e⟩) hown keep e3 (λk e=> ?_)
   obtain⟨k',e',hk'⟩:=p8 e3
   have e4:sc.names.lookup y=some k':=e'
   rw[e]at e4;cases e4
   exact hk'
 ·obtain⟨w,z⟩:=I.cell y c (j8 y c hc).2
  exact⟨w,z.keeps keep⟩
 ·show(some v::σ).length=([x]++N2).length
  rw[List.length_cons,I.len,<-Bk.len]
  rfl
theorem OW{args:Arguments}{body:Expr}{tb:TE}{v:V}{u:Value}{Q:VK}{E:Value->Shared->Prop}(I:Inv X pins σ H s)(L:Cb X args body sc H f)(Bk:rj sc.names X.env.scope.names [x] N2 X.N)
  (hk:sc.kind= .function)(hco:sc.isCoroutine=false)(hgen:sc.isGenerator=false)(hnc:∀y∈sc.names,y.2≠ .cell)(hx:sc.names.lookup x=some .local)
  (hbind:∀qual cl pm c ctv u,bindArgs (kla_fn "<lambda>" qual args body sc cl pm c ctv) ⟨[u],[]⟩=pure [(x,u)])(hB:B.frames=some X.stack)(hh:B.handled=none)(hroom:B.depth<recursionLimit)
  (hbody:∀q cd,PE (X.lam B sc ([x]++N2) q f cd s H) body tb)(rv:RelV v u)(h:tb (some v::σ) H Q):wpAny (model X.prog X.w) B (call (.ref f) [u]) (EP X pins σ Q) E s:=by
 obtain⟨qual,pm,ctv,c,oc,vs,q,t,e1,e2,e3,e4⟩:=L.ex
 obtain⟨g1,_⟩:s.heap.get? f=some _/\_:=I.hok f _ e1
 obtain⟨g2,_⟩:s.heap.get? c=some oc/\_:=I.hok c _ e2
 refine wpAny_call (Eb (q:=q) hroom g1 rfl hco hgen rfl ⟨c,oc,vs,t,rfl,g2,e3,e4⟩ ?_)
 rw[hbind]
 refine wpAny_pure (wpAny_newFunctionEnv hnc (λy hy=> ?_) (λh1 hns YO=>⟨(I.Bq).fresh _ YO,?_⟩) hk)
 ·rw[List.mem_singleton.mp hy]
  exact hx
 have keep:∀b o,s.heap.get? b=some o->h1.get? b=some o:=λb o e=>YO.extBut b o (Nat.ne_of_lt (Heap.lt_size e)) (Heap.get?_push_of_some _ e)
 have J:=OV (q:=q) (f:=f) (cd:= .ref c) (tk:=s.toks+1) I Bk hk hnc hx hB hh hns keep rv
 refine kla_codeExpr (wpAny_mono (hbody q (.ref c) [] _ _ H Q J h) (λu' s' hs=> ?_) λ_ _ z=>False.elim z)
 obtain⟨v',H',J',r',q'⟩:=hs
 have I':Inv X pins σ H' s':=I.Jl (ch:=[]) J'.os J'.base J'.hok J'.bare λb z=>nomatch z
 exact⟨v',H',I',r',q'⟩
end
end L2
namespace L2
open PySem PySem.Spec PyProof.Rows PySem.Calls Aw
theorem zj{α β:Type}{f:α->β}:∀{m n:List β},m.Perm n-> ∀l:List α,n=l.map f-> ∃l':List α,l'.Perm l/\m=l'.map f:=by
 intro m n p
 induction p with
 |nil=>
  intro l e
  exact⟨l,.refl _,e⟩
 |cons x _ ih=>
  intro l e
  cases l with
  |nil=>cases e
  |cons a l=>
   injection e with e1 e2
   obtain⟨l',p',e'⟩:=ih l e2
   exact⟨a::l',p'.cons a,by rw[List.map_cons,e1,e']⟩
 |swap x y r=>
  intro l e
  match l,e with
  |a::b::l,e=>
   injection e with e1 e2
   injection e2 with e2 e3
   exact⟨b::a::l,List.Perm.swap _ _ _,by simp[e1,e2,e3]⟩
 |trans _ _ ih1 ih2=>
  intro l e
  obtain⟨l2,p2,e2⟩:=ih2 l e
  obtain⟨l1,p1,e1⟩:=ih1 l2 e2
  exact⟨l1,p1.trans p2,e1⟩
inductive rX (kf:V->Int):List V->List Value->List Value->Prop
 |nil:rX kf [] [] []
 |cons {y:V} {u:Value} {ys:List V} {us ks:List Value} (t:Tok) (r:RelV y u):rX kf ys us ks->rX kf (y::ys) (u::us) (.int (kf y) t::ks)
theorem rX.out{kf:V->Int}{ys:List V}{us ks:List Value}(h:rX kf ys us ks):∃tr:List (Keyed×V),ks.zip us=tr.map Prod.fst/\ys=tr.map Prod.snd/\ ∀t∈tr,RelV t.2 t.1.2/\ ∃k,t.1.1= .int (kf t.2) k:=by
 induction h with
 |nil=>exact⟨[],rfl,rfl,λt h=>nomatch h⟩
 | @cons y u ys us ks t r _ ih=>
  obtain⟨tr,e1,e2,h⟩:=ih
  refine⟨((.int (kf y) t,u),y)::tr,by rw[List.zip_cons_cons,e1];rfl,by rw[e2];rfl,λz hz=> ?_⟩
  rcases List.mem_cons.mp hz with rfl|hz
  ·exact⟨r,t,rfl⟩
  ·exact h z hz
theorem rX.ints{kf:V->Int}{ys:List V}{us ks:List Value}(h:rX kf ys us ks):IntsAre ks (ys.map kf):=by
 induction h with
 |nil=>exact .nil
 |cons t r _ ih=>exact .cons _ t ih
theorem rX.snoc{kf:V->Int}{ys:List V}{us ks:List Value}{y:V}{u:Value}(h:rX kf ys us ks)(t:Tok)(r:RelV y u):rX kf (ys++ [y]) (us++ [u]) (ks++ [.int (kf y) t]):=by
 induction h with
 |nil=>exact .cons t r .nil
 |cons t' r' _ ih=>exact .cons t' r' ih
section
variable{prog:Program}{w:World}{A:Around}{E:Value->Shared->Prop}{s:Shared}
theorem Ib:Ea prog w A E s oneType' (λp=>numOf p.1) (λp=> ∃n t,p.1= .int n t):=
 OU λx y hx hy E' Q hq=>by
  obtain⟨n,t,e1⟩:=hx
  obtain⟨m,u,e2⟩:=hy
  rw[keyLt'_oneType,e1,e2]
  rw[e1,e2]at hq
  exact oneLt_int hq
end
section
variable{X:Cx}{pins:List (Addr×Obj)}{σ:St}{H:Hp}{s:Shared}{B:Around}{a:Addr}{f:Value}{kf:V->Int}{ys:List V}{us:List Value}
theorem Vals.at{ys:List V}{us:List Value}(r:Vals ys us){j:Nat}{x:Value}(h:us[j]?=some x):∃v,ys[j]?=some v/\RelV v x:=by
 induction r generalizing j with
 |nil=>cases h
 |cons a _ ih=>
  cases j with
  |zero=>cases h;exact⟨_,rfl,a⟩
  |succ j=>exact ih h
abbrev FZ (pins:List (Addr×Obj)) (a:Addr) (e1:Nat) (kS:Addr) (ks:Array Value) (e:Nat):List (Addr×Obj):=pins++ [(a,seqObj "list" #[] e1),(kS,seqObj "list" ks e)]
theorem Az{a:Addr}{o:Obj}(fa:fO X pins H a)(h:s.heap.get? a=some o)(hd:∀v,o.data≠ .cell v):s.heap.get? a=some o/\H a=none/\a≠X.env.locals/\a∉X.fs/\ ∀v,o.data≠ .cell v:=⟨h,fa.1,fa.2.1,fa.2.2.1,hd⟩
theorem zk{H':Hp}(fa:fO X pins H a)(h:H' a=none):fO X pins H' a:=⟨h,fa.2⟩
end
theorem Mp{K:PySem.W.Frag}{H H':Hp}{a:Addr}{xs:List V}(h:aN K H a xs)(s:au H H'):aN K H' a xs:=by
 rcases h with h|h
 ·rcases h with h|⟨o,h⟩
  ·exact .inl (.inl (s _ _ h))
  ·exact .inl (.inr ⟨o,s _ _ h⟩)
 ·exact .inr h
def UI(sc:Scope)(ks:List (Str×NameKind))(own N2 N:List Str):Bool:=
 zQ sc.names ks own N2 N && (sc.kind== .function) && !sc.isCoroutine && !sc.isGenerator && sc.names.all (λy=>y.2 != .cell) && own.all (λx=>sc.names.lookup x==some NameKind.local)
section
variable{X:Cx}{P:Addr}{te tb:TE}{e body:Expr}{args:Arguments}{sc:Scope}{x:Str}{N2:List Str}{p pos Mq kpos:Pos}
end
end L2
namespace L2
open PySem PySem.Spec PyProof.Rows
def Vy(k:Nat)(F:List (List Int)):Prop:=F.length=k/\ ∀i,i<k-> ∃f,F[i]?=some f/\av f i≠0/\ ∀j,j<i->av f j=0
def Sv(k:Nat)(L:List (List Int)):Prop:=∀r∈L,∀j,j<k->av r j=0
theorem Mr(w0 w1 w2:Int):Cl λv=>w0*v 0+w1*v 1+w2*v 2=0 where
 zero:=by simp
 add x y c hx hy:=by
  have e:w0*(x 0+c*y 0)+w1*(x 1+c*y 1)+w2*(x 2+c*y 2)=(w0*x 0+w1*x 1+w2*x 2)+c*(w0*y 0+w1*y 1+w2*y 2):=by grind
  show w0*(x 0+c*y 0)+w1*(x 1+c*y 1)+w2*(x 2+c*y 2)=0
  rw[e,hx,hy]
  simp
 ext x y h e:=by rw[<-e 0 (by decide),<-e 1 (by decide),<-e 2 (by decide)];exact h
theorem Ga(a b c:Nat->Int):Cl λv=> ∃x y z:Int,∀j,j<3->v j=x*a j+y*b j+z*c j where
 zero:=⟨0,0,0,λj _=>by simp⟩
 add u v k:=by
  rintro⟨x,y,z,h⟩ ⟨x',y',z',h'⟩
  exact⟨x+k*x',y+k*y',z+k*z',λj hj=>by show u j+k*v j=_;rw[h j hj,h' j hj];grind⟩
 ext u v:=by
  rintro⟨x,y,z,h⟩ e
  exact⟨x,y,z,λj hj=>by rw[<-e j hj];exact h j hj⟩
theorem Ms{T:List (List Int)}{w0 w1 w2:Int}(h:∀a,a<3->w0*ent T a 0+w1*ent T a 1+w2*ent T a 2=0)(n:w0≠0∨w1≠0∨w2≠0):aK T=0:=by
 have h0:=h 0 (by decide)
 have h1:=h 1 (by decide)
 have h2:=h 2 (by decide)
 have e0:aK T*w0=0:=by
  rw[bV]
  have:(ent T 0 0*(ent T 1 1*ent T 2 2-ent T 1 2*ent T 2 1)+ent T 0 1*(ent T 1 2*ent T 2 0-ent T 1 0*ent T 2 2)+ent T 0 2*(ent T 1 0*ent T 2 1-ent T 1 1*ent T 2 0))*w0=
   (ent T 1 1*ent T 2 2-ent T 1 2*ent T 2 1)*(w0*ent T 0 0+w1*ent T 0 1+w2*ent T 0 2) - (ent T 0 1*ent T 2 2-ent T 0 2*ent T 2 1)*(w0*ent T 1 0+w1*ent T 1 1+w2*ent T 1 2)+(ent T 0 1*ent T 1 2-ent T 0 2*ent T 1 1)*(w0*ent T 2 0+w1*ent T 2 1+w2*ent T 2 2):=by grind
  rw[this,h0,h1,h2]
  simp
 have e1:aK T*w1=0:=by
  rw[bV]
  have:(ent T 0 0*(ent T 1 1*ent T 2 2-ent T 1 2*ent T 2 1)+ent T 0 1*(ent T 1 2*ent T 2 0-ent T 1 0*ent T 2 2)+ent T 0 2*(ent T 1 0*ent T 2 1-ent T 1 1*ent T 2 0))*w1=
   -(ent T 1 0*ent T 2 2-ent T 1 2*ent T 2 0)*(w0*ent T 0 0+w1*ent T 0 1+w2*ent T 0 2)+(ent T 0 0*ent T 2 2-ent T 0 2*ent T 2 0)*(w0*ent T 1 0+w1*ent T 1 1+w2*ent T 1 2) - (ent T 0 0*ent T 1 2-ent T 0 2*ent T 1 0)*(w0*ent T 2 0+w1*ent T 2 1+w2*ent T 2 2):=by grind
  rw[this,h0,h1,h2]
  simp
 have e2:aK T*w2=0:=by
  rw[bV]
  have:(ent T 0 0*(ent T 1 1*ent T 2 2-ent T 1 2*ent T 2 1)+ent T 0 1*(ent T 1 2*ent T 2 0-ent T 1 0*ent T 2 2)+ent T 0 2*(ent T 1 0*ent T 2 1-ent T 1 1*ent T 2 0))*w2=
   (ent T 1 0*ent T 2 1-ent T 1 1*ent T 2 0)*(w0*ent T 0 0+w1*ent T 0 1+w2*ent T 0 2) - (ent T 0 0*ent T 2 1-ent T 0 1*ent T 2 0)*(w0*ent T 1 0+w1*ent T 1 1+w2*ent T 1 2)+(ent T 0 0*ent T 1 1-ent T 0 1*ent T 1 0)*(w0*ent T 2 0+w1*ent T 2 1+w2*ent T 2 2):=by grind
  rw[this,h0,h1,h2]
  simp
 rcases n with n|n|n
 ·exact(Int.mul_eq_zero.mp e0).resolve_right n
 ·exact(Int.mul_eq_zero.mp e1).resolve_right n
 ·exact(Int.mul_eq_zero.mp e2).resolve_right n
def qi(T:List (List Int))(R:List (List Int)):Prop:=∀M,Cl M->(In M R↔ ∀a,a<3->M λj=>ent T a j)
theorem OX{k:Nat}(hk:k<3){F L R T:List (List Int)}(tr:Vy k F)(ze:Sv k L)(sp:Av (F++L) R)(bs:qi T R)(nd:aK T≠0):∃r∈L,av r k≠0:=by
 refine Classical.byContradiction λno=>nd ?_
 have z:∀r∈L,∀j,j<k+1->av r j=0:=λr hr j hj=>by
  by_cases c:j=k
  ·subst c
   exact Classical.byContradiction λn=>no ⟨r,hr,n⟩
  ·exact ze r hr j (by omega)
 have go:∀w0 w1 w2:Int,(∀f∈F,w0*av f 0+w1*av f 1+w2*av f 2=0) ->(∀r∈L,w0*av r 0+w1*av r 1+w2*av r 2=0) ->(w0≠0∨w1≠0∨w2≠0) ->aK T=0:=λw0 w1 w2 h1 h2 n=>
  Ms (λa ha=>((bs _ (Mr w0 w1 w2)).mp ((sp _ (Mr w0 w1 w2)).mp (dW.mpr ⟨h1,h2⟩))) a ha) n
 obtain⟨len,tr⟩:=tr
 rcases aC hk with rfl|rfl|rfl
 ·have:F=[]:=List.length_eq_zero_iff.mp len
  subst this
  exact go 1 0 0 (λf hf=>nomatch hf) (λr hr=>by rw[z r hr 0 (by decide)];simp) (.inl (by decide))
 ·obtain⟨f0,e0,n0,_⟩:=tr 0 (by decide)
  have:F=[f0]:=by
   match F,len,e0 with
   | [a],_,e0=>rw[Option.some.inj e0]
  subst this
  refine go (-(av f0 1)) (av f0 0) 0 (λf hf=> ?_) (λr hr=>by rw[z r hr 0 (by decide),z r hr 1 (by decide)];simp) (.inr (.inl n0))
  rw[List.mem_singleton.mp hf]
  grind
 ·obtain⟨f0,e0,n0,_⟩:=tr 0 (by decide)
  obtain⟨f1,e1,n1,z1⟩:=tr 1 (by decide)
  have:F=[f0,f1]:=by
   match F,len,e0,e1 with
   | [a,b],_,e0,e1=>rw[Option.some.inj e0,Option.some.inj e1]
  subst this
  have z10:=z1 0 (by decide)
  refine go (av f0 1*av f1 2-av f0 2*av f1 1) (av f0 2*av f1 0-av f0 0*av f1 2) (av f0 0*av f1 1-av f0 1*av f1 0) (λf hf=> ?_) (λr hr=>by rw[z r hr 0 (by decide),z r hr 1 (by decide),z r hr 2 (by decide)];simp) (.inr (.inr ?_))
  ·simp only[List.mem_cons,List.not_mem_nil,or_false]at hf
   rcases hf with rfl|rfl<;>grind
  ·rw[z10,Int.mul_zero,Int.sub_zero]
   intro c
   rcases Int.mul_eq_zero.mp c with c|c
   ·exact n0 c
   ·exact n1 c
theorem Ec{a b:Int}(h:a*b=1):a=1∨a= -1:=by
 have h1:a.natAbs*b.natAbs=1:=by rw[<-Int.natAbs_mul,h];rfl
 have:=Nat.eq_one_of_mul_eq_one_right h1
 omega
theorem Cc{F T:List (List Int)}(h:∀a,a<3-> ∃x y z:Int,∀j,j<3->ent F a j=x*ent T 0 j+y*ent T 1 j+z*ent T 2 j):∃k,aK F=k*aK T:=by
 obtain⟨x0,y0,z0,h0⟩:=h 0 (by decide)
 obtain⟨x1,y1,z1,h1⟩:=h 1 (by decide)
 obtain⟨x2,y2,z2,h2⟩:=h 2 (by decide)
 refine⟨x0*(y1*z2-z1*y2) -y0*(x1*z2-z1*x2)+z0*(x1*y2-y1*x2),?_⟩
 rw[bV,bV,h0 0 (by decide),h0 1 (by decide),h0 2 (by decide),h1 0 (by decide),h1 1 (by decide),h1 2 (by decide),h2 0 (by decide),h2 1 (by decide),h2 2 (by decide)]
 grind
theorem Mt{F R T:List (List Int)}(hF:bC F)(sp:Av F R)(bs:qi T R)(nd:aK T≠0):aK F=aK T∨aK F= -(aK T):=by
 have row:∀a,a<3-> ∃r∈F,∀j,j<3->av r j=ent F a j:=λa ha=>by
  have l:a<F.length:=by rw[hF.1];exact ha
  refine⟨F[a],List.getElem_mem l,λj hj=> ?_⟩
  unfold av ent
  simp[l]
 have JL:∀M,Cl M->(∀a,a<3->M λj=>ent F a j) ->In M F:=λM c h r hr=>by
  obtain⟨a,ha,rfl⟩:=List.mem_iff_getElem.mp hr
  refine c.ext _ _ (h a (by rw[hF.1]at ha;exact ha)) λj hj=> ?_
  unfold av ent
  simp[ha]
 obtain⟨k1,e1⟩:∃k,aK T=k*aK F:=by
  refine Cc λa ha=> ?_
  have c:=Ga (λj=>ent F 0 j) (λj=>ent F 1 j) (λj=>ent F 2 j)
  refine(bs _ c).mp ((sp _ c).mp (JL _ c λb hb=> ?_)) a ha
  rcases aC hb with rfl|rfl|rfl
  ·exact⟨1,0,0,λj _=>by simp⟩
  ·exact⟨0,1,0,λj _=>by simp⟩
  ·exact⟨0,0,1,λj _=>by simp⟩
 obtain⟨k2,e2⟩:∃k,aK F=k*aK T:=by
  refine Cc λa ha=> ?_
  have c:=Ga (λj=>ent T 0 j) (λj=>ent T 1 j) (λj=>ent T 2 j)
  obtain⟨r,hr,er⟩:=row a ha
  have:=(sp _ c).mpr ((bs _ c).mpr λb hb=>by
   rcases aC hb with rfl|rfl|rfl
   ·exact⟨1,0,0,λj _=>by simp⟩
   ·exact⟨0,1,0,λj _=>by simp⟩
   ·exact⟨0,0,1,λj _=>by simp⟩) r hr
  obtain⟨x,y,z,h⟩:=this
  exact⟨x,y,z,λj hj=>by rw[<-er j hj];exact h j hj⟩
 have e3:k1*k2=1:=by
  have:(k1*k2)*aK T=1*aK T:=by rw[Int.one_mul,Int.mul_assoc,<-e2,<-e1]
  exact Int.eq_of_mul_eq_mul_right nd this
 rw[Int.mul_comm]at e3
 rcases Ec e3 with z|z<;>rw[e2,z]
 ·exact .inl (by simp)
 ·exact .inr (by simp)
def Ed(i j:Int):Prop:=j≠0/\j.natAbs<2^4096
section
variable{X:Cx}
theorem zp:sr X (binaryOp .FloorDiv) (rI Ed λi j=> .int (i.fdiv j)):=QI λi j _ _ _ _ _ hc q=>by
 refine floordiv_int hc.1 q (.inl (PyProof.noPylong_of_log2 ?_))
 have:=(Nat.log2_lt (by have:=hc.1;omega)).mpr hc.2
 omega
end
def gK(H:Hp)(b:Addr):List Int:=match H b with
 |some (.lst xs)=>xs.map λv=>match v with| .int i=>i|_=>0
 |_=>[]
def Ef(H:Hp)(b:Addr):Prop:=H b=some (.lst [.int (av (gK H b) 0),.int (av (gK H b) 1),.int (av (gK H b) 2)])/\(gK H b).length=3
theorem Gb{H:Hp}{b:Addr}{x y z:Int}(e:H b=some (.lst [.int x,.int y,.int z])):Ef H b/\gK H b=[x,y,z]:=by
 have h:gK H b=[x,y,z]:=by
  unfold gK
  rw[e]
  rfl
 refine⟨⟨?_,by rw[h];rfl⟩,h⟩
 rw[h,e]
 rfl
theorem Ef.keep{H H':Hp}{b:Addr}(h:Ef H b)(s:∀o,H b=some o->H' b=some o):Ef H' b/\gK H' b=gK H b:=by
 have e:gK H' b=gK H b:=by
  have e1:=s _ h.1
  have e2:=h.1
  unfold gK at *
  rw[e1]
  conv=>rhs;rw[e2]
 exact⟨⟨by rw[e];exact s _ h.1,by rw[e];exact h.2⟩,e⟩
theorem Mu{r:List Int}(h:r.length=3):r=[av r 0,av r 1,av r 2]:=by
 match r,h with
 | [a,b,c],_=>rfl
def gB(H:Hp)(as:List Addr):Prop:=∀b∈as,Ef H b
def rws(H:Hp)(as:List Addr):List (List Int):=as.map (gK H)
theorem gB.keep{H H':Hp}{as:List Addr}(h:gB H as)(s:∀b∈as,∀o,H b=some o->H' b=some o):gB H' as/\rws H' as=rws H as:=
 ⟨λb hb=>((h b hb).keep (s b hb)).1,List.map_congr_left λb hb=>((h b hb).keep (s b hb)).2⟩
theorem gB.same{H H':Hp}{as:List Addr}(h:gB H as)(s:au H H'):gB H' as/\rws H' as=rws H as:=h.keep λb _ o e=>s b o e
theorem vE{H:Hp}{t:Addr}{as:List Addr}{m:List (List Int)}(T:Tab H t as m)(h3:∀r∈m,r.length=3):gB H as/\rws H as=m:=by
 obtain⟨ht,pr⟩:=T
 clear ht
 induction pr with
 |nil=>exact⟨λb hb=>(nomatch hb),rfl⟩
 | @cons r b m as e _ ih=>
  have l:=h3 r List.mem_cons_self
  have e':H b=some (.lst [.int (av r 0),.int (av r 1),.int (av r 2)]):=by
   rw[e]
   conv=>lhs;rw[Mu l]
   rfl
  obtain⟨o1,o2⟩:=Gb e'
  obtain⟨i1,i2⟩:=ih λr hr=>h3 r (List.mem_cons_of_mem _ hr)
  refine⟨λc hc=> ?_,?_⟩
  ·rcases List.mem_cons.mp hc with rfl|hc
   ·exact o1
   ·exact i1 c hc
  ·show gK H b::rws H as=_
   rw[o2,i2,<-Mu l]
theorem AA{H:Hp}{t:Addr}{as:List Addr}(ht:H t=some (.lst (as.map V.ref)))(h:gB H as):Tab H t as (rws H as):=by
 refine⟨ht,?_⟩
 clear ht
 induction as with
 |nil=>exact .nil
 |cons b as ih=>
  refine .cons ?_ (ih λc hc=>h c (List.mem_cons_of_mem _ hc))
  have:=h b List.mem_cons_self
  rw[this.1]
  conv=>rhs;rw[Mu this.2]
  rfl
def CT(H:Hp)(k:Nat)(as:List Addr):List Addr:=as.filter λb=>decide (av (gK H b) k=0)
def zq(H:Hp)(k:Nat)(as:List Addr):List Addr:=as.filter λb=> !decide (av (gK H b) k=0)
theorem tT(H:Hp)(k:Nat)(as:List Addr):rws H (CT H k as)=uW k (rws H as):=by
 unfold rws CT uW
 rw[List.filter_map]
 rfl
theorem Eg(H:Hp)(k:Nat)(as:List Addr):rws H (zq H k as)=qS k (rws H as):=by
 unfold rws zq qS
 rw[List.filter_map]
 rfl
theorem lB(H:Hp)(as bs:List Addr):rws H (as++bs)=rws H as++rws H bs:=List.map_append
def vz(H:Hp)(k:Nat):V->Bool
 | .ref b=>decide (av (gK H b) k=0)
 |_=>false
theorem Gd(H:Hp)(k:Nat)(as:List Addr):((as.map V.ref).filter (vz H k)).map id=(CT H k as).map V.ref:=by
 rw[List.map_id,List.filter_map]
 rfl
theorem Ge(H:Hp)(k:Nat)(as:List Addr):((as.map V.ref).filter λv=> !vz H k v).map id=(zq H k as).map V.ref:=by
 rw[List.map_id,List.filter_map]
 rfl
theorem wM{α:Type}(p:α->Bool):∀l:List α,(l.filter p).length+(l.filter λx=> !p x).length=l.length
 | []=>rfl
 |a::l=>by
  have ih:=wM p l
  rw[List.filter_cons,List.filter_cons]
  cases p a<;>simp<;>omega
theorem Cd(a:Int):decide (V.int a=V.int 0)=decide (a=0):=by simp
def kW(H:Hp)(k:Nat):V->Nat
 | .ref b=>(av (gK H b) k).natAbs
 |_=>0
def sumK(k:Nat)(S:List (List Int)):Nat:=(S.map λr=>(av r k).natAbs).sum
def Xc(k:Nat)(σ:St)(H:Hp):Nat:=match(σ[4]?:Option (Option V))with
 |some (some (V.ref S))=>match H S with
  |some (.lst xs)=>(xs.map (kW H k)).sum
  |_=>0
 |_=>0
theorem Mv{k:Nat}{a b c d:Option V}{S:Addr}{r:St}{H:Hp}{as:List Addr}(e:H S=some (.lst (as.map V.ref))):Xc k (a::b::c::d::some (.ref S)::r) H=sumK k (rws H as):=by
 unfold Xc sumK rws
 simp only[List.getElem?_cons_succ,List.getElem?_cons_zero,e,List.map_map]
 rfl
theorem Ic{k:Nat}{A B:List (List Int)}(p:A.Perm B):sumK k A=sumK k B:=(p.map _).sum_nat
theorem uJ(k:Nat)(p:List Int->Bool):∀L:List (List Int),sumK k (L.filter p)<=sumK k L
 | []=>Nat.le_refl _
 |r::L=>by
  have ih:=uJ k p L
  unfold sumK at *
  rw[List.filter_cons]
  split
  ·simp only[List.map_cons,List.sum_cons]
   omega
  ·simp only[List.map_cons,List.sum_cons]
   omega
theorem Ce{k:Nat}(hk:k<3){y:List Int}(ny:av y k≠0):∀{rest:List (List Int)},(∀r∈rest,(av y k).natAbs<=(av r k).natAbs) ->sumK k (d7 k y rest)+rest.length<=sumK k rest
 | [],_=>Nat.le_refl _
 |r::rest,h=>by
  have ih:=Ce hk ny (rest:=rest) λx hx=>h x (List.mem_cons_of_mem _ hx)
  have h1:=h r List.mem_cons_self
  have h2:(av (DY ((av r k).fdiv (av y k)) r y) k).natAbs<(av y k).natAbs:=by
   rw[gU _ _ _ hk]
   exact(iC ny).1
  unfold sumK d7 at *
  simp only[List.map_cons,List.sum_cons,List.length_cons]
  omega
theorem Ie{zs:List V}{as:List Addr}(p:zs.Perm (as.map V.ref)):∃bs:List Addr,zs=bs.map V.ref/\bs.Perm as:=by
 obtain⟨l,p',e⟩:=zj p as rfl
 exact⟨l,e,p'⟩
theorem jK{H:Hp}{b l:Addr}{as:List Addr}(h:Ef H b)(e:H l=some (.lst (as.map V.ref))):b≠l:=by
 rintro rfl
 have e1:=h.1
 rw[e]at e1
 cases as with
 |nil=>cases e1
 |cons a as=>cases e1
def Ent(L:List (List Int))(B:Nat):Prop:=∀x∈L,∀j,j<3->(av x j).natAbs<=B
theorem Wk.perm{k:Nat}{S S':List (List Int)}{E M m Z:Nat}{same:Bool}(W:Wk k S E M m same Z)(p:S.Perm S'):Wk k S' E M m same Z where
 nz:=λr hr=>W.nz r (p.mem_iff.mpr hr)
 off:=λr hr=>W.off r (p.mem_iff.mpr hr)
 hi:=λr hr=>W.hi r (p.mem_iff.mpr hr)
 lo:=λr hr=>W.lo r (p.mem_iff.mpr hr)
 ex:=by
  obtain⟨r,hr,e⟩:=W.ex
  exact⟨r,p.mem_iff.mp hr,e⟩
 sg:=λh=>(W.sg h).imp (λz r hr=>z r (p.mem_iff.mpr hr)) λz r hr=>z r (p.mem_iff.mpr hr)
 Vw:=by rw[<-p.length_eq];exact W.Vw
structure Mid(k:Nat)(FA L S R:List (List Int))(Z B B1:Nat):Prop where
 cn:(uW k L).length+S.length<=4
 ll:L.length<=4
 zl:Sv k L
 zs:Sv k S
 sp:Av (FA++(uW k L++S)) R
 en:Ent (uW k L) B1
 wk:∃E M m same,Wk k S E M m same Z/\M<=B
theorem qj(k:Nat)(L:List (List Int)):uW k (uW k L)=uW k L:=by unfold uW;rw[List.filter_filter];simp
theorem AB(k:Nat)(A B:List (List Int)):uW k (A++B)=uW k A++uW k B:=List.filter_append ..
theorem vF{k:Nat}{L:List (List Int)}{x:List Int}:x∈uW k L↔x∈L/\av x k=0:=by
 unfold uW
 rw[List.mem_filter]
 simp
theorem OY{k:Nat}{L:List (List Int)}{x:List Int}:x∈qS k L↔x∈L/\av x k≠0:=by
 unfold qS
 rw[List.mem_filter]
 simp
theorem Mid.step{k:Nat}(hk:k<3){FA L S R:List (List Int)}{Z B B1:Nat}(h:Mid k FA L S R Z B B1)(hz:Z<=B1){y:List Int}{rest:List (List Int)}(p:S.Perm (y::rest))(hr:rest≠ [])(RL:∀r∈rest,(av y k).natAbs<=(av r k).natAbs):
  Mid k FA (uW k L++uW k (y::d7 k y rest)) (qS k (y::d7 k y rest)) R Z B B1/\sumK k (qS k (y::d7 k y rest))<sumK k S:=by
 obtain⟨E,M,m,same,W,mB⟩:=h.wk
 have W1:=W.perm p
 have ny:av y k≠0:=W1.nz y List.mem_cons_self
 obtain⟨E',m',W2,mM,off,lt⟩:=W1.step hk hr RL
 have zy:uW k (y::d7 k y rest)=uW k (d7 k y rest):=by
  unfold uW
  rw[List.filter_cons_of_neg (by simpa using ny)]
 have Xd:qS k (y::d7 k y rest)=y::qS k (d7 k y rest):=by
  unfold qS
  rw[List.filter_cons_of_pos (by simpa using ny)]
 have ls:S.length=rest.length+1:=p.length_eq
 have lr:(d7 k y rest).length=rest.length:=List.length_map _
 have lz:(uW k (d7 k y rest)).length+(qS k (d7 k y rest)).length=rest.length:=by
  rw[<-lr]
  exact wM _ _
 have cn:=h.cn
 rw[zy,Xd]
 have zS:∀r∈y::rest,∀j,j<k->av r j=0:=λr hr=>h.zs r (p.mem_iff.mpr hr)
 have zR:∀r∈d7 k y rest,∀j,j<k->av r j=0:=λr hr j hj=>by
  obtain⟨r0,h0,rfl⟩:=List.mem_map.mp hr
  rw[gU _ _ _ (by omega),zS r0 (List.mem_cons_of_mem _ h0) j hj,zS y List.mem_cons_self j hj]
  simp
 refine⟨⟨?_,?_,?_,?_,?_,?_,⟨E',m,m',true,W2,Nat.le_trans mM mB⟩⟩,?_⟩
 ·rw[AB,qj,qj,List.length_append,List.length_cons]
  omega
 ·rw[List.length_append]
  omega
 ·intro r hr
  rcases List.mem_append.mp hr with hr|hr
  ·exact h.zl r (vF.mp hr).1
  ·exact zR r (vF.mp hr).1
 ·intro r hr
  rcases List.mem_cons.mp hr with rfl|hr
  ·exact zS _ List.mem_cons_self
  ·exact zR r (OY.mp hr).1
 ·refine Av.trans (λMm c=> ?_) h.sp
  rw[AB,qj,qj,dW,dW,dW,dW,dW,OS p]
  have e1:In Mm (y::qS k (d7 k y rest))↔Mm (av y)/\In Mm (qS k (d7 k y rest)):=by
   unfold In
   simp
  have e2:In Mm (y::rest)↔Mm (av y)/\In Mm rest:=by
   unfold In
   simp
  have e3:=Ca (M:=Mm) k (d7 k y rest)
  rw[e1,e2]
  constructor
  ·rintro⟨a,⟨b,d⟩,e,f⟩
   exact⟨a,b,e,(Mi c e).mp (e3.mpr ⟨d,f⟩)⟩
  ·rintro⟨a,b,e,f⟩
   have:=e3.mp ((Mi c e).mpr f)
   exact⟨a,⟨b,this.1⟩,e,this.2⟩
 ·rw[AB,qj,qj]
  intro r hr j hj
  rcases List.mem_append.mp hr with hr|hr
  ·exact h.en r hr j hj
  ·obtain⟨hr,e0⟩:=vF.mp hr
   by_cases c:j=k
   ·rw[c,e0]
    exact Nat.zero_le _
   ·have:=off r hr j hj c
    have:=W2.bound
    omega
 ·have e1:sumK k S=(av y k).natAbs+sumK k rest:=by
   rw[Ic p]
   rfl
  have e2:sumK k (y::qS k (d7 k y rest))=(av y k).natAbs+sumK k (qS k (d7 k y rest)):=rfl
  have e3:sumK k (qS k (d7 k y rest))<=sumK k (d7 k y rest):=uJ k _ _
  have e4:=Ce hk ny RL
  have:0<rest.length:=List.length_pos_iff.mpr hr
  omega
theorem Mid.done{k:Nat}(hk:k<3){FA L S R:List (List Int)}{Z B B1:Nat}(h:Mid k FA L S R Z B B1)(tr:Vy k FA)(l:¬1<S.length):
  ∃x,S=[x]/\Vy (k+1) (FA++ [x])/\Sv (k+1) (uW k L)/\Av (FA++ [x]++uW k L) R/\(∀j,j<3->(av x j).natAbs<=max Z B):=by
 obtain⟨E,M,m,same,W,mB⟩:=h.wk
 obtain⟨x,hx,_⟩:=W.ex
 have eS:S=[x]:=by
  match S,hx,l with
  | [a],hx,_=>rw[List.mem_singleton.mp hx]
  |a::b::S,_,l=>exact absurd (by simp:1<(a::b::S).length) l
 subst eS
 have nx:=W.nz x List.mem_cons_self
 have zx:=h.zs x List.mem_cons_self
 refine⟨x,rfl,⟨by rw[List.length_append,tr.1];rfl,λi hi=> ?_⟩,λr hr j hj=> ?_,Av.trans (λMm c=> ?_) h.sp,λj hj=> ?_⟩
 ·by_cases c:i=k
  ·refine⟨x,?_,by rw[c];exact nx,λj hj=>zx j (by omega)⟩
   rw[List.getElem?_append_right (by rw[tr.1,c];exact Nat.le_refl _),tr.1,c,Nat.sub_self]
   rfl
  ·obtain⟨f,e,n,z⟩:=tr.2 i (by omega)
   refine⟨f,?_,n,z⟩
   rw[List.getElem?_append_left (by rw[tr.1];omega)]
   exact e
 ·obtain⟨h1,h2⟩:=vF.mp hr
  by_cases c:j=k
  ·rw[c]
   exact h2
  ·exact h.zl r h1 j (by omega)
 ·rw[dW,dW,dW,dW]
  constructor
  ·rintro⟨⟨a,b⟩,d⟩
   exact⟨a,d,b⟩
  ·rintro⟨a,d,b⟩
   exact⟨⟨a,b⟩,d⟩
 ·by_cases c:j=k
  ·rw[c]
   have:=W.hi x List.mem_cons_self
   have:=Nat.le_max_right Z B
   omega
  ·have:=W.off x List.mem_cons_self j hj c
   have:=W.bound
   have:=Nat.le_max_left Z B
   omega
theorem Mid.small{k:Nat}{FA L S R:List (List Int)}{Z B B1:Nat}(h:Mid k FA L S R Z B B1):∀x∈S,av x k≠0/\ ∀j,j<3->(av x j).natAbs<=max Z B:=by
 obtain⟨E,M,m,same,W,mB⟩:=h.wk
 refine λx hx=>⟨W.nz x hx,λj hj=> ?_⟩
 by_cases c:j=k
 ·rw[c]
  have:=W.hi x hx
  have:=Nat.le_max_right Z B
  omega
 ·have:=W.off x hx j hj c
  have:=W.bound
  have:=Nat.le_max_left Z B
  omega
theorem Ig(k:Nat)(y:List Int)(L:List (List Int))(i:Nat)(hi:i<L.length):d7 k y (L.take (i+1))=d7 k y (L.take i)++ [DY ((av L[i] k).fdiv (av y k)) L[i] y]:=by
 unfold d7
 rw[List.take_succ_eq_append_getElem hi,List.map_append]
 rfl
def Ni(p:Int)(s:Nat->Int)(y:Nat->Int):Prop:=(s 0*y 0+s 1*y 1+s 2*y 2)%p=0
theorem Cf{p:Int}{s y:Nat->Int}:Ni p (λk=>s k%p) y↔Ni p s y:=by
 unfold Ni
 have e0:=Int.emod_add_mul_ediv (s 0) p
 have e1:=Int.emod_add_mul_ediv (s 1) p
 have e2:=Int.emod_add_mul_ediv (s 2) p
 have e:(s 0%p*y 0+s 1%p*y 1+s 2%p*y 2)%p=(s 0*y 0+s 1*y 1+s 2*y 2)%p:=by
  refine jq (k:= -(s 0/p*y 0+s 1/p*y 1+s 2/p*y 2)) ?_
  generalize s 0%p=a0 at e0 ⊢
  generalize s 1%p=a1 at e1 ⊢
  generalize s 2%p=a2 at e2 ⊢
  generalize s 0/p=b0 at e0 ⊢
  generalize s 1/p=b1 at e1 ⊢
  generalize s 2/p=b2 at e2 ⊢
  rw[<-e0,<-e1,<-e2]
  grind
 rw[e]
def rm(p:Int)(q:Nat)(w:Nat->Int)(k j:Nat):Int:=if k=q then(if j=q then p else 0)else(if j=k then 1 else if j=q then-(w k)else 0)
theorem RP{p u:Int}{s:Nat->Int}{q:Nat}(hp:1<p)(hq:q<3)(hu:u*s q%p=1){k:Nat}(hk:k<3):Ni p s (rm p q (λk=>s k*u%p) k):=by
 obtain⟨k1,h1⟩:=fN (show u*s q%p=1%p by rw[hu];exact(bJ (by decide) hp).symm)
 have e:=Int.emod_add_mul_ediv (s k*u) p
 unfold Ni
 by_cases c:k=q
 ·subst c
  refine Int.emod_eq_zero_of_dvd ⟨s k,?_⟩
  unfold rm
  rcases aC hk with rfl|rfl|rfl<;>simp[Int.mul_comm]
 ·have e2:s 0*rm p q (λk=>s k*u%p) k 0+s 1*rm p q (λk=>s k*u%p) k 1+s 2*rm p q (λk=>s k*u%p) k 2=s k-s q*(s k*u%p):=by
   unfold rm
   rw[if_neg c]
   rcases aC hk with rfl|rfl|rfl<;>rcases aC hq with rfl|rfl|rfl<;>first|(exact absurd rfl c)|(simp;rw[Int.mul_neg];omega)
  rw[e2]
  refine Int.emod_eq_zero_of_dvd ⟨s q*(s k*u/p) -s k*k1,?_⟩
  generalize s k*u%p=w at e ⊢
  generalize s k*u/p=v at e ⊢
  have e3:w=s k*u-p*v:=by omega
  rw[e3]
  have e4:s k-s q*(s k*u-p*v)=s k-s k*(u*s q)+p*(s q*v):=by grind
  rw[e4,h1]
  grind
theorem OZ{M:(Nat->Int) ->Prop}(c:Cl M){p u:Int}{s:Nat->Int}{q:Nat}(hp:1<p)(hq:q<3)(hu:u*s q%p=1)(h:∀k,k<3->M λj=>p*rm p q (λk=>s k*u%p) k j){y:Nat->Int}(hy:Ni p s y):M λj=>p*y j:=by
 obtain⟨k1,h1⟩:=fN (show u*s q%p=1%p by rw[hu];exact(bJ (by decide) hp).symm)
 obtain⟨z,hz⟩:=Int.dvd_of_emod_eq_zero hy
 have go:∀a b:Nat,a<3->b<3->a≠q->b≠q->a≠b->s q*y q+s a*y a+s b*y b=p*z->M λj=>p*y j:=λa b ha hb na nb nab e=>by
  have ea:=Int.emod_add_mul_ediv (s a*u) p
  have eb:=Int.emod_add_mul_ediv (s b*u) p
  have dv:y q+y a*(s a*u%p)+y b*(s b*u%p)=p*(u*z-k1*y q-s a*u/p*y a-s b*u/p*y b):=by
   generalize s a*u%p=wa at ea ⊢
   generalize s a*u/p=va at ea ⊢
   generalize s b*u%p=wb at eb ⊢
   generalize s b*u/p=vb at eb ⊢
   have e3:wa=s a*u-p*va:=by omega
   have e4:wb=s b*u-p*vb:=by omega
   rw[e3,e4]
   have e5:y q=u*s q*y q-p*k1*y q:=by rw[h1];grind
   have e6:y q+y a*(s a*u-p*va)+y b*(s b*u-p*vb)=(u*s q*y q-p*k1*y q)+y a*(s a*u-p*va)+y b*(s b*u-p*vb):=by rw[<-e5]
   rw[e6]
   have e7:(u*s q*y q-p*k1*y q)+y a*(s a*u-p*va)+y b*(s b*u-p*vb)=u*(s q*y q+s a*y a+s b*y b) -p*(k1*y q+va*y a+vb*y b):=by grind
   rw[e7,e]
   clear e7 e6 e5 e3 e4 ea eb e hz h1 hy h hu
   grind
  generalize u*z-k1*y q-s a*u/p*y a-s b*u/p*y b=d at dv
  refine c.ext _ _ (c.add _ _ d (c.add _ _ (y b) (c.mul (y a) (h a ha)) (h b hb)) (h q hq)) λj hj=> ?_
  unfold rm
  rw[if_neg na,if_neg nb,if_pos rfl]
  have cases:j=q∨j=a∨j=b:=by omega
  rcases cases with rfl|rfl|rfl
  ·rw[if_neg (Ne.symm na),if_pos rfl,if_neg (Ne.symm nb),if_pos rfl,if_pos rfl]
   dsimp only
   generalize s a*u%p=wa at dv ⊢
   generalize s b*u%p=wb at dv ⊢
   have:y j=p*d-y a*wa-y b*wb:=by omega
   rw[this]
   grind
  ·rw[if_pos rfl,if_neg nab,if_neg na,if_neg na]
   grind
  ·rw[if_neg (Ne.symm nab),if_neg nb,if_pos rfl,if_neg nb]
   grind
 rcases aC hq with rfl|rfl|rfl
 ·exact go 1 2 (by decide) (by decide) (by decide) (by decide) (by decide) hz
 ·exact go 0 2 (by decide) (by decide) (by decide) (by decide) (by decide) (by rw[<-hz];omega)
 ·exact go 0 1 (by decide) (by decide) (by decide) (by decide) (by decide) (by rw[<-hz];omega)
theorem Pa{m:List (List Int)}(ev:bI m){p:Int}{x:Nat->Int}{i l o:Nat}{t c:Int}(S:pB m p x i l o t c)(hp:p∈([3,5,7,11,13]:List Int)){M:(Nat->Int) ->Prop}(cl:Cl M)(h:∀a,a<3->M λj=>gz p x i o t c a j){y:Nat->Int}(hy:Ni p (az m x) y):M λj=>p*y j:=by
 have p1:1<p:=by
  simp only[List.mem_cons,List.not_mem_nil,or_false]at hp
  omega
 obtain⟨v,_,hv⟩:=pq hp S.F.sl
 obtain⟨k1,h1⟩:=fN (show(1+(v:Int))*az m x i%p=1%p by rw[hv];exact(bJ (by decide) p1).symm)
 obtain⟨k2,h2⟩:=Int.dvd_of_emod_eq_zero S.eq
 obtain⟨k0,h0⟩:=Int.dvd_of_emod_eq_zero S.hc
 obtain⟨k4,h4⟩:=Int.dvd_of_emod_eq_zero hy
 have ex:=eX m x x
 rw[eO ev x,h0]at ex
 have hi:=S.F.hi
 have hl:=S.hl
 have ho:=S.ho
 have li:=S.li
 have oi:=S.oi
 have ol:=S.ol
 have one:=S.one
 have sum:=S.sum
 generalize hs:az m x=s at *
 have hz:s i*(y i-y l*cH p x i t i)+s o*(y o-y l*x o)=p*(k4-y l*(2*k0+t*s i)):=by
  have e:s i*(y i-y l*cH p x i t i)+s o*(y o-y l*x o)=(s 0*y 0+s 1*y 1+s 2*y 2) -y l*(s 0*x 0+s 1*x 1+s 2*x 2) -y l*(t*p*s i):=by
   unfold cH
   rw[if_pos rfl]
   rcases aC hi with rfl|rfl|rfl<;>rcases aC hl with rfl|rfl|rfl<;>rcases aC ho with rfl|rfl|rfl<;>first|(exfalso;omega)|(rw[one];grind)
  rw[e,h4,<-ex]
  grind
 have dv:(y i-y l*cH p x i t i) -c*(y o-y l*x o)=p*((1+v)*(k4-y l*(2*k0+t*s i)) - (1+v)*k2*(y o-y l*x o) -k1*((y i-y l*cH p x i t i) -c*(y o-y l*x o))):=by
  generalize y i-y l*cH p x i t i=zi at hz ⊢
  generalize y o-y l*x o=zo at hz ⊢
  have e1:zi-c*zo=(1+v)*s i*(zi-c*zo) -p*k1*(zi-c*zo):=by rw[h1];grind
  have e2:(1+v)*s i*(zi-c*zo) -p*k1*(zi-c*zo)=(1+v)*(s i*zi+s o*zo) - (1+v)*(s o+c*s i)*zo-p*(k1*(zi-c*zo)):=by grind
  rw[hz,h2]at e2
  have e3:=e1.trans e2
  generalize zi-c*zo=A at e3 ⊢
  refine e3.trans ?_
  clear e1 e2 e3
  grind
 generalize(1+v)*(k4-y l*(2*k0+t*s i)) - (1+v)*k2*(y o-y l*x o) -k1*((y i-y l*cH p x i t i) -c*(y o-y l*x o))=d at dv
 refine cl.ext _ _ (cl.add _ _ d (cl.add _ _ (y o-y l*x o) (cl.mul (p*y l) (h 0 (by decide))) (h 1 (by decide))) (h 2 (by decide))) λj hj=> ?_
 show p*y l*cH p x i t j+(y o-y l*x o)*(if j=i then c*p else if j=o then p else 0)+d*(if j=i then p*p else 0)=p*y j
 have cases:j=i∨j=l∨j=o:=by omega
 rcases cases with rfl|rfl|rfl
 ·rw[if_pos rfl,if_pos rfl]
  have:y j=y l*cH p x j t j+c*(y o-y l*x o)+p*d:=by omega
  rw[this]
  grind
 ·rw[if_neg li,if_neg (Ne.symm ol),if_neg li]
  unfold cH
  rw[if_neg li,one]
  grind
 ·rw[if_neg oi,if_pos rfl,if_neg oi]
  unfold cH
  rw[if_neg oi]
  grind
theorem Eh{m:List (List Int)}(ev:bI m){p u:Int}{x:Nat->Int}{i l o q:Nat}{t c:Int}(S:pB m p x i l o t c)(hp:p∈([3,5,7,11,13]:List Int))(hq:q<3)(hu:u*(az m x q%p)%p=1){R:List (List Int)}
  (hR:∀M,Cl M->(In M R↔(M λj=>cH p x i t j)/\ ∀k,k<3->M λj=>p*rm p q (λk=>az m x k%p*u%p) k j)):qi (stepT p x i o t c) R:=λM cl=>by
 have p1:1<p:=by
  simp only[List.mem_cons,List.not_mem_nil,or_false]at hp
  omega
 rw[hR M cl]
 have row:∀a,a<3->((M λj=>ent (stepT p x i o t c) a j)↔M λj=>gz p x i o t c a j):=λa ha=>
  ⟨λh=>cl.ext _ _ h λj hj=>fE _ _ _ _ _ _ ha hj,λh=>cl.ext _ _ h λj hj=>(fE _ _ _ _ _ _ ha hj).symm⟩
 constructor
 ·rintro⟨h0,h1⟩ a ha
  rw[row a ha]
  have all:∀y,Ni p (az m x) y->M λj=>p*y j:=λy hy=>OZ cl p1 hq (s:=λk=>az m x k%p) hu h1 (Cf.mpr hy)
  have hi:=S.F.hi
  have ho:=S.ho
  have oi:=S.oi
  have se:=S.eq
  rcases aC ha with rfl|rfl|rfl
  ·exact h0
  ·refine cl.ext _ _ (all (λj=>if j=i then c else if j=o then 1 else 0) ?_) λj hj=> ?_
   ·unfold Ni
    rw[<-se]
    congr 1
    rcases aC hi with rfl|rfl|rfl<;>rcases aC ho with rfl|rfl|rfl<;>first|(exact absurd rfl oi)|(simp<;>grind)
   ·show p*(if j=i then c else if j=o then 1 else 0)=if j=i then c*p else if j=o then p else 0
    split
    ·exact Int.mul_comm ..
    ·split<;>simp
  ·refine cl.ext _ _ (all (λj=>if j=i then p else 0) ?_) λj hj=> ?_
   ·unfold Ni
    refine Int.emod_eq_zero_of_dvd ⟨az m x i,?_⟩
    rcases aC hi with rfl|rfl|rfl<;>simp[Int.mul_comm]
   ·show p*(if j=i then p else 0)=if j=i then p*p else 0
    split<;>simp
 ·intro h
  have h':∀a,a<3->M λj=>gz p x i o t c a j:=λa ha=>(row a ha).mp (h a ha)
  exact⟨h' 0 (by decide),λk hk=>Pa ev S hp cl h' (Cf.mp (RP p1 hq (s:=λk=>az m x k%p) hu hk))⟩
def iW(m:List (List Int))(n:Nat)(x up y:Nat->Int):Prop:=aJ m up y%((n:Int)*n)=0/\ ∃d:Nat,d<n/\ ∀j,j<3->(y j- (d:Int)*x j)%(n:Int)=0
theorem Pb(m:List (List Int)){n:Nat}(n0:0<n)(x up:Nat->Int):Cl λy=>iW m n x up y where
 zero:=⟨by rw[eX];simp,0,n0,λj _=>by simp⟩
 add y z c:=by
  rintro⟨h1,d,hd,h2⟩ ⟨h3,d',hd',h4⟩
  refine⟨?_,(((d:Int)+c*d')%n).toNat,by have:=Int.emod_lt_of_pos ((d:Int)+c*d') (show(0:Int)<n by omega);omega,λj hj=> ?_⟩
  ·obtain⟨a,ha⟩:=Int.dvd_of_emod_eq_zero h1
   obtain⟨b,hb⟩:=Int.dvd_of_emod_eq_zero h3
   refine Int.emod_eq_zero_of_dvd ⟨a+c*b,?_⟩
   have e:aJ m up (λj=>y j+c*z j)=aJ m up y+c*aJ m up z:=by
    rw[eX,eX,eX]
    grind
   rw[e,ha,hb]
   grind
  ·obtain⟨a,ha⟩:=Int.dvd_of_emod_eq_zero (h2 j hj)
   obtain⟨b,hb⟩:=Int.dvd_of_emod_eq_zero (h4 j hj)
   have e0:=Int.emod_nonneg ((d:Int)+c*d') (show(n:Int)≠0 by omega)
   have e1:=Int.emod_add_mul_ediv ((d:Int)+c*d') (n:Int)
   rw[Int.toNat_of_nonneg e0]
   generalize((d:Int)+c*d')%(n:Int)=r at e1 ⊢
   generalize((d:Int)+c*d')/(n:Int)=v at e1
   refine Int.emod_eq_zero_of_dvd ⟨a+c*b+v*x j,?_⟩
   have e3:r=(d:Int)+c*d'-n*v:=by omega
   have e4:y j=(d:Int)*x j+n*a:=by omega
   have e5:z j=(d':Int)*x j+n*b:=by omega
   show y j+c*z j-r*x j=_
   rw[e3,e4,e5]
   grind
 ext y z:=by
  rintro⟨h1,d,hd,h2⟩ e
  refine⟨by rw[<-h1];congr 1;exact fW (λ_ _=>rfl) λj hj=>(e j hj).symm,d,hd,λj hj=>by rw[<-e j hj];exact h2 j hj⟩
def jL(m:List (List Int))(n:Nat)(x up:Nat->Int)(S:List (List Int)):Prop:=(aK S=(n:Int)*n*n∨aK S= -((n:Int)*n*n))/\ ∀a,a<3->iW m n x up λj=>ent S a j
theorem Gf{m:List (List Int)}{n:Nat}{x up up' y:Nat->Int}(e:∀j,j<3->up j=up' j):iW m n x up y↔iW m n x up' y:=by
 unfold iW
 rw[fW (m:=m) (x:=up) (x':=up') (y:=y) (y':=y) e λ_ _=>rfl]
theorem Pc{m:List (List Int)}{n:Nat}{x up up':Nat->Int}{S:List (List Int)}(e:∀j,j<3->up j=up' j):jL m n x up S↔jL m n x up' S:=by
 unfold jL
 constructor
 ·exact λh=>⟨h.1,λa ha=>(Gf e).mp (h.2 a ha)⟩
 ·exact λh=>⟨h.1,λa ha=>(Gf e).mpr (h.2 a ha)⟩
theorem zu{m:List (List Int)}{n:Nat}(n0:0<n){x up y:Nat->Int}{l:Nat}(hl:l<3)(one:x l=1):iW m n x up y↔(∀j,j<3->(y j-y l*x j)%(n:Int)=0)/\aJ m up y%((n:Int)*n)=0:=by
 unfold iW
 constructor
 ·rintro⟨h,d,hd,k⟩
  refine⟨λj hj=> ?_,h⟩
  obtain⟨a,ha⟩:=Int.dvd_of_emod_eq_zero (k j hj)
  obtain⟨b,hb⟩:=Int.dvd_of_emod_eq_zero (k l hl)
  rw[one]at hb
  refine Int.emod_eq_zero_of_dvd ⟨a-b*x j,?_⟩
  have e1:y l=d+n*b:=by omega
  have e2:y j=d*x j+n*a:=by omega
  rw[e1,e2]
  grind
 ·rintro⟨k,h⟩
  refine⟨h,(y l%(n:Int)).toNat,by have:=Int.emod_lt_of_pos (y l) (show(0:Int)<n by omega);omega,λj hj=> ?_⟩
  obtain⟨a,ha⟩:=Int.dvd_of_emod_eq_zero (k j hj)
  have e0:=Int.emod_nonneg (y l) (show(n:Int)≠0 by omega)
  have e1:=Int.emod_add_mul_ediv (y l) (n:Int)
  rw[Int.toNat_of_nonneg e0]
  generalize y l%(n:Int)=r at e1 ⊢
  generalize y l/(n:Int)=v at e1
  refine Int.emod_eq_zero_of_dvd ⟨a+v*x j,?_⟩
  have e3:r=y l-n*v:=by omega
  have e4:y j=y l*x j+n*a:=by omega
  rw[e3]
  have e5:y j- (y l-n*v)*x j=(y j-y l*x j)+n*(v*x j):=by grind
  rw[e5,ha]
  grind
theorem Ih{m:List (List Int)}(ev:bI m){n:Nat}{x:Nat->Int}{i l o:Nat}{t c:Int}(S:pB m (n:Int) x i l o t c)(hp:(n:Int)∈([3,5,7,11,13]:List Int)){k:Nat}(hk:aH m (d9 n x k)%((n:Int)*n)=0)(fk:∀j,j<k-> ¬aH m (d9 n x j)%((n:Int)*n)=0)
  {F R B:List (List Int)}(hF:bC F)(sp:Av F R)(bs:qi (stepT n x i o t c) R)(hB:aK B=1):jL m n x (d9 n x k) F/\jL m n x (d9 n x k) (fq B F):=by
 have n2:2<n:=by
  simp only[List.mem_cons,List.not_mem_nil,or_false]at hp
  omega
 have nd:aK (stepT n x i o t c)≠0:=by
  have:0<(n:Int)*n*n:=Int.mul_pos (Int.mul_pos (by omega) (by omega)) (by omega)
  rcases wg S with z|z<;>rw[z]<;>omega
 have dF:aK F=(n:Int)*n*n∨aK F= -((n:Int)*n*n):=by
  rcases Mt hF sp bs nd with z|z<;>rcases wg S with y|y<;>rw[z,y]
  ·exact .inl rfl
  ·exact .inr rfl
  ·exact .inr rfl
  ·exact .inl (Int.neg_neg _)
 have cl:=Pb m (show 0<n by omega) x (d9 n x k)
 have JL:In (λy=>iW m n x (d9 n x k) y) F:=(sp _ cl).mpr ((bs _ cl).mpr λa ha=>by
  have g:=HQ ev S hp hk fk ha
  exact cl.ext _ _ g λj hj=>(fE _ _ _ _ _ _ ha hj).symm)
 have row:∀a,a<3->iW m n x (d9 n x k) λj=>ent F a j:=λa ha=>by
  have la:a<F.length:=by rw[hF.1];exact ha
  refine cl.ext _ _ (JL F[a] (List.getElem_mem la)) λj hj=> ?_
  unfold av ent
  simp[la]
 refine⟨⟨dF,row⟩,by rw[kC,hB,Int.one_mul];exact dF,λa ha=> ?_⟩
 refine cl.ext _ _ (cl.add _ _ (ent B a 2) (cl.add _ _ (ent B a 1) (cl.mul (ent B a 0) (row 0 (by decide))) (row 1 (by decide))) (row 2 (by decide))) λj hj=> ?_
 exact(aS B F ha hj).symm
noncomputable def uK (m:List (List Int)) (n:Nat) (x up:Nat->Int) (r:List Int):Bool:= @decide (iW m n x up (av r)) (Classical.propDecidable _)
theorem ql{m:List (List Int)}{n:Nat}{x up:Nat->Int}{r:List Int}:uK m n x up r=true↔iW m n x up (av r):=by
 unfold uK
 exact @decide_eq_true_iff _ (Classical.propDecidable _)
theorem AD{S:List (List Int)}{a:Nat}(h:a<S.length)(j:Nat):av S[a] j=ent S a j:=by
 unfold av ent
 simp[h]
theorem Ii{m:List (List Int)}{n:Nat}{x up:Nat->Int}{S:List (List Int)}(h:bC S):(∀a,a<3->iW m n x up λj=>ent S a j)↔ ∀r∈S,iW m n x up (av r):=by
 have e:∀(a:Nat) (l:a<S.length),av S[a]=λj=>ent S a j:=λa l=>funext (AD l)
 constructor
 ·intro g r hr
  obtain⟨a,ha,rfl⟩:=List.mem_iff_getElem.mp hr
  rw[e a ha]
  exact g a (by rw[h.1]at ha;exact ha)
 ·intro g a ha
  have l:a<S.length:=by rw[h.1];exact ha
  rw[<-e a l]
  exact g _ (List.getElem_mem l)
theorem Gg{S:List (List Int)}{k:Nat}(h:bC S)(b:Bd k S):∀r∈S,∀j,j<3->(av r j).natAbs<2^k:=λr hr j hj=>by
 obtain⟨a,ha,rfl⟩:=List.mem_iff_getElem.mp hr
 rw[AD ha]
 exact b a j (by rw[h.1]at ha;exact ha) hj
theorem RQ{S:List (List Int)}{B k:Nat}(h:bC S)(e:Ent S B)(hB:B<2^k):Bd k S:=λa j ha hj=>by
 have l:a<S.length:=by rw[h.1];exact ha
 have:=e _ (List.getElem_mem l) j hj
 rw[AD l]at this
 omega
def fB(H:Hp)(bo:List Int->Bool):V->V
 | .ref d=> .bl (bo (gK H d))
 |_=> .gu
theorem RS(H:Hp)(bo:List Int->Bool)(rs:List Addr):(rs.map V.ref).map (fB H bo)=((rws H rs).map bo).map V.bl:=by
 unfold rws
 rw[List.map_map,List.map_map,List.map_map]
 rfl
theorem Cg{m:List (List Int)}{n:Nat}{x up:Nat->Int}{S:List (List Int)}(h:bC S)(d:aK S=(n:Int)*n*n∨aK S= -((n:Int)*n*n)):((S.map (uK m n x up)).all id=true)↔jL m n x up S:=by
 unfold jL
 rw[Ii h,List.all_eq_true]
 constructor
 ·exact λg=>⟨d,λr hr=>ql.mp (g _ (List.mem_map_of_mem hr))⟩
 ·rintro⟨_,g⟩ v hv
  obtain⟨r,hr,rfl⟩:=List.mem_map.mp hv
  exact ql.mpr (g r hr)
theorem vG{M:(Nat->Int) ->Prop}{r:List Int}{L:List (List Int)}:In M (r::L)↔M (av r)/\In M L:=by
 unfold In
 simp
theorem Mw{M:(Nat->Int) ->Prop}(c:Cl M)(g:Nat->Nat->Int):In M (mk3 g)↔ ∀k,k<3->M λj=>g k j:=by
 have e:∀k,k<3-> ∀j,j<3->av [g k 0,g k 1,g k 2] j=g k j:=λk _ j hj=>by
  rcases aC hj with rfl|rfl|rfl<;>rfl
 have m:mk3 g=[[g 0 0,g 0 1,g 0 2],[g 1 0,g 1 1,g 1 2],[g 2 0,g 2 1,g 2 2]]:=rfl
 rw[m,vG,vG,vG]
 constructor
 ·rintro⟨h0,h1,h2,_⟩ k hk
  rcases aC hk with rfl|rfl|rfl
  ·exact c.ext _ _ h0 (e 0 (by decide))
  ·exact c.ext _ _ h1 (e 1 (by decide))
  ·exact c.ext _ _ h2 (e 2 (by decide))
 ·intro h
  exact⟨c.ext _ _ (h 0 (by decide)) λj hj=>(e 0 (by decide) j hj).symm,c.ext _ _ (h 1 (by decide)) λj hj=>(e 1 (by decide) j hj).symm,c.ext _ _ (h 2 (by decide)) λj hj=>(e 2 (by decide) j hj).symm,λr hr=>nomatch hr⟩
def yk(n:Int)(q:Nat)(w up:Nat->Int):List (List Int):=[up 0,up 1,up 2]::mk3 λk j=>n*rm n q w k j
theorem Pd{M:(Nat->Int) ->Prop}(c:Cl M)(n:Int)(q:Nat)(w up:Nat->Int):In M (yk n q w up)↔(M λj=>up j)/\ ∀k,k<3->M λj=>n*rm n q w k j:=by
 unfold yk
 rw[vG,Mw c]
 have e:∀j,j<3->av [up 0,up 1,up 2] j=up j:=λj hj=>by
  rcases aC hj with rfl|rfl|rfl<;>rfl
 exact and_congr ⟨λh=>c.ext _ _ h e,λh=>c.ext _ _ h λj hj=>(e j hj).symm⟩ Iff.rfl
theorem Ij{m:List (List Int)}(ev:bI m){p u:Int}{x up w:Nat->Int}{i l o q:Nat}{t c:Int}(S:pB m p x i l o t c)(hp:p∈([3,5,7,11,13]:List Int))(hq:q<3)(hu:u*(az m x q%p)%p=1)(hw:(λk=>az m x k%p*u%p)=w)(hup:∀j,j<3->up j=cH p x i t j):qi (stepT p x i o t c) (yk p q w up):=by
 subst hw
 refine Eh ev S hp hq hu λM cl=> ?_
 rw[Pd cl]
 exact and_congr ⟨λh=>cl.ext _ _ h hup,λh=>cl.ext _ _ h λj hj=>(hup j hj).symm⟩ Iff.rfl
theorem Pe{n:Int}(hn:0<n/\n<14){q:Nat}{w up:Nat->Int}(hw:∀k,0<=w k/\w k<n)(hup:∀j,j<3->(up j).natAbs<2^8):Ent (yk n q w up) 256:=by
 have a:∀k j,(rm n q w k j).natAbs<=13:=λk j=>by
  have:=hw k
  unfold rm
  split
  ·split<;>omega
  ·split
   ·omega
   ·split<;>omega
 have g:∀k j,(n*rm n q w k j).natAbs<=256:=λk j=>by
  rw[Int.natAbs_mul]
  have:=Nat.mul_le_mul (show n.natAbs<=13 by omega) (a k j)
  omega
 intro r hr j hj
 unfold yk mk3 at hr
 simp only[List.mem_cons,List.not_mem_nil,or_false]at hr
 rcases hr with rfl|rfl|rfl|rfl
 ·have:=hup j hj
  rcases aC hj with rfl|rfl|rfl<;>exact Nat.le_of_lt this
 ·rcases aC hj with rfl|rfl|rfl<;>exact g _ _
 ·rcases aC hj with rfl|rfl|rfl<;>exact g _ _
 ·rcases aC hj with rfl|rfl|rfl<;>exact g _ _
theorem Mx{H:Hp}{p U D:Addr}{ds:List Addr}{n:Int}{q:Nat}{w up:Nat->Int}(e:H p=some (.lst (V.ref U::ds.map V.ref)))(eU:cP H U up)(T:Tab H D ds (mk3 λk j=>n*rm n q w k j)):Tab H p (U::ds) (yk n q w up):=⟨e,.cons eU T.2⟩
theorem Ci(n:Int)(q:Nat)(w up:Nat->Int):(yk n q w up).length=4/\ ∀x∈yk n q w up,x.length=3:=by
 refine⟨rfl,λx hx=> ?_⟩
 unfold yk mk3 at hx
 simp only[List.mem_cons,List.not_mem_nil,or_false]at hx
 rcases hx with rfl|rfl|rfl|rfl<;>rfl
end L2
set_option maxHeartbeats 1000000
namespace CN
open PySem L2
section
variable{P:Program}{w:World}{K:PySem.W.Frag}{mg:Str->Option Value}{base:Heap}
def AE(T1 T0:Addr):Sp:=λvs H Q _=> ∃(t:Addr) (bs:List Addr) (m:List (List Int)) (n:Nat) (b:Addr) (x:Nat->Int) (c0:Addr) (up:Nat->Int) (r:Addr) (y:Nat->Int) (l:Nat),vs=[.ref t,.int (n:Int),.ref b,.ref c0,.ref r]/\Tab H t bs m/\bC m/\Bd 440 m/\cP H b x/\cP H c0 up/\cP H r y/\(∀i,i<3->(x i).natAbs<2^400)/\(∀i,i<3->(up i).natAbs<2^400)/\(∀i,i<3->(y i).natAbs<2^400)/\0<n/\n<14/\l<3/\x l=1/\(∀j,j<l->x j=0)/\H T1=some (cu T1)/\H T0=some (cu T0)/\ ∀(bo:Bool) H',(bo=true↔iW m n x up y) ->au H H'->Q (.bl bo) H'
theorem Ei{aT dw:Addr}(F:mW K mg "is_good" tF m9 dw)(bm:BM mg base)(zv:mg "any"=none)(oH:mg "zip"=none)(kF:cQ P w K mg base cj 2 "pairing" kE (DT aT)):cQ P w K mg base cj 3 "is_good" m9 (AE aT dw):=by
 refine F.ok wA (λvs H Q E h=> ?_) (λf cdv A outer s H vs Q E cd hr h=> ?_)
 ·obtain⟨t,bs,m,n,b,x,c0,up,r,y,l,rfl,hT,cN,hB,hx,h0,hy,bx,b0,bY,n0,OQ,hl,one,l0,h1,h2,q⟩:=h
  rfl
 obtain⟨t,bs,m,n,b,x,c0,up,r,y,l,rfl,hT,cN,hB,hx,h0,hy,bx,b0,bY,n0,OQ,hl,one,l0,h1,h2,q⟩:=h
 have hu:=hr.units
 refine⟨_,(mR (@ao _ _ _ _ _ (aX (i:=5) wA.nd rfl (Or.inr rfl) (aE aq (pv 4) (uy PySem.F.plainAttrs_list PySem.F.slot_list_index PySem.F.type_list_index LN (pv 2) (af ah ak)) (λ_ _=>rfl)))
  (@ao _ _ _ _ _ (cV (gv (NU (N2:=["form","p","line","lifted","row","times"]) (te:=(c7 PF (c7 (rI (λ_ j=>0<j) λi j=> .int (i%j)) (c7 (CO λi j=> .int (i-j)) (aD 0) (c7 (rI iH λi j=> .int (i*j)) (aD 7) (aD 1))) (aD 3)) (tC (.int 0)))) rfl (gw.depth hr) cd bm rfl zv (Aa rfl oH (af (pv 4) (af (pv 2) ak))) (by kernel_rfl) (λ_ _ _ _=>by exact dJ (f7 ju (ay cR (ay f6 (pv 0) (ay bA (pv 7) (pv 1))) (pv 3)) ah (bf _))))) (@aM _ _ _ (aO jt)) cU)
  (@aM _ _ _ (aO (f7 j7 (ay cR (aR kF hr rfl aQ (af (pv 0) (af (pv 3) (af (pv 4) ak)))) (ay bO (pv 1) (pv 1))) ah (bf _))))))),?_⟩
 have nn:n*n<=169:=Nat.mul_le_mul (show n<=13 by omega) (show n<=13 by omega)
 have e2:(n:Int)*n=((n*n:Nat):Int):=by push_cast;rfl
 have Vu:0<n*n:=Nat.mul_pos n0 n0
 have gl:=zu (m:=m) (n:=n) n0 (x:=x) (up:=up) (y:=y) hl one
 refine⟨_,rfl,_,rfl,.inl ⟨rfl,_,aN.of hx⟩,b,_,_,l,rfl,rfl,aN.of hx,rfl,rfl,⟨.int (x l),(by rcases aC hl with rfl|rfl|rfl<;>rfl),(by rw[one];rfl)⟩,(λj z hj ez=> ?_),r,_,_,_,rfl,rfl,aN.of hy,jO y hl,?_⟩
 ·have My:z= .int (x j):=by
   have UJ:j<3:=by omega
   rcases aC UJ with rfl|rfl|rfl<;>exact(Option.some.inj ez).symm
  rw[My,l0 j hj]
  rfl
 refine⟨_,rfl,_,rfl,r,b,_,_,rfl,aN.of hy,aN.of hx,NW (aN.of hy) (aN.of hx) rfl h2 (λj=> !decide (V.int ((y j-y l*x j)%(n:Int))=V.int 0)) (λj u v eu ev Ha Q' sa kk=> ?_) (λbo Ha sa RT=> ?_)⟩
 ·have UJ:j<3:=(List.getElem?_eq_some_iff.mp eu).1
  have UE:u= .int (y j):=by
   rcases aC UJ with rfl|rfl|rfl<;>exact(Option.some.inj eu).symm
  have ev':v= .int (x j):=by
   rcases aC UJ with rfl|rfl|rfl<;>exact(Option.some.inj ev).symm
  subst UE ev'
  exact⟨_,rfl,_,rfl,_,rfl,_,_,rfl,rfl,⟨aL (bY l hl) (by decide),aL (bx j UJ) (by decide)⟩,_,_,rfl,rfl,_,rfl,_,_,rfl,rfl,(by show(0:Int)<n;omega),rfl,kk Ha (au.refl _)⟩
 have no:bo=true↔ ¬ ∀j,j<3->(y j-y l*x j)%(n:Int)=0:=by
  rw[RT]
  constructor
  ·rintro⟨j,hj,e⟩ h
   have:=h j hj
   simp[this]at e
  ·intro h
   refine Classical.byContradiction λno=>h λj hj=>Classical.byContradiction λz=>no ⟨j,hj,?_⟩
   simpa using z
 refine⟨_,rfl,oS (λc=> ?_) (λc=> ?_)⟩
 ·exact q false Ha ⟨λz=>(nomatch z),λz=>absurd (gl.mp z).1 (no.mp c)⟩ sa
 have al:∀j,j<3->(y j-y l*x j)%(n:Int)=0:=Classical.byContradiction λz=>c (no.mpr z)
 refine⟨_,rfl,_,rfl,_,rfl,t,bs,m,c0,r,up,y,rfl,hT.same sa,cN,hB.mono (by decide),sa _ _ h0,sa _ _ hy,(λi hi=>aL (b0 i hi) (by decide)),(λi hi=>aL (bY i hi) (by decide)),sa _ _ h1,λHb sb=>⟨_,rfl,_,rfl,_,_,rfl,rfl,.inl ⟨by omega,by omega⟩,_,_,rfl,rfl,(by show(0:Int)<(n:Int)*n;omega),rfl,?_⟩⟩
 refine q _ Hb ?_ (sa.trans sb)
 rw[gl]
 simp only[decide_eq_true_eq,V.int.injEq]
 exact⟨λh=>⟨al,h⟩,λh=>h.2⟩
end
end CN
set_option maxHeartbeats 1000000
namespace CN
open PySem L2
section
variable{P:Program}{w:World}{K:PySem.W.Frag}{mg:Str->Option Value}{base:Heap}
def Gh(T1 T2 T3 T4 T5 T6 T0:Addr):Sp:=λvs H Q _=> ∃(t:Addr) (bs:List Addr) (m:List (List Int)) (n:Nat) (b:Addr) (x:Nat->Int) (r:Addr) (rs:List Addr) (S:List (List Int)),vs=[.ref t,.int (n:Int),.ref b,.ref r]/\Tab H t bs m/\bC m/\Bd 440 m/\bI m/\(n:Int)∈([3,5,7,11,13]:List Int)/\aK m/2%(n:Int)≠0/\cP H b x/\jB (n:Int) x/\aH m x%(n:Int)=0/\Tab H r rs S/\bC S/\Bd 330 S/\H T1=some (cu T1)/\H T2=some (cu T2)/\H T3=some (cu T3)/\H T4=some (cu T4)/\H T5=some (cu T5)/\H T6=some (cu T6)/\H T0=some (cu T0)/\ ∀(i:Nat) (tm:Int) (bo:Bool) H',pA m (n:Int) x i tm->(bo=true↔jL m n x (cH n x i tm) S) ->au H H'->Q (.bl bo) H'
theorem wN{aW aU dj bz aT dw bZ:Addr}(F:mW K mg "steps_along" mh g8 bZ)(bm:BM mg base)(ni:mg "abs"=none)(iV:mg "all"=none)(jj:cQ P w K mg base cj 7 "is_table" je (tM aW aU))(cK:cQ P w K mg base cj 7 "determinant" eK BR)(nZ:cQ P w K mg base cj 7 "first_lift" iK (FY dj bz aT))(tU:cQ P w K mg base cj 6 "is_good" m9 (AE aT dw)):cQ P w K mg base cj 8 "steps_along" g8 (Gh aW aU dj bz aT dw bZ):=by
 refine F.ok pF (λvs H Q E h=> ?_) (λf cdv A outer s H vs Q E cd hr h=> ?_)
 ·obtain⟨t,bs,m,n,b,x,r,rs,S,rfl,hT,cN,hB,ev,hp,hd,hx,L,hc,hR,cS,bS,h1,h2,h3,h4,h5,h6,h7,q⟩:=h
  rfl
 obtain⟨t,bs,m,n,b,x,r,rs,S,rfl,hT,cN,hB,ev,hp,hd,hx,L,hc,hR,cS,bS,h1,h2,h3,h4,h5,h6,h7,q⟩:=h
 have hu:=hr.units
 refine⟨_,(mR (@ao _ _ _ _ _ (cV (PW.pt (oE (gW (gv (aR jj hr rfl aQ (af (pv 3) ak)))) (lV (bg ju (bD oR rfl ni PyProof.Rows.boot_abs (af (aR cK hr rfl aQ (af (pv 3) ak)) ak)) (ay bO (ay bO (pv 1) (pv 1)) (pv 1)) (bf _))))) (@aM _ _ _ (aO jt)) cU)
  (@ao _ _ _ _ _ (aX (i:=4) pF.nd rfl (Or.inr rfl) (aR nZ hr rfl aQ (af (pv 0) (af (pv 1) (af (pv 2) ak)))))
  (@aM _ _ _ (aO (vp (N2:=["form","p","line","table","lifted"]) (te:=(mQ (AE aT dw) [] E0 (bK (aD 1) (bK (aD 2) (bK (aD 3) (bK (aD 5) (bK (aD 0) gM))))))) rfl (gw.depth hr) cd bm rfl iV (bN (pv 3)) (by kernel_rfl) (λ_ _ _ _=>by exact dJ (aR tU (vU hr) rfl aQ (af (pv 1) (af (pv 2) (af (pv 3) (af (pv 5) (af (pv 0) ak))))))))))))),?_⟩
 have p0:2<n/\n<14:=by
  simp only[List.mem_cons,List.not_mem_nil,or_false]at hp
  omega
 have nn:n*n<=169:=Nat.mul_le_mul (show n<=13 by omega) (show n<=13 by omega)
 have YK:n*n*n<=169*13:=Nat.mul_le_mul nn (show n<=13 by omega)
 have e2:(n:Int)*n=((n*n:Nat):Int):=by push_cast;rfl
 have e3:(n:Int)*n*n=((n*n*n:Nat):Int):=by push_cast;rfl
 obtain⟨i0,t0,F0⟩:=vv ev hp hd L
 obtain⟨l,hl,li,one,l0⟩:=we ev L hc F0
 refine⟨_,rfl,r,rs,S,rfl,hR,cS,h1,h2,λH1 s1=>⟨_,rfl,jv ?_⟩⟩
 refine⟨_,rfl,r,rs,S,rfl,hR.same s1,cS,bS.mono (by decide),trivial,λH2 s2=>⟨_,rfl,_,rfl,_,rfl,_,_,rfl,rfl,.inl ⟨by omega,by omega⟩,_,rfl,_,_,rfl,rfl,.inl ⟨by omega,by omega⟩,rfl,_,rfl,oS (λc=> ?_) (λc=> ?_)⟩⟩
 ·refine q i0 t0 false H2 F0 ⟨λz=>(nomatch z),λz=> ?_⟩ (s1.trans s2)
  exfalso
  have h1:=z.1
  have h2:¬(V.int (if aK S<0 then-(aK S)else aK S)=V.int ((n:Int)*n*n)):=by simpa using c
  apply h2
  congr 1
  split<;>omega
 have dS:aK S=(n:Int)*n*n∨aK S= -((n:Int)*n*n):=by
  have h2:V.int (if aK S<0 then-(aK S)else aK S)=V.int ((n:Int)*n*n):=Classical.byContradiction λz=>c (by simpa using z)
  injection h2 with h2
  split at h2<;>omega
 have s12:=s1.trans s2
 refine⟨_,rfl,_,rfl,_,rfl,t,bs,m,n,b,x,rfl,hT.same s12,cN,hB,ev,hp,hd,s12 _ _ hx,L,hc,s12 _ _ h3,s12 _ _ h4,s12 _ _ h5,λi tm u H3 F s3 fu eu=> ?_⟩
 have tK:=s12.trans s3
 have bx:∀i,i<3->(x i).natAbs<2^4:=λi hi=>by have:=L.lo i hi;have:=L.hi i hi;omega
 have bu:∀j,j<3->(cH (n:Int) x i tm j).natAbs<2^9:=λj hj=>by
  have h1:=bx j hj
  have h2:=F.lo
  have h3:=F.up
  have c1:(tm*(n:Int)).natAbs<2^(4+4):=dz (by omega) (by omega)
  unfold cH
  split<;>omega
 have l3:(rs.map V.ref).length=3:=by rw[List.length_map,<-hR.2.length,cS.1]
 obtain⟨Xe,UK⟩:=vE (hR.same tK) cS.2
 refine⟨_,rfl,r,rfl,⟨_,aN.of (hR.same tK).1⟩,z6 (bU (aN.of (hR.same tK).1)) (tK _ _ h7) (λa=>uK m n x (cH n x i tm) ((rws H3 rs).getD a [])) (λa v ea H4 Q4 s4 k4=> ?_) (λbo H4 s4 RT=> ?_)⟩
 ·obtain⟨d,rfl,UL⟩:=rE (List.mem_of_getElem? ea)
  have sm:=tK.trans s4
  have ed:(rws H3 rs).getD a []=gK H3 d:=by
   rw[List.getElem?_map]at ea
   unfold rws
   rw[List.getD_eq_getElem?_getD,List.getElem?_map]
   cases h:rs[a]? with
   |none=>rw[h]at ea;cases ea
   |some z=>
    rw[h]at ea
    cases ea
    rfl
  have br:=Gg cS bS _ (show gK H3 d∈S by rw[<-UK];exact List.mem_map_of_mem UL)
  rw[ed]at k4
  refine⟨_,rfl,_,rfl,_,rfl,_,rfl,_,rfl,t,bs,m,n,b,x,u,cH n x i tm,d,av (gK H3 d),l,rfl,hT.same sm,cN,hB,sm _ _ hx,s4 _ _ eu,s4 _ _ (Xe d UL).1,(λi hi=>aL (bx i hi) (by decide)),(λi hi=>aL (bu i hi) (by decide)),(λi hi=>aL (br i hi) (by decide)),by omega,p0.2,hl,one,l0,sm _ _ h5,sm _ _ h6,λb' H5 hb' s5=> ?_⟩
  have:b'=uK m n x (cH n x i tm) (gK H3 d):=by rw[Bool.eq_iff_iff,hb',ql]
  rw[this]
  exact k4 H5 s5
 ·refine q i tm bo H4 F ?_ (tK.trans s4)
  rw[RT,<-Cg cS dS,List.all_eq_true,l3,UK]
  constructor
  ·intro h v hv
   obtain⟨z,hz,rfl⟩:=List.mem_map.mp hv
   obtain⟨a,ha,rfl⟩:=List.mem_iff_getElem.mp hz
   have:=h a (by rw[cS.1]at ha;exact ha)
   rw[List.getD_eq_getElem?_getD,List.getElem?_eq_getElem ha]at this
   exact this
  ·intro h a ha
   have la:a<S.length:=by rw[cS.1];exact ha
   rw[List.getD_eq_getElem?_getD,List.getElem?_eq_getElem la]
   exact h _ (List.mem_map_of_mem (List.getElem_mem la))
end
end CN
namespace L2
open PySem PySem.Spec PyProof.Rows
theorem nk(m:List (List Int))(d k:Int)(x a z:Nat->Int):aJ m (λj=>d*x j+k*a j) z=d*aJ m x z+k*aJ m a z:=by
 rw[bH,bH,bH]
 grind
theorem wO{p a:Int}(p0:0<p)(h:p*a%(p*p)=0):a%p=0:=by
 obtain⟨c,e⟩:=Int.dvd_of_emod_eq_zero h
 have:a=p*c:=Int.eq_of_mul_eq_mul_left (Int.ne_of_gt p0) (by rw[e,Int.mul_assoc])
 rw[this]
 exact Int.mul_emod_right _ _
theorem pQ{p:Int}{y x:Nat->Int}{d:Int}(h:∀j,j<3->(y j-d*x j)%p=0):∃a:Nat->Int,∀j,j<3->y j=d*x j+p*a j:=
 ⟨λj=>(y j-d*x j)/p,λj hj=>by
  have e:=Int.emod_add_mul_ediv (y j-d*x j) p
  rw[h j hj]at e
  show y j=d*x j+p*((y j-d*x j)/p)
  generalize p*((y j-d*x j)/p)=w at e ⊢
  omega⟩
theorem wQ{m:List (List Int)}(ev:bI m){n:Nat}(n0:0<n){x up y:Nat->Int}(hup:aH m up%((n:Int)*n)=0)(uc:∀i,i<3->up i%(n:Int)=x i%n)(g:iW m n x up y):
  ∃(d:Int) (a:Nat->Int) (s:Int),(∀j,j<3->y j=d*up j+n*a j)/\aJ m up a=n*s:=by
 obtain⟨g1,d,_,g2⟩:=g
 obtain⟨a,ha⟩:=pQ (p:=n) (y:=y) (x:=up) (d:=d) (λj hj=>by
  obtain⟨k,hk⟩:=fN (uc j hj)
  have e:y j- (d:Int)*up j=y j- (d:Int)*x j+n*(-(d*k)):=by rw[hk];grind
  rw[e,Int.add_mul_emod_self_left]
  exact g2 j hj)
 have e:aJ m up y=(d:Int)*aJ m up up+n*aJ m a up:=by
  rw[gn ev up y,fW (y':=up) ha (λ_ _=>rfl),nk]
 rw[gn ev a up]at e
 rw[eO ev up]at e
 obtain⟨w,hw⟩:=Int.dvd_of_emod_eq_zero hup
 have c:(n:Int)*aJ m up a%((n:Int)*n)=0:=by
  have e2:(n:Int)*aJ m up a=aJ m up y+(n:Int)*n*(-(d*2*w)):=by rw[e,hw];grind
  rw[e2,Int.add_mul_emod_self_left]
  exact g1
 obtain⟨s,hs⟩:=Int.dvd_of_emod_eq_zero (wO (by omega) c)
 exact⟨d,a,s,ha,hs⟩
theorem Ej{m:List (List Int)}(ev:bI m){n:Nat}(n0:0<n){x up y z:Nat->Int}(hup:aH m up%((n:Int)*n)=0)(uc:∀i,i<3->up i%(n:Int)=x i%n)(g:iW m n x up y)(h:iW m n x up z):
  ∃c,aJ m y z=(n:Int)*n*c:=by
 obtain⟨d,a,s,ha,hs⟩:=wQ ev n0 hup uc g
 obtain⟨e,b,t,hb,ht⟩:=wQ ev n0 hup uc h
 obtain⟨w,hw⟩:=Int.dvd_of_emod_eq_zero hup
 have p1:aJ m y z=d*aJ m up z+n*aJ m a z:=by rw[fW (y':=z) ha (λ_ _=>rfl),nk]
 have p2:aJ m up z=e*aJ m up up+n*aJ m up b:=by
  rw[gn ev up z,fW (y':=up) hb (λ_ _=>rfl),nk,gn ev b up]
 have p3:aJ m a z=e*aJ m up a+n*aJ m b a:=by
  rw[gn ev a z,fW (y':=a) hb (λ_ _=>rfl),nk]
 rw[eO ev up,hw,ht]at p2
 rw[hs]at p3
 rw[p2,p3]at p1
 exact⟨d*(e*2*w+t)+e*s+aJ m b a,by rw[p1];grind⟩
theorem zw{m:List (List Int)}(ev:bI m){n:Nat}(hp:(n:Int)∈([3,5,7,11,13]:List Int)){x up:Nat->Int}{S:List (List Int)}(hup:aH m up%((n:Int)*n)=0)(uc:∀i,i<3->up i%(n:Int)=x i%n)(St:jL m n x up S):
  ∃M:List (List Int),bC M/\bI M/\ ∀a b,a<3->b<3->aJ m (λk=>ent S a k) (λk=>ent S b k)=(n:Int)*n*ent M a b:=by
 have n0:0<n:=by
  simp only[List.mem_cons,List.not_mem_nil,or_false]at hp
  omega
 have nn:(n:Int)*n≠0:=Int.ne_of_gt (Int.mul_pos (by omega) (by omega))
 let M:=mk3 λa b=>aJ m (λk=>ent S a k) (λk=>ent S b k)/((n:Int)*n)
 have hM:∀a b,a<3->b<3->aJ m (λk=>ent S a k) (λk=>ent S b k)=(n:Int)*n*ent M a b:=λa b ha hb=>by
  obtain⟨c,e⟩:=Ej ev n0 hup uc (St.2 a ha) (St.2 b hb)
  show _=(n:Int)*n*ent (mk3 _) a b
  rw[cy _ ha hb,e,Int.mul_ediv_cancel_left _ nn]
 have dg:∀a,a<3-> ∃k,ent M a a=2*k:=λa ha=>by
  have e:=hM a a ha ha
  rw[eO ev]at e
  have h2:((n:Int)*n*ent M a a)%2=0:=by rw[<-e];omega
  have o:((n:Int)*n)%2=1:=by
   simp only[List.mem_cons,List.not_mem_nil,or_false]at hp
   rcases hp with z|z|z|z|z<;>rw[z]<;>decide
  have h3:ent M a a%2=0:=by
   rw[Int.mul_emod,o]at h2
   omega
  exact⟨ent M a a/2,by omega⟩
 have sy:∀a b,a<3->b<3->ent M a b=ent M b a:=λa b ha hb=>Int.eq_of_mul_eq_mul_left nn (by rw[<-hM a b ha hb,<-hM b a hb ha,gn ev])
 refine⟨M,bP _,⟨⟨sy 1 0 (by decide) (by decide),sy 2 0 (by decide) (by decide),sy 2 1 (by decide) (by decide)⟩,?_⟩,hM⟩
 obtain⟨a,ea⟩:=dg 0 (by decide)
 obtain⟨b,eb⟩:=dg 1 (by decide)
 obtain⟨c,ec⟩:=dg 2 (by decide)
 exact⟨a,b,c,ea,eb,ec⟩
theorem Ek{m:List (List Int)}{n:Nat}{x up:Nat->Int}{S:List (List Int)}(St:jL m n x up S){i j:Nat}:∃c,ko S i j=(n:Int)*c:=by
 have go:∀a b,a<3->b<3-> ∀u v,u<3->v<3-> ∃c,ent S a u*ent S b v-ent S a v*ent S b u=(n:Int)*c:=λa b ha hb u v hu hv=>by
  obtain⟨_,d,_,h1⟩:=St.2 a ha
  obtain⟨_,e,_,h2⟩:=St.2 b hb
  obtain⟨y,hy⟩:=pQ h1
  obtain⟨z,hz⟩:=pQ h2
  refine⟨(d:Int)*x u*z v+y u*e*x v+n*y u*z v- ((d:Int)*x v*z u+y v*e*x u+n*y v*z u),?_⟩
  have a1:=hy u hu
  have a2:=hy v hv
  have a3:=hz u hu
  have a4:=hz v hv
  rw[a1,a2,a3,a4]
  grind
 exact go _ _ (qb _) (qb _) _ _ (qb _) (qb _)
theorem Pf(S:List (List Int)){i j:Nat}(hi:i<3)(hj:j<3):ko (gy S) i j=aK S*ent S j i:=by
 rw[bV]
 unfold ko
 rcases aC hi with rfl|rfl|rfl<;>rcases aC hj with rfl|rfl|rfl<;>simp only[Nat.reduceAdd,Nat.reduceMod]<;>rw[cD _ (by decide) (by decide),cD _ (by decide) (by decide),cD _ (by decide) (by decide),cD _ (by decide) (by decide)]<;>unfold ko<;>simp only[Nat.reduceAdd,Nat.reduceMod]<;>grind
theorem Mz(d:Int):aK (kL d)=d*d*d:=by
 rw[bV]
 show d*(d*d-0*0)+0*(0*0-0*d)+0*(0*0-d*0)=_
 grind
structure Cj(n:Nat)(S:List (List Int))(sg:Int)(B:List (List Int)):Prop where
 one:sg=(n:Int)∨sg= -(n:Int)
 det:aK S=sg*((n:Int)*n)
 nq:bC B
 Xb:∀i j,i<3->j<3->ent (gy S) i j=sg*ent B i j
 left:fq B S=kL ((n:Int)*n)
 right:fq S B=kL ((n:Int)*n)
 DN:aK B=sg*((n:Int)*n)
 minor:∀i j,i<3->j<3-> ∃c,ko B i j=(n:Int)*c
theorem AF{A B:List (List Int)}(ca:bC A)(cb:bC B)(h:∀i j,i<3->j<3->ent A i j=ent B i j):A=B:=by
 rw[oY ca,oY cb]
 exact iA h
theorem Pg{m:List (List Int)}{n:Nat}(n0:0<n){x up:Nat->Int}{S:List (List Int)}(St:jL m n x up S):
  Cj n S (aK S/((n:Int)*n)) (mk3 λi j=>ent (gy S) i j/(aK S/((n:Int)*n))):=by
 have np:(0:Int)<n:=by omega
 have nn:(n:Int)*n≠0:=Int.ne_of_gt (Int.mul_pos np np)
 have es:aK S/((n:Int)*n)=(n:Int)∨aK S/((n:Int)*n)= -(n:Int):=by
  rcases St.1 with z|z
  ·left
   rw[z,Int.mul_assoc,Int.mul_comm,Int.mul_ediv_cancel_left _ nn]
  ·right
   rw[z,show-((n:Int)*n*n)=(n:Int)*n* -(n:Int)by grind,Int.mul_ediv_cancel_left _ nn]
 have ed:aK S=aK S/((n:Int)*n)*((n:Int)*n):=by
  rcases es with e|e<;>rw[e]<;>rcases St.1 with z|z<;>rw[z]at e ⊢
  ·grind
  ·exfalso
   rw[show-((n:Int)*n*n)=(n:Int)*n* -(n:Int)by grind,Int.mul_ediv_cancel_left _ nn]at e
   omega
  ·exfalso
   rw[Int.mul_assoc,Int.mul_comm,Int.mul_ediv_cancel_left _ nn]at e
   omega
  ·grind
 generalize aK S/((n:Int)*n)=sg at es ed ⊢
 have s0:sg≠0:=by omega
 have cv:∀i j,i<3->j<3->ent (gy S) i j=sg*ent (mk3 λi j=>ent (gy S) i j/sg) i j:=λi j hi hj=>by
  rw[cy _ hi hj,cD _ hi hj]
  obtain⟨c,e⟩:=Ek St (i:=j) (j:=i)
  rw[e]
  rcases es with z|z<;>rw[z]
  ·rw[Int.mul_ediv_cancel_left _ (by omega)]
  ·rw[show(n:Int)*c= -(n:Int)* -c by grind,Int.mul_ediv_cancel_left _ (by omega)]
 generalize hB:(mk3 λi j=>ent (gy S) i j/sg)=B at cv ⊢
 have cB:bC B:=by rw[<-hB];exact bP _
 have un:∀i j,i<3->j<3-> ∀d:Int,ent (kL d) i j=if i=j then d else 0:=λi j hi hj d=>cy _ hi hj
 have lf:fq B S=kL ((n:Int)*n):=AF (bP _) (bP _) λi j hi hj=>by
  have e:ent (fq (gy S) S) i j=ent (kL (aK S)) i j:=by rw[Bw]
  rw[aS _ _ hi hj,cv i 0 hi (by decide),cv i 1 hi (by decide),cv i 2 hi (by decide),un i j hi hj,ed]at e
  refine Int.eq_of_mul_eq_mul_left s0 ?_
  rw[aS _ _ hi hj,un i j hi hj]
  have e2:sg*(ent B i 0*ent S 0 j+ent B i 1*ent S 1 j+ent B i 2*ent S 2 j)=sg*ent B i 0*ent S 0 j+sg*ent B i 1*ent S 1 j+sg*ent B i 2*ent S 2 j:=by grind
  rw[e2,e]
  split<;>simp
 have rt:fq S B=kL ((n:Int)*n):=AF (bP _) (bP _) λi j hi hj=>by
  have e:ent (fq S (gy S)) i j=ent (kL (aK S)) i j:=by rw[GW]
  rw[aS _ _ hi hj,cv 0 j (by decide) hj,cv 1 j (by decide) hj,cv 2 j (by decide) hj,un i j hi hj,ed]at e
  refine Int.eq_of_mul_eq_mul_left s0 ?_
  rw[aS _ _ hi hj,un i j hi hj]
  have e2:sg*(ent S i 0*ent B 0 j+ent S i 1*ent B 1 j+ent S i 2*ent B 2 j)=ent S i 0*(sg*ent B 0 j)+ent S i 1*(sg*ent B 1 j)+ent S i 2*(sg*ent B 2 j):=by grind
  rw[e2,e]
  split<;>simp
 have dB:aK B=sg*((n:Int)*n):=by
  have e:=congrArg aK lf
  rw[kC]at e
  have e2:=Mz ((n:Int)*n)
  rw[e2]at e
  have dS0:aK S≠0:=by
   rw[ed]
   exact Int.mul_ne_zero s0 nn
  refine Int.eq_of_mul_eq_mul_right dS0 ?_
  rw[e,ed]
  rcases es with z|z<;>rw[z]<;>grind
 refine⟨es,ed,cB,cv,lf,rt,dB,λi j hi hj=> ?_⟩
 have e:=Pf S hi hj
 have e2:ko (gy S) i j=sg*sg*ko B i j:=by
  unfold ko
  rw[cv _ _ (qb _) (qb _),cv _ _ (qb _) (qb _),cv _ _ (qb _) (qb _),cv _ _ (qb _) (qb _)]
  grind
 rw[e2,ed]at e
 have e3:sg*ko B i j=(n:Int)*n*ent S j i:=Int.eq_of_mul_eq_mul_left s0 (by rw[<-Int.mul_assoc,e];grind)
 rcases es with z|z<;>rw[z]at e3
 ·exact⟨ent S j i,Int.eq_of_mul_eq_mul_left (show(n:Int)≠0 by omega) (by rw[e3];grind)⟩
 ·exact⟨-ent S j i,Int.eq_of_mul_eq_mul_left (show(n:Int)≠0 by omega) (by rw[show(n:Int)*ko B i j= -(-(n:Int)*ko B i j)by grind,e3];grind)⟩
theorem Ik{m M S:List (List Int)}{n:Nat}(hM:∀a b,a<3->b<3->aJ m (λk=>ent S a k) (λk=>ent S b k)=(n:Int)*n*ent M a b)(x y:Nat->Int):
  (n:Int)*n*aJ M x y=aJ m (oM x S) (oM y S):=by
 rw[<-sN,bH,bH]
 have e:∀a b,a<3->b<3->ent (gX m S) a b=(n:Int)*n*ent M a b:=λa b ha hb=>by rw[kO m S ha hb,hM a b ha hb]
 rw[e 0 0 (by decide) (by decide),e 0 1 (by decide) (by decide),e 0 2 (by decide) (by decide),e 1 0 (by decide) (by decide),e 1 1 (by decide) (by decide),e 1 2 (by decide) (by decide),e 2 0 (by decide) (by decide),e 2 1 (by decide) (by decide),e 2 2 (by decide) (by decide)]
 grind
theorem qT{m M S B:List (List Int)}{n:Nat}{sg:Int}(n0:0<n)(hM:∀a b,a<3->b<3->aJ m (λk=>ent S a k) (λk=>ent S b k)=(n:Int)*n*ent M a b)(h:Cj n S sg B){a b:Nat}(ha:a<3)(hb:b<3):
  aJ M (λk=>ent B a k) (λk=>ent B b k)=(n:Int)*n*ent m a b:=by
 have nn:(n:Int)*n≠0:=Int.ne_of_gt (Int.mul_pos (by omega) (by omega))
 have e:∀a,a<3-> ∀j,j<3->oM (λk=>ent B a k) S j=if a=j then(n:Int)*n else 0:=λa ha j hj=>by
  have e:ent (fq B S) a j=ent (kL ((n:Int)*n)) a j:=by rw[h.left]
  rw[aS _ _ ha hj]at e
  unfold oM
  rw[e]
  exact cy _ ha hj
 refine Int.eq_of_mul_eq_mul_left nn ?_
 rw[Ik hM,fW (e a ha) (e b hb),bH]
 rcases aC ha with rfl|rfl|rfl<;>rcases aC hb with rfl|rfl|rfl<;>simp<;>grind
theorem zA{m M S B:List (List Int)}(ev:bI m)(eM:bI M){n:Nat}{sg:Int}(n0:0<n)(hM:∀a b,a<3->b<3->aJ m (λk=>ent S a k) (λk=>ent S b k)=(n:Int)*n*ent M a b)(h:Cj n S sg B){a:Nat}(ha:a<3):
  ∃k,aH M (λk=>ent B a k)=(n:Int)*n*k:=by
 have e:=qT n0 hM h ha ha
 rw[eO eM]at e
 obtain⟨k,hk⟩:∃k,ent m a a=2*k:=by
  obtain⟨_,x,y,z,e1,e2,e3⟩:=ev
  rcases aC ha with rfl|rfl|rfl
  ·exact⟨x,e1⟩
  ·exact⟨y,e2⟩
  ·exact⟨z,e3⟩
 refine⟨k,Int.eq_of_mul_eq_mul_left (show(2:Int)≠0 by decide) ?_⟩
 rw[e,hk]
 grind
theorem MA{m S B:List (List Int)}(ev:bI m){n:Nat}(hp:(n:Int)∈([3,5,7,11,13]:List Int))(hd:aK m/2%(n:Int)≠0){x up:Nat->Int}(L:jB (n:Int) x)(uc:∀i,i<3->up i%(n:Int)=x i%n)(St:jL m n x up S){sg:Int}(h:Cj n S sg B):
  ∃a,a<3/\ ¬iU (n:Int) (λj=>ent B a j):=by
 have n0:(0:Int)<n:=by
  simp only[List.mem_cons,List.not_mem_nil,or_false]at hp
  omega
 have nn:(n:Int)*n≠0:=Int.ne_of_gt (Int.mul_pos n0 n0)
 refine Classical.byContradiction λno=> ?_
 have al:∀a,a<3-> ∀j,j<3-> ∃c,ent B a j=(n:Int)*c:=λa ha j hj=>by
  have r:iU (n:Int) (λj=>ent B a j):=Classical.byContradiction λz=>no ⟨a,ha,z⟩
  refine Int.dvd_of_emod_eq_zero ?_
  rcases aC hj with rfl|rfl|rfl
  ·exact r.1
  ·exact r.2.1
  ·exact r.2.2
 have sl:∀k,k<3->az m up k%(n:Int)=0:=λk hk=>by
  obtain⟨b0,h0⟩:=al k hk 0 (by decide)
  obtain⟨b1,h1⟩:=al k hk 1 (by decide)
  obtain⟨b2,h2⟩:=al k hk 2 (by decide)
  have g:=λa ha=>Int.dvd_of_emod_eq_zero (St.2 a ha).1
  obtain⟨t0,g0⟩:=g 0 (by decide)
  obtain⟨t1,g1⟩:=g 1 (by decide)
  obtain⟨t2,g2⟩:=g 2 (by decide)
  rw[eX]at g0 g1 g2
  have e:∀j,j<3->ent B k 0*ent S 0 j+ent B k 1*ent S 1 j+ent B k 2*ent S 2 j=if k=j then(n:Int)*n else 0:=λj hj=>by
   rw[<-aS _ _ hk hj,h.left]
   exact cy _ hk hj
  have e0:=e 0 (by decide)
  have e1:=e 1 (by decide)
  have e2:=e 2 (by decide)
  have sum:(n:Int)*n*az m up k=ent B k 0*((n:Int)*n*t0)+ent B k 1*((n:Int)*n*t1)+ent B k 2*((n:Int)*n*t2):=by
   rw[<-g0,<-g1,<-g2]
   have e3:ent B k 0*(az m up 0*ent S 0 0+az m up 1*ent S 0 1+az m up 2*ent S 0 2)+ent B k 1*(az m up 0*ent S 1 0+az m up 1*ent S 1 1+az m up 2*ent S 1 2)+ent B k 2*(az m up 0*ent S 2 0+az m up 1*ent S 2 1+az m up 2*ent S 2 2)=az m up 0*(ent B k 0*ent S 0 0+ent B k 1*ent S 1 0+ent B k 2*ent S 2 0)+az m up 1*(ent B k 0*ent S 0 1+ent B k 1*ent S 1 1+ent B k 2*ent S 2 1)+az m up 2*(ent B k 0*ent S 0 2+ent B k 1*ent S 1 2+ent B k 2*ent S 2 2):=by grind
   rw[e3,e0,e1,e2]
   rcases aC hk with rfl|rfl|rfl<;>simp<;>grind
  rw[h0,h1,h2]at sum
  have fin:az m up k=(n:Int)*(b0*t0+b1*t1+b2*t2):=Int.eq_of_mul_eq_mul_left nn (by rw[sum];grind)
  rw[fin]
  exact Int.mul_emod_right _ _
 refine rO ev hp hd L ⟨?_,?_,?_⟩
 ·rw[<-jc uc];exact sl 0 (by decide)
 ·rw[<-jc uc];exact sl 1 (by decide)
 ·rw[<-jc uc];exact sl 2 (by decide)
theorem zC{m M S B:List (List Int)}(ev:bI m)(eM:bI M){n:Nat}{sg:Int}(n0:0<n)(hM:∀a b,a<3->b<3->aJ m (λk=>ent S a k) (λk=>ent S b k)=(n:Int)*n*ent M a b)(h:Cj n S sg B){a:Nat}(ha:a<3):
  aH M (λi=>ent B a i%(n:Int))%(n:Int)=0:=by
 obtain⟨k,hk⟩:=zA ev eM n0 hM h ha
 rw[sQ eM (p:=n) (y:=λi=>ent B a i) (λi _=>Int.emod_emod_of_dvd _ (Int.dvd_refl _)),hk,Int.mul_assoc]
 exact Int.mul_emod_right _ _
theorem Il{m M S B:List (List Int)}(ev:bI m)(eM:bI M){n:Nat}{sg u:Int}(n1:1<n)(hM:∀a b,a<3->b<3->aJ m (λk=>ent S a k) (λk=>ent S b k)=(n:Int)*n*ent M a b)(h:Cj n S sg B){a:Nat}(ha:a<3)
  (hr:¬iU (n:Int) (λj=>ent B a j))(hu:u*jA (n:Int) (λj=>ent B a j)%(n:Int)=1){lf:Nat->Int}(hl:aH M lf%((n:Int)*n)=0)(lc:∀i,i<3->lf i%(n:Int)=(u*(ent B a i%(n:Int))%(n:Int))%n):
  jL M n (λi=>u*(ent B a i%(n:Int))%(n:Int)) lf B:=by
 have np:(0:Int)<n:=by omega
 have L:=yZ (by omega) hu hr
 obtain⟨l,hl3,hl1⟩:∃l,l<3/\u*(ent B a l%(n:Int))%(n:Int)=1:=by
  rcases L.one with z|⟨_,z⟩|⟨_,_,z⟩
  ·exact⟨0,by decide,z⟩
  ·exact⟨1,by decide,z⟩
  ·exact⟨2,by decide,z⟩
 have ub:∀j,∃k,u*(ent B a j%(n:Int))%(n:Int)=u*ent B a j+n*k:=λj=>by
  rw[ja]
  have e:=Int.emod_add_mul_ediv (u*ent B a j) (n:Int)
  exact⟨-(u*ent B a j/(n:Int)),by generalize u*ent B a j/(n:Int)=w at e ⊢;rw[Int.mul_neg];omega⟩
 obtain⟨kl,Xf⟩:=ub l
 rw[hl1]at Xf
 have row:∀b,b<3-> ∀j,j<3-> ∃c,ent B b j=ent B b l*(u*ent B a j)+(n:Int)*c:=λb hb j hj=>by
  have mn:∀p q v w,p<3->q<3->v<3->w<3-> ∃c,ent B p v*ent B q w-ent B p w*ent B q v=(n:Int)*c:=by
   have two:∀p q v w,p<3->q<3->v<3->w<3->p≠q->v≠w-> ∃c,ent B p v*ent B q w-ent B p w*ent B q v=(n:Int)*c:=λp q v w hp hq hv hw npq nvw=>by
    have hm:=λi j hi hj=>h.minor i j hi hj
    have hmn:=hm (3-p-q) (3-v-w) (by omega) (by omega)
    obtain⟨c,hc⟩:=hmn
    unfold ko at hc
    rcases aC hp with rfl|rfl|rfl<;>rcases aC hq with rfl|rfl|rfl<;>rcases aC hv with rfl|rfl|rfl<;>rcases aC hw with rfl|rfl|rfl<;>first|(exact absurd rfl npq)|(exact absurd rfl nvw)|(simp at hc;first|exact⟨c,by grind⟩|exact⟨-c,by grind⟩)
   intro p q v w hp hq hv hw
   by_cases c1:p=q
   ·subst c1;exact⟨0,by grind⟩
   by_cases c2:v=w
   ·subst c2;exact⟨0,by grind⟩
   exact two p q v w hp hq hv hw c1 c2
  obtain⟨c,hc⟩:=mn a b l j ha hb hl3 hj
  refine⟨u*c+kl*ent B b j,?_⟩
  have e1:ent B b j=(u*ent B a l+n*kl)*ent B b j:=by rw[<-Xf];grind
  have e2:ent B a l*ent B b j=ent B a j*ent B b l+n*c:=by grind
  have e3:(u*ent B a l+n*kl)*ent B b j=u*(ent B a l*ent B b j)+n*kl*ent B b j:=by grind
  rw[e3,e2]at e1
  rw[e1]
  grind
 obtain⟨z,hz⟩:∃z:Nat->Int,∀j,j<3->lf j=u*ent B a j+n*z j:=pQ λj hj=>by
  obtain⟨k,hk⟩:=ub j
  obtain⟨k2,h2⟩:=fN (lc j hj)
  rw[h2,hk]
  have e:u*ent B a j+(n:Int)*k+n*k2-u*ent B a j=n*(k+k2):=by grind
  rw[e]
  exact Int.mul_emod_right _ _
 obtain⟨q,hq⟩:=zA ev eM (by omega) hM h ha
 have haz:∃s,aJ M (λj=>ent B a j) z=(n:Int)*s:=by
  have e:aH M lf=aH M (λj=>(u*ent B a j)+z j*n):=rL eM λj hj=>by rw[hz j hj];grind
  rw[zc eM,qH eM,hq]at e
  have ps:z 0*az M (λj=>u*ent B a j) 0+z 1*az M (λj=>u*ent B a j) 1+z 2*az M (λj=>u*ent B a j) 2=u*aJ M (λj=>ent B a j) z:=by
   rw[eX]
   unfold az
   grind
  rw[ps]at e
  obtain⟨w,hw⟩:=Int.dvd_of_emod_eq_zero hl
  rw[hw]at e
  have c:(n:Int)*(u*aJ M (λj=>ent B a j) z)%((n:Int)*n)=0:=Int.emod_eq_zero_of_dvd ⟨w-u*u*q-aH M z,by grind⟩
  obtain⟨s,hs⟩:=Int.dvd_of_emod_eq_zero (wO np c)
  refine⟨ent B a l*s+kl*aJ M (λj=>ent B a j) z,?_⟩
  have e1:aJ M (λj=>ent B a j) z=(u*ent B a l+n*kl)*aJ M (λj=>ent B a j) z:=by rw[<-Xf];grind
  have e3:(u*ent B a l+n*kl)*aJ M (λj=>ent B a j) z=ent B a l*(u*aJ M (λj=>ent B a j) z)+n*kl*aJ M (λj=>ent B a j) z:=by grind
  rw[e3,hs]at e1
  rw[e1]
  grind
 obtain⟨s,hs⟩:=haz
 refine⟨?_,λb hb=>(zu (by omega) hl3 hl1).mpr ⟨λj hj=> ?_,?_⟩⟩
 ·rw[h.DN]
  rcases h.one with e|e<;>rw[e]
  ·exact .inl (by grind)
  ·exact .inr (by grind)
 ·obtain⟨c,hc⟩:=row b hb j hj
  obtain⟨k,hk⟩:=ub j
  show(ent B b j-ent B b l*(u*(ent B a j%(n:Int))%(n:Int)))%(n:Int)=0
  rw[hk,hc]
  exact Int.emod_eq_zero_of_dvd ⟨c-ent B b l*k,by grind⟩
 ·show aJ M lf (λj=>ent B b j)%((n:Int)*n)=0
  have e1:aJ M lf (λj=>ent B b j)=u*aJ M (λj=>ent B a j) (λj=>ent B b j)+n*aJ M z (λj=>ent B b j):=by
   rw[fW hz (λ_ _=>rfl),nk]
  obtain⟨c,hc⟩:∃c:Nat->Int,∀j,j<3->ent B b j=ent B b l*u*ent B a j+n*c j:=pQ λj hj=>by
   obtain⟨k,hk⟩:=row b hb j hj
   rw[hk]
   exact Int.emod_eq_zero_of_dvd ⟨k,by grind⟩
  have e2:aJ M z (λj=>ent B b j)=ent B b l*u*aJ M (λj=>ent B a j) z+n*aJ M c z:=by
   rw[gn eM z,fW (y':=z) hc (λ_ _=>rfl),nk]
  rw[e1,e2,hs,qT (by omega) hM h ha hb]
  exact Int.emod_eq_zero_of_dvd ⟨u*ent m a b+ent B b l*u*s+aJ M c z,by grind⟩
theorem MB{J:It}{H1:Hp}{xs:List V}{σ:St}{te:TE}{Q:VK}(jw:JW J H1 xs)(hz:xs.length<=sizeLine){D:Addr}(hD:H1 D=none)(R:Nat->V->Hp->Prop)
  (mono:∀j v H H',R j v H->(∀b o,b≠D->H b=some o->H' b=some o) ->R j v H')
  (hs:∀j x,xs[j]?=some x-> ∀H' (Q':VK),au H1 H'->(∃o,H' D=some o) ->(∀v H2,au H' H2->R j v H2->Q' v H2) ->te (some x::σ) H' Q')
  (hq:∀vs H',au H1 H'->vs.length=xs.length->(∀j v,vs[j]?=some v->R j v H') ->H' D=some (.lst vs) ->Q (.ref D) H'):lZ 1 (cg 0) te σ J H1 D Q:=by
 refine p9 jw hz hD (λpre acc H'=> ∀j v,acc[j]?=some v->R j v H') (λj v e=>by simp at e) (λpre x post acc H' Q' e hl sm eD p k=> ?_) (λacc H' hl sm eD p=>hq acc H' sm hl p eD)
 refine hs pre.length x (by rw[e];simp) H' Q' sm ⟨_,eD⟩ λv H2 s2 r=>k v H2 s2 λj u eu=> ?_
 have off:∀b o,b≠D->H2 b=some o->upd H2 D (.lst (acc++ [v])) b=some o:=λb o n h=>by rw[aF n];exact h
 by_cases c:j<acc.length
 ·rw[List.getElem?_append_left c]at eu
  exact mono j u H' _ (p j u eu) λb o n h=>off b o n (s2 b o h)
 ·have:j=acc.length:=by
   have:=(List.getElem?_eq_some_iff.mp eu).1
   rw[List.length_append]at this
   simp at this
   omega
  subst this
  rw[List.getElem?_append_right (Nat.le_refl _)]at eu
  simp at eu
  subst eu
  rw[hl]
  exact mono _ v H2 _ r off
theorem Ck{m M S:List (List Int)}{p:Int}(p0:0<p)(bm:Bd 440 m)(bS:Bd 270 S)(h:∀a b,a<3->b<3->aJ m (λk=>ent S a k) (λk=>ent S b k)=p*p*ent M a b):Bd 1000 M:=λa b ha hb=>by
 have e:=h a b ha hb
 have b1:=Kl bm (λk hk=>bS a k ha hk) (λk hk=>bS b k hb hk)
 rw[e]at b1
 have pp:0<p*p:=Int.mul_pos p0 p0
 refine aL (a:=989) ?_ (by decide)
 refine Nat.lt_of_le_of_lt ?_ b1
 rw[Int.natAbs_mul]
 exact Nat.le_mul_of_pos_left _ (by omega)
theorem Gi{S B:List (List Int)}{n:Nat}{sg:Int}(n0:0<n)(bS:Bd 270 S)(h:Cj n S sg B):Bd 600 B:=λi j hi hj=>by
 have b1:=FD bS j i
 have e:=h.Xb i j hi hj
 rw[cD _ hi hj]at e
 rw[e,Int.natAbs_mul]at b1
 refine aL (a:=541) (Nat.lt_of_le_of_lt ?_ b1) (by decide)
 exact Nat.le_mul_of_pos_left _ (by rcases h.one with z|z<;>omega)
end L2
set_option maxHeartbeats 1000000
namespace CN
open PySem L2
section
variable{P:Program}{w:World}{K:PySem.W.Frag}{mg:Str->Option Value}{base:Heap}
def MC(T0:Addr):Sp:=λvs H Q _=> ∃(t:Addr) (bs:List Addr) (m:List (List Int)) (p:Int) (r:Addr) (rs:List Addr) (S M:List (List Int)),vs=[.ref t,.int p,.ref r]/\Tab H t bs m/\Tab H r rs S/\bC m/\bC S/\Bd 1000 m/\Bd 600 S/\0<p/\p<14/\(∀a b,a<3->b<3->ent (gX m S) a b=p*p*ent M a b)/\bC M/\H T0=some (cu T0)/\ ∀u us H',au H H'->H u=none->(∀b∈us,H b=none) ->u∉us->us.Nodup->Tab H' u us M->Q (.ref u) H'
theorem El{bX:Addr}(F:fC K mg "made_by" tE m8)(tV:cQ P w K mg base cj 2 "carried" mZ (zf bX)):cQ P w K mg base cj 3 "made_by" m8 (MC bX):=by
 refine F.ok DL (λvs H Q E h=> ?_) (λf cdv A outer s H vs Q E hr h=> ?_)
 ·obtain⟨t,bs,m,p,r,rs,S,M,rfl,hT,hR,nq,cS,hB,bS,p0,Qg,hM,cM,hP,q⟩:=h
  rfl
 obtain⟨t,bs,m,p,r,rs,S,M,rfl,hT,hR,nq,cS,hB,bS,p0,Qg,hM,cM,hP,q⟩:=h
 have hu:=hr.units
 refine⟨_,(c6 (aO (dP (N2:=["form","p","step"]) (te:=(iT 1 (vL K (aD 0)) (cg 0) (c7 (rI Jx λi j=> .int (i/j)) (aD 0) (c7 (rI qA λi j=> .int (i*j)) (aD 3) (aD 3))))) rfl (bN (aR tV hr rfl aQ (af (pv 0) (af (pv 2) ak)))) (by kernel_rfl) rfl (λ_ _ _=>by exact dJ (dP (N2:=["row","form","p","step"]) (te:=(c7 (rI Jx λi j=> .int (i/j)) (aD 0) (c7 (rI qA λi j=> .int (i*j)) (aD 3) (aD 3)))) rfl (bN (pv 0)) (by kernel_rfl) rfl (λ_ _ _=>by exact dJ (ay fm (pv 0) (ay bO (pv 3) (pv 3))))))))),?_⟩
 refine⟨_,rfl,_,rfl,t,bs,m,r,rs,S,rfl,hT,hR,nq,cS,hB.mono (by decide),bS.mono (by decide),hP,λu us H1 s1 fu Vv nu Tu=> ?_⟩
 have Tu:Tab H1 u us (gX m S):=Tu
 have l3:(us.map V.ref).length=3:=by rw[List.length_map,<-Tu.2.length];rfl
 have Xg:0<p*p:=Int.mul_pos p0 p0
 have YQ:(p*p).natAbs<2^(4+4):=dz (by omega) (by omega)
 refine⟨u,rfl,⟨_,aN.of Tu.1⟩,λD hD=>pe (bU (aN.of Tu.1)) l3 hD (λi j=>ent M i j) (λi y hi ey H2 Q2 s2 k2=> ?_) (λds H2 s2 fd nD nn TD=>q D ds H2 (s1.trans s2) (s1.none hD) (λb hb=>s1.none (fd b hb)) nD nn (by rw[oY cM];exact TD))⟩
 obtain⟨b,e1,e2,_⟩:=aY (Tu.same s2) (show bC (fq (fq S m) (dR S))from bP _) hi
 have Mc:y= .ref b:=by
  have q1:=dU ey
  rw[e1]at q1
  exact(Option.some.inj q1).symm
 subst Mc
 refine⟨_,rfl,b,rfl,⟨_,aN.of e2⟩,λD2 pN=>eE (bU (aN.of e2)) rfl pN (λj=>ent M i j) (λj z hj ez H3 Q3 s3 k3=> ?_) (λH3 s3 e3=>k2 D2 H3 pN s3 e3)⟩
 have My:z= .int (ent (gX m S) i j):=by
  rcases aC hj with rfl|rfl|rfl<;>exact(Option.some.inj ez).symm
 subst My
 have e5:ent (gX m S) i j/(p*p)=ent M i j:=by rw[hM i j hi hj,Int.mul_ediv_cancel_left _ (by omega)]
 have k4:=k3 H3 (au.refl _)
 rw[<-e5]at k4
 exact⟨_,rfl,_,rfl,_,rfl,_,_,rfl,rfl,.inl ⟨by omega,by omega⟩,_,_,rfl,rfl,⟨Xg,by omega⟩,k4⟩
def Gj:Sp:=λvs H Q _=> ∃(t:Addr) (bs:List Addr) (m:List (List Int)) (p:Int) (r:Addr) (rs:List Addr) (S M:List (List Int)),vs=[.ref t,.int p,.ref r]/\Tab H t bs m/\Tab H r rs S/\bC m/\bC S/\Bd 1000 m/\Bd 600 S/\0<p/\p<14/\(∀a b,a<3->b<3->ent (gX m S) a b=p*p*ent M a b)/\bC M/\ ∀u us H',au H H'->H u=none->(∀b∈us,H b=none) ->u∉us->us.Nodup->Tab H' u us M->Q (.ref u) H'
theorem AG(F:fC K mg "_law_made" pL jH)(eY:cQ P w K mg base cj 2 "_law_carried" fY DM):cQ P w K mg base cj 3 "_law_made" jH Gj:=by
 refine F.ok Ak (λvs H Q E h=> ?_) (λf cdv A outer s H vs Q E hr h=> ?_)
 ·obtain⟨t,bs,m,p,r,rs,S,M,rfl,hT,hR,nq,cS,hB,bS,p0,Qg,hM,cM,q⟩:=h
  rfl
 obtain⟨t,bs,m,p,r,rs,S,M,rfl,hT,hR,nq,cS,hB,bS,p0,Qg,hM,cM,q⟩:=h
 have hu:=hr.units
 refine⟨_,(c6 (aO (dP (N2:=["_law_form_here","_law_p","_law_step_here"]) (te:=(iT 1 (vL K (aD 0)) (cg 0) (c7 (rI Jx λi j=> .int (i/j)) (aD 0) (c7 (rI qA λi j=> .int (i*j)) (aD 3) (aD 3))))) rfl (bN (aR eY hr rfl aQ (af (pv 0) (af (pv 2) ak)))) (by kernel_rfl) rfl (λ_ _ _=>by exact dJ (dP (N2:=["_law_row","_law_form_here","_law_p","_law_step_here"]) (te:=(c7 (rI Jx λi j=> .int (i/j)) (aD 0) (c7 (rI qA λi j=> .int (i*j)) (aD 3) (aD 3)))) rfl (bN (pv 0)) (by kernel_rfl) rfl (λ_ _ _=>by exact dJ (ay fm (pv 0) (ay bO (pv 3) (pv 3))))))))),?_⟩
 refine⟨_,rfl,_,rfl,t,bs,m,r,rs,S,rfl,hT,hR,nq,cS,hB.mono (by decide),bS.mono (by decide),λu us H1 s1 fu Vv nu nnu Tu=> ?_⟩
 have l3:(us.map V.ref).length=3:=by rw[List.length_map,<-Tu.2.length];rfl
 have Xg:0<p*p:=Int.mul_pos p0 p0
 have YQ:(p*p).natAbs<2^(4+4):=dz (by omega) (by omega)
 refine⟨u,rfl,⟨_,aN.of Tu.1⟩,λD hD=>pe (bU (aN.of Tu.1)) l3 hD (λi j=>ent M i j) (λi y hi ey H2 Q2 s2 k2=> ?_) (λds H2 s2 fd nD nn TD=>q D ds H2 (s1.trans s2) (s1.none hD) (λb hb=>s1.none (fd b hb)) nD nn (by rw[oY cM];exact TD))⟩
 obtain⟨b,e1,e2,_⟩:=aY (Tu.same s2) (show bC (fq (fq S m) (dR S))from bP _) hi
 have Mc:y= .ref b:=by
  have q1:=dU ey
  rw[e1]at q1
  exact(Option.some.inj q1).symm
 subst Mc
 refine⟨_,rfl,b,rfl,⟨_,aN.of e2⟩,λD2 pN=>eE (bU (aN.of e2)) rfl pN (λj=>ent M i j) (λj z hj ez H3 Q3 s3 k3=> ?_) (λH3 s3 e3=>k2 D2 H3 pN s3 e3)⟩
 have My:z= .int (ent (gX m S) i j):=by
  rcases aC hj with rfl|rfl|rfl<;>exact(Option.some.inj ez).symm
 subst My
 have e5:ent (gX m S) i j/(p*p)=ent M i j:=by rw[hM i j hi hj,Int.mul_ediv_cancel_left _ (by omega)]
 have k4:=k3 H3 (au.refl _)
 rw[<-e5]at k4
 exact⟨_,rfl,_,rfl,_,rfl,_,_,rfl,rfl,.inl ⟨by omega,by omega⟩,_,_,rfl,rfl,⟨Xg,by omega⟩,k4⟩
end
end CN
set_option maxHeartbeats 1000000
namespace CN
open PySem L2
section
variable{P:Program}{w:World}{K:PySem.W.Frag}{mg:Str->Option Value}{base:Heap}
def zD(T1 T2 T3 T4 T5 T6 T7 T8 T9:Addr):Sp:=λvs H Q _=> ∃(t:Addr) (bs:List Addr) (m:List (List Int)) (n:Nat) (b:Addr) (x:Nat->Int) (r:Addr) (rs:List Addr) (S:List (List Int)),vs=[.ref t,.int (n:Int),.ref b,.ref r]/\Tab H t bs m/\bC m/\Bd 440 m/\bI m/\dQ m=true/\aK m/2<=200/\(n:Int)∈([3,5,7,11,13]:List Int)/\aK m/2%(n:Int)≠0/\cP H b x/\jB (n:Int) x/\aH m x%(n:Int)=0/\Tab H r rs S/\bC S/\Bd 270 S/\H T1=some (cu T1)/\H T2=some (cu T2)/\H T3=some (cu T3)/\H T4=some (cu T4)/\H T5=some (cu T5)/\H T6=some (cu T6)/\H T7=some (cu T7)/\H T8=some (cu T8)/\H T9=some (cu T9)/\(∀(i:Nat) (tm:Int),pA m (n:Int) x i tm->jL m n x (cH (n:Int) x i tm) S)/\(∀(i:Nat) (tm:Int) (M B:List (List Int)) (sg u:Int) (a:Nat) (P y w:Addr) (ws:List Addr) H',pA m (n:Int) x i tm->bC M->bI M->(∀a b,a<3->b<3->aJ m (λk=>ent S a k) (λk=>ent S b k)=(n:Int)*n*ent M a b) ->Cj n S sg B->a<3-> ¬iU (n:Int) (λj=>ent B a j) ->0<u->u<n->u*jA (n:Int) (λj=>ent B a j)%(n:Int)=1->au H H'->H P=none->H y=none->H w=none->(∀b∈ws,H b=none) ->w∉ws->y∉ws->H' P=some (.tup [.ref y,.ref w]) ->cP H' y (λi=>u*(ent B a i%(n:Int))%(n:Int)) ->Tab H' w ws B->Q (.ref P) H')
theorem Cm{aW aU aI aT dj bz dw bZ bX:Addr}(F:fC K mg "way_back" qN kX)(jl:cQ P w K mg base cj 11 "refuse_no_line" fX (Mh aW aU aI aT))(mC:cQ P w K mg base cj 11 "steps_along" g8 (Gh aW aU dj bz aT dw bZ))(cK:cQ P w K mg base cj 11 "determinant" eK BR)(qf:cQ P w K mg base cj 11 "cover" qc As)(tW:cQ P w K mg base cj 11 "made_by" m8 (MC bX))(gT:cQ P w K mg base cj 11 "line_under" gP (vD aT)):cQ P w K mg base cj 12 "way_back" kX (zD aW aU aI aT dj bz dw bZ bX):=by
 refine F.ok jC (λvs H Q E h=> ?_) (λf cdv A outer s H vs Q E hr h=> ?_)
 ·obtain⟨t,bs,m,n,b,x,r,rs,S,rfl,hT,cN,hB,ev,ab,le,hp,hd,hx,L,hc,hR,cS,bS,h1,h2,h3,h4,h5,h6,h7,h8,h9,hst,q⟩:=h
  rfl
 obtain⟨t,bs,m,n,b,x,r,rs,S,rfl,hT,cN,hB,ev,ab,le,hp,hd,hx,L,hc,hR,cS,bS,h1,h2,h3,h4,h5,h6,h7,h8,h9,hst,q⟩:=h
 have hu:=hr.units
 refine⟨_,(mR (@ao _ _ _ _ _ (jo (aR jl hr rfl aQ (af (pv 0) (af (pv 1) (af (pv 2) ak)))))
  (@ao _ _ _ _ _ (cV (gW (gv (aR mC hr rfl aQ (af (pv 0) (af (pv 1) (af (pv 2) (af (pv 3) ak))))))) (@aM _ _ _ oO) cU)
  (@ao _ _ _ _ _ (aX (i:=4) jC.nd rfl (Or.inr rfl) (ay fm (aR cK hr rfl aQ (af (pv 3) ak)) (ay bO (pv 1) (pv 1))))
  (@ao _ _ _ _ _ (sL (i:=5) jC.nd rfl rfl (N2:=["form","p","line","step","signed","homeward","made","told"]) (te:=(iT 1 (vL K (aD 0)) (cg 0) (c7 (rI Ed λi j=> .int (i.fdiv j)) (aD 0) (aD 6)))) rfl (bN (aR qf hr rfl aQ (af (pv 3) ak))) (by kernel_rfl) rfl (λ_ _ _=>by exact dJ (dP (N2:=["row","form","p","line","step","signed","homeward","made","told"]) (te:=(c7 (rI Ed λi j=> .int (i.fdiv j)) (aD 0) (aD 6))) rfl (bN (pv 0)) (by kernel_rfl) rfl (λ_ _ _=>by exact dJ (ay zp (pv 0) (pv 6))))))
  (@ao _ _ _ _ _ (aX (i:=6) jC.nd rfl (Or.inr rfl) (aR tW hr rfl aQ (af (pv 0) (af (pv 1) (af (pv 3) ak)))))
  (@ao _ _ _ _ _ (sL (i:=7) jC.nd rfl rfl (N2:=["form","p","line","step","signed","homeward","made","told"]) (te:=(mQ (vD aT) [] E0 (bK (aD 7) (bK (aD 2) (bK (aD 0) gM))))) rfl (bN (pv 5)) (by kernel_rfl) rfl (λ_ _ _=>by exact dJ (aR gT hr rfl aQ (af (pv 7) (af (pv 2) (af (pv 0) ak))))))
  (@aM _ _ _ (aO (sH (af (aE aq (lP (N2:=["form","p","line","step","signed","homeward","made","told"]) (tt:=(lN (c7 (λx y H Q=>y= .gu/\Q (.bl (!decide (x= .gu))) H) (aD 0) (tC .gu)))) (te:=(aD 0)) rfl (bN (pv 7)) (by kernel_rfl) rfl (λ_ _ _=>by exact rK (bg Nv (pv 0) vJ (bf _))) (λ_ _ _=>by exact dJ (pv 0))) ah (λ_ _=>rfl)) (af (pv 5) ak)))))))))))),?_⟩
 have p0:2<n/\n<14:=by
  simp only[List.mem_cons,List.not_mem_nil,or_false]at hp
  omega
 have nn:n*n<=169:=Nat.mul_le_mul (show n<=13 by omega) (show n<=13 by omega)
 have Vu:0<n*n:=Nat.mul_pos (by omega) (by omega)
 have e2:(n:Int)*n=((n*n:Nat):Int):=by push_cast;rfl
 refine⟨_,rfl,_,rfl,_,rfl,t,bs,m,n,b,x,rfl,hT,cN,hB,ev,ab,le,h1,h2,h3,hp,hd,hx,L,hc,h4,λH1 s1=> ?_⟩
 refine⟨_,rfl,_,rfl,_,rfl,_,rfl,t,bs,m,n,b,x,r,rs,S,rfl,hT.same s1,cN,hB,ev,hp,hd,s1 _ _ hx,L,hc,hR.same s1,cS,bS.mono (by decide),s1 _ _ h1,s1 _ _ h2,s1 _ _ h5,s1 _ _ h6,s1 _ _ h4,s1 _ _ h7,s1 _ _ h8,λi tm bo H2 F RT s2=> ?_⟩
 have St:=hst i tm F
 have eb:bo=true:=RT.mpr St
 subst eb
 refine⟨_,rfl,jv ?_⟩
 have s12:=s1.trans s2
 obtain⟨M,cM,eM,hM⟩:=zw ev hp (x:=x) (up:=cH (n:Int) x i tm) (by
   obtain⟨tn,rfl⟩:∃tn:Nat,tm=(tn:Int):=⟨tm.toNat,by have:=F.lo;omega⟩
   obtain⟨_,k2,k3,_⟩:=jb ev hp hc F
   rw[<-rL ev k2]
   exact k3) (λj _=>kD _ _ _ _ _) St
 have hh:=Pg (m:=m) (by omega) St
 have YQ:((n:Int)*n).natAbs<2^10:=by omega
 refine⟨_,rfl,r,rs,S,rfl,hR.same s12,cS,bS.mono (by decide),trivial,λH3 s3=>⟨_,rfl,_,rfl,_,_,rfl,rfl,.inl ⟨by omega,by omega⟩,_,_,rfl,rfl,(by show(0:Int)<(n:Int)*n/\(n:Int)*n<_;omega),?_⟩⟩
 have tK:=s12.trans s3
 generalize hsg:aK S/((n:Int)*n)=sg at hh
 generalize hBe:(mk3 λi j=>ent (gy S) i j/sg)=B at hh
 have bB:=Gi (by omega) bS hh
 refine⟨_,rfl,r,rs,S,rfl,hR.same tK,cS,bS.mono (by decide),λu us H4 s4 fu Vv nu Tu=> ?_⟩
 have l3:(us.map V.ref).length=3:=by rw[List.length_map,<-Tu.2.length];rfl
 have wD:=tK.trans s4
 refine⟨u,rfl,⟨_,aN.of Tu.1⟩,λD hD=>pe (bU (aN.of Tu.1)) l3 hD (λi j=>ent B i j) (λi y hi ey H5 Q5 s5 k5=> ?_) (λds H5 s5 fd nD nnd TD=> ?_)⟩
 ·obtain⟨b1,e1,Fj,_⟩:=aY (Tu.same s5) (show bC (gy S)from bP _) hi
  have Mc:y= .ref b1:=by
   have q1:=dU ey
   rw[e1]at q1
   exact(Option.some.inj q1).symm
  subst Mc
  refine⟨_,rfl,b1,rfl,⟨_,aN.of Fj⟩,λD2 pN=>eE (bU (aN.of Fj)) rfl pN (λj=>ent B i j) (λj z hj ez H6 Q6 s6 k6=> ?_) (λH6 s6 e6=>k5 D2 H6 pN s6 e6)⟩
  have My:z= .int (ent (gy S) i j):=by
   rcases aC hj with rfl|rfl|rfl<;>exact(Option.some.inj ez).symm
  subst My
  have k7:=k6 H6 (au.refl _)
  have e5:(ent (gy S) i j).fdiv sg=ent B i j:=by
   rw[hh.Xb i j hi hj]
   exact Int.mul_fdiv_cancel_left _ (by rcases hh.one with z|z<;>omega)
  rw[<-e5,<-hsg]at k7
  have j0:aK S/((n:Int)*n)≠0:=by rw[hsg];rcases hh.one with z|z<;>omega
  have j1:(aK S/((n:Int)*n)).natAbs<2^4:=by rw[hsg];rcases hh.one with z|z<;>omega
  exact⟨_,rfl,_,rfl,_,_,rfl,rfl,⟨j0,aL j1 (by decide)⟩,k7⟩
 have LS:=wD.trans s5
 have TD:Tab H5 D ds B:=by rw[oY hh.nq];exact TD
 refine⟨_,rfl,_,rfl,_,rfl,t,bs,m,(n:Int),r,rs,S,M,rfl,hT.same LS,hR.same LS,cN,cS,hB.mono (by decide),bS.mono (by decide),by omega,by omega,(λa b ha hb=>by rw[kO m S ha hb,hM a b ha hb]),cM,LS _ _ h9,λv vs H6 s6 fv fvs nv nnv Tv=> ?_⟩
 have CS:=LS.trans s6
 have UM:=TD.same s6
 have bM:=Ck (show(0:Int)<n by omega) hB bS hM
 have Xh:(ds.map V.ref).length=3:=by rw[List.length_map,<-TD.2.length,hh.nq.1]
 refine⟨_,rfl,D,rfl,⟨_,aN.of UM.1⟩,λG hG=>MB (bU (aN.of UM.1)) (by rw[Xh];decide) hG (λj v H=>(v= .gu/\iU (n:Int) (λi=>ent B j i))∨ ∃y u,v= .ref y/\y≠G/\0<u/\u<(n:Int)/\u*jA (n:Int) (λi=>ent B j i)%(n:Int)=1/\ ¬iU (n:Int) (λi=>ent B j i)/\H6 y=none/\cP H y (λi=>u*(ent B j i%(n:Int))%(n:Int))) (λj v H H' rr off=>rr.imp id λ ⟨y,u,e,ny,u0,u1,eu,nr,fy,ra⟩=>⟨y,u,e,ny,u0,u1,eu,nr,fy,off _ _ ny ra⟩) (λj z ez H7 Q7 s7 eG k7=> ?_) (λvs' H7 s7 lv rel eG=> ?_)⟩
 ·have hj:j<3:=by have:=(List.getElem?_eq_some_iff.mp ez).1;rw[Xh]at this;exact this
  obtain⟨b1,e1,Fj,_⟩:=aY (UM.same s7) hh.nq hj
  have My:z= .ref b1:=by
   have q1:=dU ez
   rw[e1]at q1
   exact(Option.some.inj q1).symm
  subst My
  obtain⟨oG,eG⟩:=eG
  refine⟨_,rfl,_,rfl,_,rfl,v,vs,M,(n:Int),b1,(λi=>ent B j i),rfl,Tv.same s7,cM,bM,hp,Fj,(CS.trans s7) _ _ h4,λz H8 s8=>k7 .gu H8 s8 (.inl ⟨rfl,Classical.byContradiction λw=>z ⟨w,zC ev eM (by omega) hM hh hj⟩⟩),λoc u a H8 u0 u1 eu s8 fa ea=>k7 (.ref a) H8 s8 (.inr ⟨a,u,rfl,(λw=>by rw[w,eG]at fa;cases fa),u0,u1,eu,oc.1,s7.none fa,ea⟩)⟩
 have lv3:vs'.length=3:=by rw[lv,Xh]
 refine⟨_,rfl,G,rfl,⟨_,aN.of eG⟩,λW hW=>di (bU (aN.of eG)) (by rw[lv3];decide) hW (λv=> !decide (v= .gu)) id (λy hy H8 R s8 kk=>⟨_,rfl,rfl,_,rfl,kk H8 (au.refl _)⟩) (λy hy px H8 Q' s8 kk=>⟨_,rfl,kk H8 (au.refl _)⟩) (λH8 s8 e8=> ?_)⟩
 obtain⟨a0,ha0,hr0⟩:=MA ev hp hd L (x:=x) (λj _=>kD _ _ _ _ _) St hh
 generalize OP:(vs'.filter λv=> !decide (v= .gu)).map id=Ls at e8
 have mem:∀v∈Ls,∃j y u,j<3/\v= .ref y/\0<u/\u<(n:Int)/\u*jA (n:Int) (λi=>ent B j i)%(n:Int)=1/\ ¬iU (n:Int) (λi=>ent B j i)/\H6 y=none/\cP H7 y (λi=>u*(ent B j i%(n:Int))%(n:Int)):=λv hv=>by
  rw[<-OP,List.map_id,List.mem_filter]at hv
  obtain⟨j,ej⟩:=List.mem_iff_getElem?.mp hv.1
  have hj:j<3:=by have:=(List.getElem?_eq_some_iff.mp ej).1;omega
  rcases rel j v ej with⟨z,_⟩|⟨y,u,e,_,u0,u1,eu,nr,fy,ra⟩
  ·rw[z]at hv
   simp at hv
  ·exact⟨j,y,u,hj,e,u0,u1,eu,nr,fy,ra⟩
 have ne:Ls≠ []:=λz=>by
  obtain⟨v,ev'⟩:∃v,vs'[a0]?=some v:=⟨vs'[a0]'(by omega),List.getElem?_eq_getElem (by omega)⟩
  have:v∈Ls:=by
   rw[<-OP,List.map_id,List.mem_filter]
   refine⟨List.mem_of_getElem? ev',?_⟩
   rcases rel a0 v ev' with⟨_,w⟩|⟨y,u,e,_⟩
   ·exact absurd w hr0
   ·rw[e];rfl
  rw[z]at this
  cases this
 match Ls,ne,mem,e8 with
 |v::rst,_,mem,e8=>
  obtain⟨j,y,u,hj,rfl,u0,u1,eu,nr,fy,ra⟩:=mem v List.mem_cons_self
  refine⟨W,_,_,_,rfl,rfl,aN.of e8,kQ,_,rfl,(by show 2<=sizeLine;decide),λP hP=> ?_⟩
  have uP:=au.up (o:= .tup [.ref y,.ref D]) hP
  have Sq:=s7.trans s8
  have UN:=CS.trans Sq
  have yd:y∉ds:=λz=>by
   obtain⟨_,_,e⟩:=z9 UM.2 z
   rw[e]at fy
   cases fy
  exact q i tm M B sg u j P y D ds _ F cM eM hM hh hj nr u0 u1 eu (UN.trans uP) (UN.none hP) (CS.none fy) (wD.none hD) (λb hb=>wD.none (fd b hb)) nD yd aA (uP _ _ (s8 _ _ ra)) ((UM.same Sq).same uP)
end
end CN
namespace L2
open PySem PySem.Spec PyProof.Rows
theorem CQ.append{H:Hp}:∀{xs ys:List V} {ds es:List PyData},CQ H xs ds->CQ H ys es->CQ H (xs++ys) (ds++es)
 |_,_,_,_,.nil,q=>q
 |_,_,_,_,.cons a p,q=> .cons a (CQ.append p q)
section
variable{prog:Program}{w:World}{A:Around}{E:Value->Shared->Prop}{s:Shared}
end
section
variable{X:Cx}
end
section
variable{X:Cx}
end
def UO(K:PySem.W.Frag)(neg:Bool):R2:=λx y H Q=> ∃p xs d ds,y= .ref p/\aN K H p xs/\zX K H x d/\SeqAt.shaped d=true/\xY K H xs ds/\ds.all SeqAt.shaped=true/\Q (.bl (if neg then !(ds.any λe=>PyData.eqv e d)else ds.any λe=>PyData.eqv e d)) H
section
variable{X:Cx}{pins:List (Addr×Obj)}{σ:St}{H:Hp}{s:Shared}
open Classical in
theorem Ph(I:Inv X pins σ H s)(hu:X.A.units+65<cLine){x:V}{v:Value}{d:PyData}(rx:RelV x v)(hx:zX X.K H x d)(sd:SeqAt.shaped d=true):∃e:Value->Bool,∀{xs:List V} {us:List Value} {ds:List PyData},Vals xs us->xY X.K H xs ds->ds.all SeqAt.shaped=true->
  (∀u∈us,SeqAt.EqAt X.A.in1 s u v (e u))/\us.any e=ds.any λe=>PyData.eqv e d:=by
 obtain⟨as,ra⟩:=kK I hx rx
 refine⟨λu=>if h:∃du,(∃bs,Reads s.heap u du bs)/\SeqAt.shaped du=true then PyData.eqv h.choose d else false,?_⟩
 have val:∀{u:Value} {du:PyData} {bs:List Addr},Reads s.heap u du bs->SeqAt.shaped du=true->(if h:∃du,(∃bs,Reads s.heap u du bs)/\SeqAt.shaped du=true then PyData.eqv h.choose d else false)=PyData.eqv du d:=λ {u du bs} r sh=>by
  have h:∃du,(∃bs,Reads s.heap u du bs)/\SeqAt.shaped du=true:=⟨du,⟨bs,r⟩,sh⟩
  rw[dif_pos h]
  obtain⟨⟨bs',r'⟩,sh'⟩:=h.choose_spec
  rw[SeqAt.Reads.unique h.choose du u bs' bs (SeqAt.canLay_of_shaped sh') r' r]
 intro xs us ds r
 induction r generalizing ds with
 |nil=>
  intro hd _
  cases hd
  exact⟨λu hu=>(by cases hu),rfl⟩
 |cons a r ih=>
  intro hd sh
  cases hd with
  |cons h1 h2=>
   rw[List.all_cons,Bool.and_eq_true]at sh
   obtain⟨bs,r1⟩:=kK I h1 a
   obtain⟨i1,i2⟩:=ih h2 sh.2
   refine⟨λu Uv=> ?_,?_⟩
   ·rcases List.mem_cons.mp Uv with rfl|z
    ·dsimp only
     rw[val r1 sh.1]
     exact SeqAt.eqAt_reads _ _ X.A.in1 s _ _ _ _ r1 ra (SeqAt.canLay_of_shaped sh.1) (SeqAt.canLay_of_shaped sd) (SeqAt.room_of_shaped sh.1 (show X.A.units+1+64<cLine by omega))
    ·exact i1 u z
   ·rw[List.any_cons,List.any_cons,i2,val r1 sh.1]
theorem Im(hu:X.A.units+65<cLine):sr X (compareOp .NotIn) (UO X.K true):=by
 intro pins s σ H x y v u Q I rx ry h
 obtain⟨p,xs,d,ds,rfl,hq,hx,sd,hd,sh,q⟩:=h
 cases ry
 obtain⟨its,r,pl,hz⟩:=I.list hq
 obtain⟨e,he⟩:=Ph I hu rx hx sd
 obtain⟨h1,h2⟩:=he r hd sh
 refine SeqAt.notIn_listAt e pl.isList (λw hw=>h1 w (by simpa using hw)) ⟨.bl _,H,I,rfl,?_⟩
 rw[show its.toArray.any e=its.any e by simp,h2]
 exact q
end
theorem gw.RU{k:Nat}{A:Around}(r:gw k A):A.units+65<cLine:=by have:=r.un;omega
theorem wR(m:List (List Int))(r:List Int)(S:List (List Int)):SeqAt.shaped (.tuple [uO m,lM r,uO S])=true:=by
 have h1:=nE m
 have h3:=nE S
 have h2:PyData.depthAll (r.map PyData.int)<=0:=by
  induction r with
  |nil=>exact Nat.le_refl _
  |cons a r ih=>simp only[List.map_cons,PyData.depthAll,PyData.depth];omega
 simp only[SeqAt.shaped,PyData.canLay0,PyData.canLayAll0,PyData.depth,PyData.depthAll,oW,PySem.W.ke_canLayAll0,Bool.true_and,decide_eq_true_eq]
 exact decide_eq_true (show _<=64 by omega)
theorem Gk{K:PySem.W.Frag}{H:Hp}{p t b r:Addr}{bs rs:List Addr}{m S:List (List Int)}{x:List Int}(e:H p=some (.tup [.ref t,.ref b,.ref r]))(h1:Tab H t bs m)(h2:H b=some (.lst (x.map V.int)))(h3:Tab H r rs S):zX K H (.ref p) (.tuple [uO m,lM x,uO S]):=
 .tup (p6.of e) (.cons (uB h1) (.cons (sU (aN.of h2)) (.cons (uB h3) .nil)))
theorem Io{K:PySem.W.Frag}{H:Hp}{m:List (List Int)}{bs:List Addr}(pr:Paired (λrow b=>H b=some (.lst (row.map V.int))) m bs):xY K H (bs.map V.ref) (m.map lM):=by
 induction pr with
 |nil=>exact .nil
 | @cons r b m bs h t ih=>exact .cons (.lst (aN.of h) (Fy r)) ih
theorem Ip{K:PySem.W.Frag}{H:Hp}{p b:Addr}{ls:List Addr}{L:List (List Int)}{row:List Int}{Q:VK}(hL:Tab H p ls L)(hb:H b=some (.lst (row.map V.int)))(hm:row∈L)(q:Q (.bl false) H):UO K true (.ref b) (.ref p) H Q:=by
 refine⟨p,_,lM row,L.map lM,rfl,aN.of hL.1,sU (aN.of hb),ir row,Io hL.2,?_,?_⟩
 ·rw[List.all_eq_true]
  intro d hd
  obtain⟨r,_,rfl⟩:=List.mem_map.mp hd
  exact ir r
 ·have e:((L.map lM).any λe=>PyData.eqv e (lM row))=true:=by
   rw[List.any_eq_true]
   exact⟨lM row,List.mem_map_of_mem hm,vW (ir row)⟩
  rw[e]
  exact q
section
variable{X:Cx}
theorem wU:∀{zs:List Int} {its:List Value},Vals (zs.map V.int) its->IntsAre its zs
 | [],_,r=>by
  cases r
  exact .nil
 |z::zs,_,r=>by
  cases r with
  |cons h r=>
   obtain⟨t,rfl⟩:=h
   exact .cons z t (wU r)
def Qi(K:PySem.W.Frag):List V->Hp->VK->Prop:=λxs H Q=> ∃p zs,xs=[.ref p]/\aN K H p ((zs:List Int).map V.int)/\Q (.int zs.sum) H
theorem ym(hc:X.calm=true):oQ X (.builtin "sum") (Qi X.K):=by
 intro pins s σ H xs us Q I r h
 obtain⟨p,zs,rfl,hq,q⟩:=h
 obtain⟨u,rfl,rx⟩:=vals1 r
 cases rx
 obtain⟨its,rv,pl,hz⟩:=I.list hq
 have ia:=wU rv
 obtain⟨ys,ey⟩:=ia.allInts.items
 have YR:=pl.isList
 rw[ey]at YR
 refine sum_intListG (I.ok.hd hc) YR λh' tk t' hk=> ?_
 refine⟨.int zs.sum,H,I.kept (t':=tk) hk,⟨t',?_⟩,q⟩
 have e1:numsOf (intItems ys).toList=zs:=by rw[<-ey];exact ia.numsOf
 rw[nums_intItems]at e1
 rw[preSum_eq,List.take_of_length_le (by simp),e1]
end
end L2
set_option maxHeartbeats 1000000
namespace CN
open PySem L2
section
variable{P:Program}{w:World}{K:PySem.W.Frag}{mg:Str->Option Value}{base:Heap}
def Gm:Sp:=λvs H Q _=> ∃(t1:Addr) (b1:List Addr) (m1:List (List Int)) (t2:Addr) (b2:List Addr) (m2:List (List Int)),vs=[.ref t1,.ref t2]/\Tab H t1 b1 m1/\Tab H t2 b2 m2/\bC m1/\bC m2/\Bd 1000 m1/\Bd 1000 m2/\ ∀t bs H',au H H'->H t=none->Tab H' t bs (fq m1 m2) ->Q (.ref t) H'
theorem uX(F:fC K mg "_law_product" k8 gF)(oJ:mg "sum"=none)(aG:mg "range"=none):cQ P w K mg base cj 1 "_law_product" gF Gm:=by
 refine F.ok jR (λvs H Q E h=> ?_) (λf cdv A outer s H vs Q E hr h=> ?_)
 ·obtain⟨t1,b1,m1,t2,b2,m2,rfl,h1,h2,c1,c2,d1,d2,q⟩:=h
  rfl
 obtain⟨t1,b1,m1,t2,b2,m2,rfl,h1,h2,c1,c2,d1,d2,q⟩:=h
 have hu:=hr.units
 refine⟨_,(mR (@ao _ _ _ _ _ (aX (i:=2) jR.nd rfl (Or.inl rfl) (fQ ak))
  (@ao _ _ _ _ _ (iX PassesOwn.never rfl (bN (pv 0)) (bL (i:=3) jR.nd rfl (Or.inr rfl)) (c6 (jo (uy PySem.F.plainAttrs_list PySem.F.slot_list_append PySem.F.type_list_append gO (pv 2) (af (dP (N2:=["_law_one","_law_other","_law_made_here","_law_row"]) (te:=(Fd (Qi K) (bK (iT 1 (qp (bK (tC (.int 3)) gM)) (cg 0) (c7 (rI iH λi j=> .int (i*j)) (c7 (eT K) (aD 5) (aD 0)) (c7 (eT K) (c7 (eT K) (aD 3) (aD 0)) (aD 1)))) gM))) rfl (aZ rfl aG (af ah ak)) (by kernel_rfl) rfl (λ_ _ _=>by exact dJ (bD (ym rfl) rfl oJ PyProof.Rows.boot_sum (af (dP (N2:=["_law_j","_law_one","_law_other","_law_made_here","_law_row"]) (te:=(c7 (rI iH λi j=> .int (i*j)) (c7 (eT K) (aD 5) (aD 0)) (c7 (eT K) (c7 (eT K) (aD 3) (aD 0)) (aD 1)))) rfl (aZ rfl aG (af ah ak)) (by kernel_rfl) rfl (λ_ _ _=>by exact dJ (ay bA (aE aq (pv 5) (pv 0) (λ_ _=>rfl)) (aE aq (aE aq (pv 3) (pv 0) (λ_ _=>rfl)) (pv 1) (λ_ _=>rfl))))) ak)))) ak)))))
  (@aM _ _ _ (aO (pv 2)))))),?_⟩
 refine⟨(by show 0<=sizeLine;decide),λG hG=> ?_⟩
 have u1:=au.up (o:= .lst []) hG
 have l3:(b1.map V.ref).length=3:=by rw[List.length_map,<-h1.2.length,c1.1]
 refine⟨_,rfl,t1,rfl,⟨_,aN.of (h1.same u1).1⟩,Bg (xs:=b1.map V.ref) (λj σ H'=> ∃o cs,σ=[some (.ref t1),some (.ref t2),some (.ref G),o]/\au H H'/\H' G=some (.lst (cs.map V.ref))/\cs.length=j/\gB H' cs/\rws H' cs=(fq m1 m2).take j) ⟨_,[],rfl,u1,aA,rfl,(λb hb=>nomatch hb),rfl⟩ (λj σ H' _ hh=> ?_) (λj v σ H' ev hh=> ?_) (λσ H' hh=> ?_)⟩
 ·obtain⟨_,_,_,s1,_⟩:=hh
  exact aN.of (h1.same s1).1
 ·obtain⟨o,cs,rfl,s1,eG,lc,Pj,rc⟩:=hh
  have hj:j<3:=by have:=(List.getElem?_eq_some_iff.mp ev).1;rw[l3]at this;exact this
  obtain⟨b,x1,x2,_⟩:=aY (h1.same s1) c1 hj
  have ev':v= .ref b:=by
   have q1:=dU ev
   rw[x1]at q1
   exact(Option.some.inj q1).symm
  subst ev'
  refine⟨_,rfl,.inl ⟨rfl,_,aN.of eG⟩,3,rfl,by decide,by decide,λD hD=>eE (dh (n:=3)) rfl hD (λk=>ent (fq m1 m2) j k) (λk y hk ey H2 Q2 s2 k2=> ?_) (λH2 s2 e2=> ?_)⟩
  ·obtain⟨_,rfl⟩:=bQ ey
   refine⟨3,rfl,by decide,by decide,λD2 pN=>eE (dh (n:=3)) rfl pN (λi=>ent m1 j i*ent m2 i k) (λi z hi ez H3 Q3 s3 k3=> ?_) (λH3 s3 e3=> ?_)⟩
   ·obtain⟨_,rfl⟩:=bQ ez
    have sm:=s1.trans (s2.trans s3)
    obtain⟨c,row,f1,f2,f3⟩:=nF (h2.same sm) c2 hi hk
    exact⟨_,rfl,_,rfl,b,_,_,_,rfl,rfl,aN.of (s3 _ _ (s2 _ _ x2)),jO (λi=>ent m1 j i) hi,_,rfl,_,rfl,t2,_,_,_,rfl,rfl,aN.of (h2.same sm).1,f1,_,rfl,c,_,_,_,rfl,rfl,aN.of f2,f3,_,_,rfl,rfl,⟨aL (d1 j i hj hi) (by decide),aL (d2 i k hi hk) (by decide)⟩,k3 H3 (au.refl _)⟩
   ·refine⟨D2,[ent m1 j 0*ent m2 0 k,ent m1 j 1*ent m2 1 k,ent m1 j 2*ent m2 2 k],rfl,aN.of e3,?_⟩
    have e: [ent m1 j 0*ent m2 0 k,ent m1 j 1*ent m2 1 k,ent m1 j 2*ent m2 2 k].sum=ent (fq m1 m2) j k:=by
     rw[aS m1 m2 hj hk]
     simp only[List.sum_cons,List.sum_nil]
     omega
    rw[e]
    exact k2 H3 s3
  ·obtain⟨Sx,UP⟩:=Gb (b:=D) e2
   have UQ:D≠G:=λz=>by rw[z,eG]at hD;cases hD
   have fG:H G=none:=hG
   refine⟨G,_,_,rfl,rfl,s2 _ _ eG,(by rw[List.length_map,lc];exact Nat.lt_of_lt_of_le hj (by decide)),?_⟩
   have keep:∀b∈cs,∀o,H' b=some o->upd H2 G (.lst (cs.map V.ref++ [.ref D])) b=some o:=λb hb o e=>by
    rw[aF (jK (Pj b hb) eG)]
    exact s2 _ _ e
   obtain⟨k1,k2⟩:=Pj.keep keep
   obtain⟨k3,k4⟩:=Sx.keep (H':=upd H2 G (.lst (cs.map V.ref++ [.ref D]))) λo e=>by rw[aF UQ];exact e
   refine⟨_,cs++ [D],rfl,(s1.trans s2).upd fG,by rw[List.map_append];exact aA,by rw[List.length_append,lc];rfl,λb hb=> ?_,?_⟩
   ·rcases List.mem_append.mp hb with hb|hb
    ·exact k1 b hb
    ·rw[List.mem_singleton.mp hb]
     exact k3
   ·rw[lB,k2,rc]
    show _++ [gK _ D]=_
    rw[k4,UP]
    rcases aC hj with rfl|rfl|rfl<;>rfl
 ·obtain⟨o,cs,rfl,s1,eG,lc,Pj,rc⟩:=hh
  refine⟨_,rfl,q G cs H' s1 hG ?_⟩
  have T:=AA eG Pj
  rw[rc,l3]at T
  exact T
def Qj:Sp:=λvs H Q _=> ∃(t:Addr) (bs:List Addr) (m:List (List Int)) (n:Nat) (b:Addr) (x:Nat->Int),vs=[.ref t,.int (n:Int),.ref b]/\Tab H t bs m/\bC m/\Bd 440 m/\(n:Int)∈([3,5,7,11,13]:List Int)/\cP H b x/\(∀i,i<3->(x i).natAbs<2^400)/\ ¬(az m x 0%(n:Int)=0/\az m x 1%(n:Int)=0/\az m x 2%(n:Int)=0)/\ ∀(q:Nat) (u:Int) r rs H',q<3->u*(az m x q%(n:Int))%(n:Int)=1->au H H'->H r=none->Tab H' r rs (mk3 λk j=>rm n q (λk=>az m x k%(n:Int)*u%(n:Int)) k j) ->Q (.ref r) H'
theorem wV(F:fC K mg "_law_across" mq g9)(lS:mg "int"=none)(aG:mg "range"=none)(bT:cQ P w K mg base cj 1 "_law_pairing" dY lR):cQ P w K mg base cj 2 "_law_across" g9 Qj:=by
 refine F.ok dZ (λvs H Q E h=> ?_) (λf cdv A outer s H vs Q E hr h=> ?_)
 ·obtain⟨t,bs,m,n,b,x,rfl,hT,cN,hB,hp,hx,bx,nz,q⟩:=h
  rfl
 obtain⟨t,bs,m,n,b,x,rfl,hT,cN,hB,hp,hx,bx,nz,q⟩:=h
 have hu:=hr.units
 refine⟨_,(mR (@ao _ _ _ _ _ (aX (i:=3) dZ.nd rfl (Or.inr rfl) (dP (N2:=["_law_form_here","_law_p","_law_up","_law_pairings","_law_place","_law_unmade","_law_made_here","_law_k'","_law_row"]) (te:=(c7 (rI (λ_ j=>0<j) λi j=> .int (i%j)) (mQ lR [] E0 (bK (aD 1) (bK (aD 3) (bK (iT 1 (qp (bK (tC (.int 3)) gM)) (cg 0) (Fd (λxs H Q=>(∃i,xs=[.int i]/\Q (.int i) H)∨ ∃k,xs=[.bl k]/\Q (.int (if k then 1 else 0)) H) (bK (c7 EX (aD 0) (aD 1)) gM))) gM)))) (aD 2))) rfl (aZ rfl aG (af ah ak)) (by kernel_rfl) rfl (λ_ _ _=>by exact dJ (ay cR (aR bT hr rfl aQ (af (pv 1) (af (pv 3) (af (dP (N2:=["_law_k","_law_form_here","_law_p","_law_up","_law_pairings","_law_place","_law_unmade","_law_made_here","_law_k'","_law_row"]) (te:=(Fd (λxs H Q=>(∃i,xs=[.int i]/\Q (.int i) H)∨ ∃k,xs=[.bl k]/\Q (.int (if k then 1 else 0)) H) (bK (c7 EX (aD 0) (aD 1)) gM))) rfl (aZ rfl aG (af ah ak)) (by kernel_rfl) rfl (λ_ _ _=>by exact dJ (iz p7 rfl lS PyProof.Rows.boot_int (af (f7 j7 (pv 0) (pv 1) (bf _)) ak)))) ak)))) (pv 2)))))
  (@ao _ _ _ _ _ (aX (i:=4) dZ.nd rfl (Or.inr rfl) (aE aq (lP (N2:=["_law_form_here","_law_p","_law_up","_law_pairings","_law_place","_law_unmade","_law_made_here","_law_k'","_law_row"]) (tt:=(lN (c7 PF (c7 (eT K) (aD 4) (aD 0)) (tC (.int 0))))) (te:=(aD 0)) rfl (aZ rfl aG (af ah ak)) (by kernel_rfl) rfl (λ_ _ _=>by exact rK (bg ju (aE aq (pv 4) (pv 0) (λ_ _=>rfl)) ah (bf _))) (λ_ _ _=>by exact dJ (pv 0))) ah (λ_ _=>rfl)))
  (@ao _ _ _ _ _ (aX (i:=5) dZ.nd rfl (Or.inl rfl) (aE aq (lP (N2:=["_law_form_here","_law_p","_law_up","_law_pairings","_law_place","_law_unmade","_law_made_here","_law_k","_law_row"]) (tt:=(lN (c7 EX (c7 (rI (λ_ j=>0<j) λi j=> .int (i%j)) (c7 (rI qA λi j=> .int (i*j)) (aD 0) (c7 (eT K) (aD 4) (aD 5))) (aD 2)) (tC (.int 1))))) (te:=(aD 0)) rfl (aZ rfl aG (af (pv 1) ak)) (by kernel_rfl) rfl (λ_ _ _=>by exact rK (bg j7 (ay cR (ay bO (pv 0) (aE aq (pv 4) (pv 5) (λ_ _=>rfl))) (pv 2)) ah (bf _))) (λ_ _ _=>by exact dJ (pv 0))) ah (λ_ _=>rfl)))
  (@ao _ _ _ _ _ (aX (i:=6) dZ.nd rfl (Or.inl rfl) (fQ ak))
  (@ao _ _ _ _ _ (iX PassesOwn.never rfl (aZ rfl aG (af ah ak)) (bL (i:=7) dZ.nd rfl (Or.inr rfl)) (mR (@ao _ _ _ _ _ (sL (i:=8) dZ.nd rfl rfl (N2:=["_law_form_here","_law_p","_law_up","_law_pairings","_law_place","_law_unmade","_law_made_here","_law_k","_law_row"]) (te:=(Fd (λxs H Q=>(∃i,xs=[.int i]/\Q (.int i) H)∨ ∃k,xs=[.bl k]/\Q (.int (if k then 1 else 0)) H) (bK (c7 EX (aD 0) (aD 8)) gM))) rfl (aZ rfl aG (af ah ak)) (by kernel_rfl) rfl (λ_ _ _=>by exact dJ (iz p7 rfl lS PyProof.Rows.boot_int (af (f7 j7 (pv 0) (pv 8) (bf _)) ak))))
  (@ao _ _ _ _ _ (nA (ay f6 (aE aq (pv 8) (pv 4) (λ_ _=>rfl)) (ay cR (ay bO (aE aq (pv 3) (pv 7) (λ_ _=>rfl)) (pv 5)) (pv 1))) (qz (pv 8) (pv 4) set_list))
  (@ao _ _ _ _ _ (cV (bg j7 (pv 7) (pv 4) (bf _)) (@aM _ _ _ (sL (i:=8) dZ.nd rfl rfl (N2:=["_law_form_here","_law_p","_law_up","_law_pairings","_law_place","_law_unmade","_law_made_here","_law_k","_law_row"]) (te:=(c7 (rI qA λi j=> .int (i*j)) (aD 2) (Fd (λxs H Q=>(∃i,xs=[.int i]/\Q (.int i) H)∨ ∃k,xs=[.bl k]/\Q (.int (if k then 1 else 0)) H) (bK (c7 EX (aD 0) (aD 8)) gM)))) rfl (aZ rfl aG (af ah ak)) (by kernel_rfl) rfl (λ_ _ _=>by exact dJ (ay bO (pv 2) (iz p7 rfl lS PyProof.Rows.boot_int (af (f7 j7 (pv 0) (pv 8) (bf _)) ak)))))) cU)
  (@aM _ _ _ (jo (uy PySem.F.plainAttrs_list PySem.F.slot_list_append PySem.F.type_list_append gO (pv 6) (af (pv 8) ak)))))))))
  (@aM _ _ _ (aO (pv 6))))))))),?_⟩
 have p0:2<n/\n<14:=by
  simp only[List.mem_cons,List.not_mem_nil,or_false]at hp
  omega
 have np:(0:Int)<n:=by omega
 obtain⟨s,hs⟩:∃s:Nat->Int,s=λk=>az m x k%(n:Int):=⟨_,rfl⟩
 have s0:∀k,0<=s k/\s k<n:=λk=>by rw[hs];exact⟨Int.emod_nonneg _ (by omega),Int.emod_lt_of_pos _ np⟩
 have sE:∀k,s k=az m x k%(n:Int):=λk=>by rw[hs]
 refine⟨3,rfl,by decide,by decide,λP hP=>eE (dh (n:=3)) rfl hP s (λk y hk ey H1 Q1 s1 k1=> ?_) (λH1 s1 eP=> ?_)⟩
 ·obtain⟨_,rfl⟩:=bQ ey
  refine⟨_,rfl,_,rfl,3,rfl,by decide,by decide,λE hE=>eE (dh (n:=3)) rfl hE (λi=>if i=k then 1 else 0) (λi z hi ez H2 Q2 s2 k2=> ?_) (λH2 s2 e2=> ?_)⟩
  ·obtain⟨_,rfl⟩:=bQ ez
   have:=k2 H2 (au.refl _)
   refine⟨_,rfl,_,rfl,rfl,.inr ⟨_,rfl,?_⟩⟩
   rcases aC hi with rfl|rfl|rfl<;>rcases aC hk with rfl|rfl|rfl<;>exact this
  ·have sm:=s1.trans s2
   refine⟨t,bs,m,b,E,x,(λi=>if i=k then 1 else 0),rfl,hT.same sm,cN,hB.mono (by decide),sm _ _ hx,e2,(λi hi=>aL (bx i hi) (by decide)),(λi hi=>by show(if i=k then 1 else 0:Int).natAbs<2^1000;split<;>decide),_,rfl,_,_,rfl,rfl,np,?_⟩
   have e:aJ m x (λi=>if i=k then 1 else 0)%(n:Int)=s k:=by
    rw[sE,eX]
    rcases aC hk with rfl|rfl|rfl<;>simp
   dsimp only
   rw[e]
   exact k1 H2 s2
 obtain⟨qk,hqk,hsq⟩:∃k,k<3/\s k≠0:=by
  refine Classical.byContradiction λno=>nz ⟨?_,?_,?_⟩
  ·rw[<-sE];exact Classical.byContradiction λz=>no ⟨0,by decide,z⟩
  ·rw[<-sE];exact Classical.byContradiction λz=>no ⟨1,by decide,z⟩
  ·rw[<-sE];exact Classical.byContradiction λz=>no ⟨2,by decide,z⟩
 refine⟨3,rfl,by decide,by decide,λD hD=>di (dh (n:=3)) (by decide) hD (λv=>match v with| .int k=> !decide (V.int (s k.toNat)=V.int 0)|_=>false) id (λv hv Ha R sa kk=> ?_) (λv hv pv Ha Q' sa kk=>⟨_,rfl,kk Ha (au.refl _)⟩) (λH2 s2 e2=> ?_)⟩
 ·obtain⟨j,hj'⟩:=List.mem_iff_getElem?.mp hv
  obtain⟨hj,rfl⟩:=bQ hj'
  exact⟨_,rfl,_,rfl,P,_,_,_,rfl,rfl,aN.of (sa _ _ eP),jO s hj,rfl,_,rfl,kk Ha (au.refl _)⟩
 generalize hF:List.map id (List.filter (λv=>match v with| .int k=> !decide (V.int (s k.toNat)=V.int 0)|_=>false) (iG 3))=Fs at e2
 obtain⟨q0,HY,sq0,Vz⟩:∃q0,q0<3/\s q0≠0/\xV Fs 0=some (.int ((q0:Nat):Int)):=by
  have mem:V.int (qk:Int)∈Fs:=by
   rw[<-hF,List.map_id,List.mem_filter]
   refine⟨List.mem_map.mpr ⟨qk,List.mem_range.mpr hqk,rfl⟩,?_⟩
   simpa using hsq
  cases Fs with
  |nil=>cases mem
  |cons v r=>
   have hv:v∈v::r:=List.mem_cons_self
   rw[<-hF,List.map_id,List.mem_filter]at hv
   obtain⟨hv1,hv2⟩:=hv
   obtain⟨j,hj'⟩:=List.mem_iff_getElem?.mp hv1
   obtain⟨hj,rfl⟩:=bQ hj'
   exact⟨j,hj,by simpa using hv2,kQ⟩
 have s12:=s1.trans s2
 have Sy:=s2 _ _ eP
 refine⟨D,_,_,_,rfl,rfl,aN.of e2,Vz,?_⟩
 refine⟨_,rfl,(n:Int),rfl,by omega,by omega,λD3 Xi=>di (dh (n:=((n:Int)).toNat)) (by simp only[iG,List.length_map,List.length_range];exact Nat.le_of_lt (iY (by omega))) Xi (λv=>match v with| .int c=>decide (V.int (c*s q0%(n:Int))=V.int 1)|_=>false) id (λv hv Ha R sa kk=> ?_) (λv hv pv Ha Q' sa kk=>⟨_,rfl,kk Ha (au.refl _)⟩) (λH3 s3 e3=> ?_)⟩
 ·obtain⟨j,hj'⟩:=List.mem_iff_getElem?.mp hv
  obtain⟨hj,rfl⟩:=bQ hj'
  have b1:=s0 q0
  exact⟨_,rfl,_,rfl,_,rfl,P,_,_,_,rfl,rfl,aN.of (sa _ _ Sy),jO s HY,_,_,rfl,rfl,.inl ⟨by omega,by omega⟩,_,rfl,_,_,rfl,rfl,np,rfl,_,rfl,kk Ha (au.refl _)⟩
 generalize YS:List.map id (List.filter (λv=>match v with| .int c=>decide (V.int (c*s q0%(n:Int))=V.int 1)|_=>false) (iG ((n:Int)).toNat))=Xj at e3
 obtain⟨u,hu0,hun,hu1,at3⟩:∃u:Nat,0<=u/\u<n/\(u:Int)*s q0%(n:Int)=1/\xV Xj 0=some (.int (u:Int)):=by
  obtain⟨v0,hv0,hv1⟩:=pq hp (a:=s q0) (by rw[bJ (s0 q0).1 (s0 q0).2];exact sq0)
  have mem:V.int (((1+v0:Nat)):Int)∈Xj:=by
   rw[<-YS,List.map_id,List.mem_filter]
   refine⟨List.mem_map.mpr ⟨1+v0,List.mem_range.mpr (by omega),rfl⟩,?_⟩
   refine decide_eq_true ?_
   congr 1
  cases Xj with
  |nil=>cases mem
  |cons v r=>
   have hv:v∈v::r:=List.mem_cons_self
   rw[<-YS,List.map_id,List.mem_filter]at hv
   obtain⟨hv1,hv2⟩:=hv
   obtain⟨j,hj'⟩:=List.mem_iff_getElem?.mp hv1
   obtain⟨hj,rfl⟩:=bQ hj'
   exact⟨j,Nat.zero_le _,by omega,by simpa using hv2,kQ⟩
 have tK:=s12.trans s3
 have eP3:=s3 _ _ Sy
 refine⟨D3,_,_,_,rfl,rfl,aN.of e3,at3,?_⟩
 refine⟨(by show 0<=sizeLine;decide),λG hG=> ?_⟩
 have uG:=au.up (o:= .lst []) hG
 have fG:H G=none:=tK.none hG
 obtain⟨w,hw⟩:∃w:Nat->Int,w=λk=>az m x k%(n:Int)*u%(n:Int):=⟨_,rfl⟩
 have wE:∀k,s k*u%(n:Int)=w k:=λk=>by rw[hw,sE]
 refine⟨3,rfl,by decide,by decide,fP (n:=3) (λk σ H'=> ∃o7 o8 cs,σ=[some (.ref t),some (.int (n:Int)),some (.ref b),some (.ref P),some (.int (q0:Int)),some (.int (u:Int)),some (.ref G),o7,o8]/\au H3 H'/\H' G=some (.lst (cs.map V.ref))/\cs.length=k/\gB H' cs/\rws H' cs=(mk3 λk j=>rm n q0 w k j).take k) ⟨_,_,[],rfl,uG,aA,rfl,(λb hb=>nomatch hb),rfl⟩ (λk σ H' hk hh=> ?_) (λσ H' hh=> ?_)⟩
 rotate_left
 ·obtain⟨o7,o8,cs,rfl,s4,eG,lc,Pj,rc⟩:=hh
  refine⟨_,rfl,q q0 u G cs H' HY (by rw[<-sE];exact hu1) (tK.trans s4) fG ?_⟩
  have T:=AA eG Pj
  rw[rc,hw]at T
  exact T
 obtain⟨o7,o8,cs,rfl,s4,eG,lc,Pj,rc⟩:=hh
 rw[Int.zero_add]
 have app:∀(Hz:Hp) (D:Addr) (o8:Option V),au H' Hz->H' D=none->cP Hz D (rm n q0 w k) -> ∃o7 o8' cs',[some (.ref t),some (.int (n:Int)),some (.ref b),some (.ref P),some (.int (q0:Int)),some (.int (u:Int)),some (.ref G),some (.int (k:Int)),o8]=[some (.ref t),some (.int (n:Int)),some (.ref b),some (.ref P),some (.int (q0:Int)),some (.int (u:Int)),some (.ref G),o7,o8']/\au H3 (upd Hz G (.lst (cs.map V.ref++ [.ref D])))/\upd Hz G (.lst (cs.map V.ref++ [.ref D])) G=some (.lst (List.map V.ref cs'))/\cs'.length=k+1/\gB (upd Hz G (.lst (cs.map V.ref++ [.ref D]))) cs'/\rws (upd Hz G (.lst (cs.map V.ref++ [.ref D]))) cs'=(mk3 λk j=>rm n q0 w k j).take (k+1):=λHz D o8 sz hD eD=>by
  obtain⟨Sx,UP⟩:=Gb (b:=D) eD
  have UQ:D≠G:=λz=>by rw[z,eG]at hD;cases hD
  have keep:∀b∈cs,∀o,H' b=some o->upd Hz G (.lst (cs.map V.ref++ [.ref D])) b=some o:=λb hb o e=>by
   rw[aF (jK (Pj b hb) eG)]
   exact sz _ _ e
  obtain⟨k1,k2⟩:=Pj.keep keep
  obtain⟨k3,k4⟩:=Sx.keep (H':=upd Hz G (.lst (cs.map V.ref++ [.ref D]))) λo e=>by rw[aF UQ];exact e
  refine⟨_,_,cs++ [D],rfl,(s4.trans sz).upd hG,by rw[List.map_append];exact aA,by rw[List.length_append,lc];rfl,λb hb=> ?_,?_⟩
  ·rcases List.mem_append.mp hb with hb|hb
   ·exact k1 b hb
   ·rw[List.mem_singleton.mp hb]
    exact k3
  ·rw[lB,k2,rc]
   show _++ [gK _ D]=_
   rw[k4,UP]
   rcases aC hk with rfl|rfl|rfl<;>rfl
 refine⟨3,rfl,by decide,by decide,λD4 Xk=>eE (dh (n:=3)) rfl Xk (λi=>if i=k then 1 else 0) (λi z hi ez H5 Q5 s5 k5=> ?_) (λH5 s5 e5=> ?_)⟩
 ·obtain⟨_,rfl⟩:=bQ ez
  have:=k5 H5 (au.refl _)
  refine⟨_,rfl,_,rfl,rfl,.inr ⟨_,rfl,?_⟩⟩
  rcases aC hi with rfl|rfl|rfl<;>rcases aC hk with rfl|rfl|rfl<;>exact this
 have s35:=s4.trans s5
 have b1:=s0 k
 refine⟨_,rfl,_,rfl,D4,_,_,_,rfl,rfl,aN.of e5,jO (λi=>if i=k then 1 else 0) HY,_,rfl,_,rfl,P,_,_,_,rfl,rfl,aN.of (s35 _ _ eP3),jO s hk,_,rfl,_,_,rfl,rfl,.inl ⟨by omega,by omega⟩,_,rfl,_,_,rfl,rfl,np,_,_,rfl,rfl,_,rfl,_,rfl,D4,_,_,q0,rfl,rfl,e5,(by rcases aC HY with rfl|rfl|rfl<;>rfl),?_⟩
 rw[wE k]
 have s6:au H' (upd H5 D4 (.lst ([V.int (if 0=k then 1 else 0),.int (if 1=k then 1 else 0),.int (if 2=k then 1 else 0)].set q0 (.int ((if q0=k then 1 else 0) -w k))))):=s5.upd Xk
 refine⟨_,rfl,_,rfl,rfl,_,rfl,oS (λc=> ?_) (λc=> ?_)⟩
 ·have ck:k=q0:=by have:=of_decide_eq_true c;injection this;omega
  refine⟨3,rfl,by decide,by decide,λD7 Sg=>eE (dh (n:=3)) rfl Sg (rm n q0 w k) (λi z hi ez H7 Q7 s7 k7=> ?_) (λH7 s7 e7=> ?_)⟩
  ·obtain⟨_,rfl⟩:=bQ ez
   have kk:=k7 H7 (au.refl _)
   subst ck
   have e:rm n k w k i=(n:Int)*(if i=k then 1 else 0):=by
    unfold rm
    rw[if_pos rfl]
    split<;>simp
   rw[e]at kk
   refine⟨_,rfl,_,rfl,_,rfl,rfl,.inr ⟨_,rfl,_,_,rfl,rfl,?_,?_⟩⟩
   ·exact .inl ⟨by omega,by omega⟩
   ·rcases aC hi with rfl|rfl|rfl<;>rcases aC hk with rfl|rfl|rfl<;>exact kk
  ·have Xl:=s6.trans s7
   refine⟨_,rfl,.inl ⟨rfl,_,aN.of (Xl _ _ eG)⟩,_,rfl,G,_,_,rfl,rfl,Xl _ _ eG,(by rw[List.length_map,lc];exact Nat.lt_of_lt_of_le hk (by decide)),?_⟩
   exact app H7 D7 _ Xl (s6.none Sg) e7
 ·have ck:k≠q0:=λz=>c (decide_eq_true (by rw[z]))
  refine⟨_,rfl,.inl ⟨rfl,_,aN.of (s6 _ _ eG)⟩,_,rfl,G,_,_,rfl,rfl,s6 _ _ eG,(by rw[List.length_map,lc];exact Nat.lt_of_lt_of_le hk (by decide)),?_⟩
  refine app _ D4 _ s6 Xk ?_
  unfold cP
  rw[aA]
  unfold rm
  rw[if_neg ck]
  rcases aC HY with rfl|rfl|rfl<;>rcases aC hk with rfl|rfl|rfl<;>first|(exact absurd rfl ck)|simp
end
end CN
set_option maxHeartbeats 1000000
namespace CN
open PySem L2
section
variable{P:Program}{w:World}{K:PySem.W.Frag}{mg:Str->Option Value}{base:Heap}
def wW:Sp:=λvs H Q _=> ∃(t:Addr) (bs:List Addr) (m:List (List Int)) (n:Nat) (b:Addr) (x:Nat->Int) (c0:Addr) (up:Nat->Int) (r:Addr) (y:Nat->Int),vs=[.ref t,.int (n:Int),.ref b,.ref c0,.ref r]/\Tab H t bs m/\bC m/\Bd 1000 m/\cP H b x/\cP H c0 up/\cP H r y/\(∀i,i<3->(x i).natAbs<2^600)/\(∀i,i<3->(up i).natAbs<2^600)/\(∀i,i<3->(y i).natAbs<2^600)/\0<n/\n<14/\ ∀(bo:Bool) H',(bo=true↔iW m n x up y) ->au H H'->Q (.bl bo) H'
theorem uY(F:fC K mg "_law_is_good" lq gH)(zv:mg "any"=none)(iV:mg "all"=none)(aG:mg "range"=none)(bT:cQ P w K mg base cj 1 "_law_pairing" dY lR):cQ P w K mg base cj 2 "_law_is_good" gH wW:=by
 refine F.ok uR (λvs H Q E h=> ?_) (λf cdv A outer s H vs Q E hr h=> ?_)
 ·obtain⟨t,bs,m,n,b,x,c0,up,r,y,rfl,hT,cN,hB,hx,h0,hy,bx,b0,bY,n0,OQ,q⟩:=h
  rfl
 obtain⟨t,bs,m,n,b,x,c0,up,r,y,rfl,hT,cN,hB,hx,h0,hy,bx,b0,bY,n0,OQ,q⟩:=h
 have hu:=hr.units
 refine⟨_,(mR (@ao _ _ _ _ _ (cV (bg ju (ay cR (aR bT hr rfl aQ (af (pv 0) (af (pv 3) (af (pv 4) ak)))) (ay bO (pv 1) (pv 1))) ah (bf _)) (@aM _ _ _ (aO jt)) cU)
  (@aM _ _ _ (aO (bD (x6 rfl) rfl zv PyProof.Rows.boot_any (af (dP (N2:=["_law_form_here","_law_p","_law_line","_law_up","_law_row"]) (te:=(Fd (Uc K) (bK (iT 1 (qp (bK (tC (.int 3)) gM)) (cg 0) (c7 EX (c7 (rI (λ_ j=>0<j) λi j=> .int (i%j)) (c7 (CO λi j=> .int (i-j)) (c7 (eT K) (aD 6) (aD 0)) (c7 (rI qA λi j=> .int (i*j)) (aD 1) (c7 (eT K) (aD 4) (aD 0)))) (aD 3)) (tC (.int 0)))) gM))) rfl (aZ rfl aG (af (pv 1) ak)) (by kernel_rfl) rfl (λ_ _ _=>by exact dJ (bD (qu rfl) rfl iV PyProof.Rows.boot_all (af (dP (N2:=["_law_c","_law_form_here","_law_p","_law_line","_law_up","_law_row"]) (te:=(c7 EX (c7 (rI (λ_ j=>0<j) λi j=> .int (i%j)) (c7 (CO λi j=> .int (i-j)) (c7 (eT K) (aD 6) (aD 0)) (c7 (rI qA λi j=> .int (i*j)) (aD 1) (c7 (eT K) (aD 4) (aD 0)))) (aD 3)) (tC (.int 0)))) rfl (aZ rfl aG (af ah ak)) (by kernel_rfl) rfl (λ_ _ _=>by exact dJ (f7 j7 (ay cR (ay f6 (aE aq (pv 6) (pv 0) (λ_ _=>rfl)) (ay bO (pv 1) (aE aq (pv 4) (pv 0) (λ_ _=>rfl)))) (pv 3)) ah (bf _)))) ak)))) ak)))))),?_⟩
 have nn:n*n<=169:=Nat.mul_le_mul (show n<=13 by omega) (show n<=13 by omega)
 have e2:(n:Int)*n=((n*n:Nat):Int):=by push_cast;rfl
 have Vu:0<n*n:=Nat.mul_pos n0 n0
 refine⟨_,rfl,_,rfl,_,rfl,t,bs,m,c0,r,up,y,rfl,hT,cN,hB.mono (by decide),h0,hy,(λi hi=>aL (b0 i hi) (by decide)),(λi hi=>aL (bY i hi) (by decide)),_,rfl,_,rfl,_,_,rfl,rfl,.inl ⟨by omega,by omega⟩,_,_,rfl,rfl,(by show(0:Int)<(n:Int)*n;omega),rfl,_,rfl,oS (λc=> ?_) (λc=> ?_)⟩
 ·refine q false H ⟨λz=>(nomatch z),λz=> ?_⟩ (au.refl _)
  exfalso
  simp[z.1]at c
 have hq:aJ m up y%((n:Int)*n)=0:=Classical.byContradiction λz=>c (by simpa using z)
 refine⟨_,rfl,(n:Int),rfl,by omega,by omega,λD hD=>sV (dh (n:=((n:Int)).toNat)) (by simp only[iG,List.length_map,List.length_range];exact Nat.le_of_lt (iY (by omega))) hD (λv=>match v with| .int c=> .bl ((λc:Int=>(decide (V.int ((y 0-c*x 0)%(n:Int))=V.int 0) && (decide (V.int ((y 1-c*x 1)%(n:Int))=V.int 0) && decide (V.int ((y 2-c*x 2)%(n:Int))=V.int 0)))) c)|_=> .gu) (λv hv H1 Q1 s1 k1=> ?_) (λH1 s1 e1=> ?_)⟩
 ·obtain⟨j,hj'⟩:=List.mem_iff_getElem?.mp hv
  obtain⟨hj,rfl⟩:=bQ hj'
  refine⟨3,rfl,by decide,by decide,λD2 pN=>sV (dh (n:=3)) (by decide) pN (λv=>match v with| .int k=> .bl (decide (V.int ((y k.toNat- (j:Int)*x k.toNat)%(n:Int))=V.int 0))|_=> .gu) (λv hv H2 Q2 s2 k2=> ?_) (λH2 s2 e2=> ?_)⟩
  ·obtain⟨k,hk'⟩:=List.mem_iff_getElem?.mp hv
   obtain⟨hk,rfl⟩:=bQ hk'
   have sm:=s1.trans s2
   exact⟨_,rfl,_,rfl,r,_,_,_,rfl,rfl,aN.of (sm _ _ hy),jO y hk,_,rfl,_,rfl,_,rfl,b,_,_,_,rfl,rfl,aN.of (sm _ _ hx),jO x hk,_,_,rfl,rfl,.inl ⟨by omega,by omega⟩,_,_,rfl,rfl,_,rfl,_,_,rfl,rfl,(by show(0:Int)<n;omega),rfl,k2 H2 (au.refl _)⟩
  ·refine⟨D2,[decide (V.int ((y 0- (j:Int)*x 0)%(n:Int))=V.int 0),decide (V.int ((y 1- (j:Int)*x 1)%(n:Int))=V.int 0),decide (V.int ((y 2- (j:Int)*x 2)%(n:Int))=V.int 0)],rfl,aN.of e2,?_⟩
   have k3:=k1 H2 s2
   simp only[List.all_cons,List.all_nil,id,Bool.and_true]
   exact k3
 ·refine⟨D,(List.range n).map (λ (c:Nat)=>(λc:Int=>(decide (V.int ((y 0-c*x 0)%(n:Int))=V.int 0) && (decide (V.int ((y 1-c*x 1)%(n:Int))=V.int 0) && decide (V.int ((y 2-c*x 2)%(n:Int))=V.int 0)))) (c:Int)),rfl,aN.of (by rw[e1,Int.toNat_natCast];simp[iG,Function.comp_def]),?_⟩
  refine q _ H1 ?_ s1
  rw[List.any_eq_true]
  constructor
  ·rintro⟨v,hv,e⟩
   obtain⟨c,hc,rfl⟩:=List.mem_map.mp hv
   refine⟨hq,c,List.mem_range.mp hc,λj hj=> ?_⟩
   simp only[id,Bool.and_eq_true,decide_eq_true_eq,V.int.injEq]at e
   rcases aC hj with rfl|rfl|rfl
   ·exact e.1
   ·exact e.2.1
   ·exact e.2.2
  ·rintro⟨_,c,hc,ec⟩
   refine⟨true,List.mem_map.mpr ⟨c,List.mem_range.mpr hc,?_⟩,rfl⟩
   simp[ec 0 (by decide),ec 1 (by decide),ec 2 (by decide)]
end
end CN
set_option maxHeartbeats 1000000
namespace CN
open PySem L2
section
variable{P:Program}{w:World}{K:PySem.W.Frag}{mg:Str->Option Value}{base:Heap}
def wX:Sp:=λvs H Q _=> ∃(t:Addr) (bs:List Addr) (m:List (List Int)) (n:Nat) (b:Addr) (x:Nat->Int) (r:Addr) (rs:List Addr) (S:List (List Int)),vs=[.ref t,.int (n:Int),.ref b,.ref r]/\Tab H t bs m/\bC m/\Bd 1000 m/\cP H b x/\Tab H r rs S/\bC S/\Bd 600 S/\(∀i,i<3->(x i).natAbs<2^100)/\0<n/\n<14/\(∃k,k<n*n*n/\aH m (d9 n x k)%((n:Int)*n)=0)/\ ∀(k:Nat) (bo:Bool) H',aH m (d9 n x k)%((n:Int)*n)=0->(∀j,j<k-> ¬aH m (d9 n x j)%((n:Int)*n)=0) ->(bo=true↔jL m n x (d9 n x k) S) ->au H H'->Q (.bl bo) H'
theorem uZ(F:fC K mg "_law_is_step" lu gJ)(iV:mg "all"=none)(ni:mg "abs"=none)(iD:cQ P w K mg base cj 3 "_law_lift" iB Ao)(bw:cQ P w K mg base cj 3 "_law_determinant" cI wB)(lC:cQ P w K mg base cj 3 "_law_is_good" gH wW):cQ P w K mg base cj 4 "_law_is_step" gJ wX:=by
 refine F.ok oF (λvs H Q E h=> ?_) (λf cdv A outer s H vs Q E hr h=> ?_)
 ·obtain⟨t,bs,m,n,b,x,r,rs,S,rfl,hT,cN,hB,hx,hR,cS,bS,bx,n0,OQ,UD,q⟩:=h
  rfl
 obtain⟨t,bs,m,n,b,x,r,rs,S,rfl,hT,cN,hB,hx,hR,cS,bS,bx,n0,OQ,UD,q⟩:=h
 have hu:=hr.units
 refine⟨_,(mR (@ao _ _ _ _ _ (aX (i:=4) oF.nd rfl (Or.inr rfl) (aR iD hr rfl aQ (af (pv 0) (af (pv 1) (af (pv 2) ak)))))
  (@ao _ _ _ _ _ (cV (bg ju (bD oR rfl ni PyProof.Rows.boot_abs (af (aR bw hr rfl aQ (af (pv 3) ak)) ak)) (ay bO (ay bO (pv 1) (pv 1)) (pv 1)) (bf _)) (@aM _ _ _ (aO jt)) cU)
  (@aM _ _ _ (aO (bD (qu rfl) rfl iV PyProof.Rows.boot_all (af (dP (N2:=["_law_form_here","_law_p","_law_line","_law_table","_law_up"]) (te:=(mQ wW [] E0 (bK (aD 1) (bK (aD 2) (bK (aD 3) (bK (aD 5) (bK (aD 0) gM))))))) rfl (bN (pv 3)) (by kernel_rfl) rfl (λ_ _ _=>by exact dJ (aR lC hr rfl aQ (af (pv 1) (af (pv 2) (af (pv 3) (af (pv 5) (af (pv 0) ak)))))))) ak))))))),?_⟩
 have nn:n*n<=169:=Nat.mul_le_mul (show n<=13 by omega) (show n<=13 by omega)
 have Vu:0<n*n:=Nat.mul_pos n0 n0
 have YK:n*n*n<=169*13:=Nat.mul_le_mul nn (show n<=13 by omega)
 have e2:(n:Int)*n=((n*n:Nat):Int):=by push_cast;rfl
 have e3:(n:Int)*n*n=((n*n*n:Nat):Int):=by push_cast;rfl
 refine⟨_,rfl,_,rfl,_,rfl,t,bs,m,n,b,x,rfl,hT,cN,hB,n0,OQ,hx,(λi hi=>aL (bx i hi) (by decide)),UD,λk c0 H1 hk ck fk s1 fc ec=> ?_⟩
 refine⟨_,rfl,r,rs,S,rfl,hR.same s1,cS,bS.mono (by decide),_,rfl,_,rfl,_,rfl,_,_,rfl,rfl,.inl ⟨by omega,by omega⟩,_,rfl,_,_,rfl,rfl,.inl ⟨by omega,by omega⟩,rfl,_,rfl,oS (λc=> ?_) (λc=> ?_)⟩
 ·refine q k false H1 ck fk ⟨λz=>(nomatch z),λz=> ?_⟩ s1
  exfalso
  have h1:=z.1
  have h2:¬(V.int (if aK S<0 then-(aK S)else aK S)=V.int ((n:Int)*n*n)):=by simpa using c
  apply h2
  congr 1
  split<;>omega
 have dS:aK S=(n:Int)*n*n∨aK S= -((n:Int)*n*n):=by
  have h2:V.int (if aK S<0 then-(aK S)else aK S)=V.int ((n:Int)*n*n):=Classical.byContradiction λz=>c (by simpa using z)
  injection h2 with h2
  split at h2<;>omega
 have l3:(rs.map V.ref).length=3:=by rw[List.length_map,<-hR.2.length,cS.1]
 have bv:∀i,i<3->(d9 n x k i).natAbs<2^600:=λi hi=>by
  have dg:digit n k i<=k:=by
   unfold digit
   split
   ·exact Nat.div_le_self _ _
   ·split
    ·exact Nat.le_trans (Nat.mod_le _ _) (Nat.div_le_self _ _)
    ·exact Nat.mod_le _ _
  have c1:((digit n k i:Int)*n).natAbs<2^(20+4):=dz (by omega) (by omega)
  exact aL (oZ (aL (bx i hi) (show 100<=100 by decide)) (aL c1 (by decide))) (by decide)
 obtain⟨Xe,UK⟩:=vE (hR.same s1) cS.2
 refine⟨_,rfl,r,rfl,⟨_,aN.of (hR.same s1).1⟩,λD hD=>sV (bU (aN.of (hR.same s1).1)) (by rw[l3];decide) hD (fB H1 (uK m n x (d9 n x k))) (λv hv H2 Q2 s2 k2=> ?_) (λH2 s2 e4=> ?_)⟩
 ·obtain⟨d,UL,rfl⟩:=List.mem_map.mp hv
  have sm:=s1.trans s2
  have br:=Gg cS bS _ (show gK H1 d∈S by rw[<-UK];exact List.mem_map_of_mem UL)
  refine⟨_,rfl,_,rfl,_,rfl,_,rfl,_,rfl,t,bs,m,n,b,x,c0,d9 n x k,d,av (gK H1 d),rfl,hT.same sm,cN,hB,sm _ _ hx,s2 _ _ ec,s2 _ _ (Xe d UL).1,(λi hi=>aL (bx i hi) (by decide)),bv,(λi hi=>aL (br i hi) (by decide)),n0,OQ,λb' H3 hb' s3=> ?_⟩
  have:b'=uK m n x (d9 n x k) (gK H1 d):=by rw[Bool.eq_iff_iff,hb',ql]
  rw[this]
  exact k2 H3 s3
 ·rw[RS,UK]at e4
  exact⟨D,S.map (uK m n x (d9 n x k)),rfl,aN.of e4,q k _ H2 ck fk (Cg cS dS) (s1.trans s2)⟩
end
end CN
namespace Aw
open PySem PyProof.Rows
section
variable{prog:Program}{w:World}{A:Around}{E:Value->Shared->Prop}{s:Shared}{κ:SortKind}{K:Keyed->Int}{D:Keyed->Prop}{st:SortSt}
theorem Pk(hL:Ea prog w A E s κ K D){Q:Unit->SortSt->Prop}(B:SB κ D st)(hp:pendingOf st= #[])(h64:(arrOf st).size<64)
  (hq:∀st',(arrOf st').Perm (arrOf st) ->failedOf st'=none->So K (arrOf st') 0 (arrOf st).size->Q () st'):wpS (model prog w) A E s sortRuns' Q st:=by
 rw[RN]
 refine wpS_bind (wpS_get ?_)
 dsimp only
 have mr:minRun' (arrOf st).size (arrOf st).size 0=(arrOf st).size:=by
  cases h:(arrOf st).size with
  |zero=>rfl
  |succ k=>
   rw[minRun'_succ,if_pos (by omega)]
 rw[mr]
 refine wpS_bind (wpS_mono (wpS_forRange (I:=λx c s1=>(x=0/\c=(none,0)/\s1=st)∨(c=(none,(arrOf st).size)/\(arrOf s1).Perm (arrOf st)/\failedOf s1=none/\So K (arrOf s1) 0 (arrOf st).size/\(pendingOf s1).size=1))
  (Q:=λc s1=>c=(none,(arrOf st).size)/\(arrOf s1).Perm (arrOf st)/\failedOf s1=none/\So K (arrOf s1) 0 (arrOf st).size/\(pendingOf s1).size<=1) ?_ ?_ (.inl ⟨rfl,rfl,rfl⟩)) ?_)
 ·rintro x c s1 _ hx (⟨rfl,rfl,rfl⟩|⟨rfl,h⟩)
  ·dsimp only
   refine Ay (λc=>by omega) (λ_=> ?_)
   refine wpS_bind (w_count hL B (by omega) (by omega) λn s2 S2 n1 n2 Xm=> ?_)
   dsimp only
   have sz2:=S2.size
   have note:∀s3:SortSt,SC 0 s1 s3->So K (arrOf s3) 0 (arrOf s1).size-> ∀m,m=(arrOf s1).size-> ∀Q:ForInStep (Option Unit×Nat) ->SortSt->Prop,(∀s5,(arrOf s5).Perm (arrOf s1) ->failedOf s5=none->So K (arrOf s5) 0 (arrOf s1).size->(pendingOf s5).size=1->Q (.yield (none,(arrOf s1).size)) s5) ->wpS (model prog w) A E s (do
     modify λy=>setPending y ((pendingOf y).push (0,m,0))
     pure (ForInStep.yield ((none,0+m):Option Unit×Nat))) Q s3:=λs3 S3 VA m em Q hQ=>by
    subst em
    rw[Nat.zero_add]
    refine wpS_bind (wpS_modify (wpS_pure (hQ _ S3.perm (S3.failed.trans B.failed) VA ?_)))
    show((pendingOf s3).push _).size=1
    rw[S3.pend,hp]
    rfl
   by_cases hm:n<(arrOf s1).size
   ·rw[if_pos hm]
    refine wpS_bind (wpS_lift (wpAny_rule ⟨rfl,?_⟩))
    refine wpS_bind (UH hL (B.sc S2) (by omega) (by omega) Xm λs3 S3 VA=> ?_)
    simp only[Bool.not_true,Bool.false_eq_true,if_false]
    refine wpS_bind (wpS_get ?_)
    rw[(S2.trans S3).pend,hp]
    have em:min ((arrOf s1).size-0) (arrOf s1).size=(arrOf s1).size:=by omega
    rw[em]at VA
    exact note s3 (S2.trans S3) VA _ em _ λs5 p f o q=> .inr ⟨rfl,p,f,o,q⟩
   ·rw[if_neg hm]
    have en:n=(arrOf s1).size:=by omega
    rw[en]at Xm
    refine wpS_bind (wpS_get ?_)
    rw[S2.pend,hp]
    exact note s2 S2 Xm _ en _ λs5 p f o q=> .inr ⟨rfl,p,f,o,q⟩
  ·dsimp only
   exact Ay (λ_=>wpS_pure ⟨rfl,h.1,h.2.1,h.2.2.1,Nat.le_of_eq h.2.2.2⟩) (λc=>absurd (Nat.le_refl _) c)
 ·rintro c s1 (⟨h0,rfl,rfl⟩|⟨rfl,h⟩)
  ·have z:(arrOf s1).size=0:=by omega
   rw[z]
   exact⟨rfl,Array.Perm.refl _,B.failed,λi j _ h=>absurd h (Nat.not_lt_zero _),by rw[hp];decide⟩
  ·exact⟨rfl,h.1,h.2.1,h.2.2.1,Nat.le_of_eq h.2.2.2⟩
 ·rintro c s1 ⟨rfl,h1,h2,h3,h4⟩
  dsimp only
  refine wpS_bind (wpS_mono (wpS_forRange (I:=λ_ c s2=>c=(none,())/\s2=s1) (Q:=λc s2=>c=(none,())/\s2=s1) ?_ (λ_ _ h=>h) ⟨rfl,rfl⟩) ?_)
  ·rintro x c s2 _ hx ⟨rfl,rfl⟩
   refine wpS_bind (wpS_get ?_)
   exact Ay (λc=>wpS_pure ⟨rfl,rfl⟩) (λc=>absurd h4 c)
  ·rintro c s2 ⟨rfl,rfl⟩
   exact wpS_pure (hq _ h1 h2 h3)
end
end Aw
namespace L2
open PySem PySem.Spec PyProof.Rows PySem.Calls Aw
section
variable{prog:Program}{w:World}{A:Around}{E:Value->Shared->Prop}{s:Shared}
theorem Pn{a kS:Addr}{P:PySem.Fin->Shared->Prop}{kf:V->Int}{ys:List V}{us:List Value}{keys:Array Value}{e1 e:Nat}(hk:rX kf ys us keys.toList)(hn:kS≠a)(hz:us.length<=sizeLine)(h64:us.length<64)
  (ha:s.heap.get? a=some (seqObj "list" #[] e1))(hS:s.heap.get? kS=some (seqObj "list" keys e))
  (h:∀(zs:List V) (out:List Value) h' tk,zs.Perm ys->zs.Pairwise (λx y=>kf x<=kf y) ->Vals zs out->out.length=us.length->(∀b o,b≠a->b≠kS->s.heap.get? b=some o->h'.get? b=some o) ->(∃c,h'.get? a=some (seqObj "list" out.toArray c)) ->(∃o,h'.get? kS=some o) ->
   P (.done (.ret .none)) {s with heap:=h',toks:=tk}):wpAny (model prog w) A (ksk_end a false us.toArray e1 (.ref kS) keys) P E s:=by
 have kl:keys.toList.length=us.length:=by
  have:∀{ys:List V} {us ks:List Value},rX kf ys us ks->ks.length=us.length:=λh=>by
   induction h with
   |nil=>rfl
   |cons t r _ ih=>simp[ih]
  exact this hk
 have kz:keys.size=us.length:=by rw[<-kl];exact(Array.length_toList ..).symm
 have YT:(keys.zip us.toArray).size=us.length:=by rw[Array.size_zip,kz,List.size_toArray,Nat.min_self]
 have zl:(keys.zip us.toArray).toList=keys.toList.zip us:=ksk_zip keys us
 have tail:∀st:SortSt,(arrOf st).Perm (keys.zip us.toArray) ->failedOf st=none->So (λp=>numOf p.1) (arrOf st) 0 us.length->wpAny (model prog w) A (ksk_tail a false e1 (.ref kS) st) P E s:=by
  intro st hp hf hs
  have pl:(arrOf st).toList.Perm (keys.toList.zip us):=by rw[<-zl];exact Array.perm_iff_toList_perm.mp hp
  obtain⟨tr,t1,t2,t3⟩:=hk.out
  obtain⟨Sz,p',e'⟩:=zj pl tr t1
  have len:(arrOf st).toList.length=us.length:=by rw[pl.length_eq,List.length_zip,kl,Nat.min_self]
  have oz:((arrOf st).map (·.2)).size=us.length:=by rw[Array.size_map,<-len,Array.length_toList]
  have oe:((arrOf st).map (·.2)).toList=Sz.map λt=>t.1.2:=by
   rw[Array.toList_map,e',List.map_map]
   rfl
  unfold ksk_tail
  try dsimp only
  generalize(arrOf st).map (·.2)=ov at oz oe ⊢
  refine wpAny_bind (listUpdate_at hS rfl ?_ (by omega) (Nat.zero_le _))
  refine wpAny_bind (wpAny_letGo ?_)
  have YU:=Heap.SameBut.update s.heap kS (Obj.mapSeq λ_=>(#[]:Array Value))
  have ha1:(s.heap.update kS (Obj.mapSeq λ_=>(#[]:Array Value))).get? a=some (seqObj "list" #[] e1):=(YU.2 a hn.symm).trans ha
  have Sh:=Heap.SameBut.update (s.heap.update kS (Obj.mapSeq λ_=>(#[]:Array Value))) a (Obj.mapSeq λ_=>ov)
  refine wpAny_bind (seqEpoch_at ha1 rfl ?_)
  refine wpAny_bind (listUpdate_at ha1 rfl ?_ (Nat.zero_le _) (Nat.le_trans (Nat.le_of_eq oz) (Nat.le_succ_of_le hz)))
  rw[hf]
  simp only[bne_self_eq_false,Bool.false_eq_true,if_false]
  refine wpAny_pure (h (Sz.map Prod.snd) (Sz.map λt=>t.1.2) _ _ (by rw[t2];exact p'.map _) ?_ ?_ ?_ (λb o h1 h2 q=> ?_) ?_ ?_)
  ·have h2:=(RM (K:=λp=>numOf p.1) (a:=arrOf st) (lo:=0) (n:=us.length) (by rw[Nat.zero_add,<-len,Array.length_toList];exact Nat.le_refl _)).mp hs
   have e2:sl (arrOf st) 0 us.length=(arrOf st).toList:=by
    show((arrOf st).toList.drop 0).take us.length=_
    rw[List.drop_zero,List.take_of_length_le (by omega)]
   rw[e2,e',List.pairwise_map]at h2
   rw[List.pairwise_map]
   refine h2.imp_of_mem λ {x y} mx my q=> ?_
   obtain⟨_,k1,q1⟩:=t3 x (p'.mem_iff.mp mx)
   obtain⟨_,k2,q2⟩:=t3 y (p'.mem_iff.mp my)
   rw[q1,q2]at q
   exact q
  ·have:∀l:List (Keyed×V),(∀t∈l,RelV t.2 t.1.2) ->Vals (l.map Prod.snd) (l.map λt=>t.1.2):=λl=>by
    induction l with
    |nil=>intro _;exact .nil
    |cons t l ih=>intro hl;exact .cons (hl t List.mem_cons_self) (ih λz hz=>hl z (List.mem_cons_of_mem _ hz))
   exact this Sz λt ht=>(t3 t (p'.mem_iff.mp ht)).1
  ·rw[<-oe,<-oz,Array.length_toList]
  ·exact(Sh.2 b h1).trans ((YU.2 b h2).trans q)
  ·rw[<-oe,Array.toArray_toList]
   exact⟨_,get?_update_seq ha1 λ_=>ov⟩
  ·exact⟨_,(Sh.2 kS hn).trans (get?_update_seq hS λ_=> #[])⟩
 unfold ksk_end
 try dsimp only
 simp only[Bool.false_eq_true,if_false]
 by_cases h2:us.toArray.size<2
 ·rw[if_pos h2,if_pos h2]
  refine wpAny_bind (wpAny_pure ?_)
  rw[StateT.run_pure]
  refine wpAny_bind (wpAny_pure ?_)
  try dsimp only
  refine tail (SortSt.mk' general' (keys.zip us.toArray) #[] 7 none) (Array.Perm.refl _) rfl (λi j hij hj=> ?_)
  rw[List.size_toArray]at h2
  have:i=j:=by omega
  subst this
  exact Int.le_refl _
 ·rw[if_neg h2,if_neg h2]
  rw[List.size_toArray]at h2
  rw[ksk_kind hk.ints (by omega)]
  refine wpAny_bind (wpAny_pure ?_)
  have R:Aw.SB oneType' (λp=> ∃n t,p.1= .int n t) (SortSt.mk' oneType' (keys.zip us.toArray) #[] 7 none):=by
   refine⟨rfl,rfl,λp hp=> ?_⟩
   have xR:p∈(keys.zip us.toArray).toList:=hp
   rw[zl]at xR
   exact hk.ints.all p.1 (List.of_mem_zip (a:=p.1) (b:=p.2) xR).1
  refine wpAny_bind (wpAny_mono (Pk Ib (Q:=λ_ st'=>(arrOf st').Perm (keys.zip us.toArray)/\failedOf st'=none/\So (λp=>numOf p.1) (arrOf st') 0 (keys.zip us.toArray).size) R rfl (show(keys.zip us.toArray).size<64 by rw[YT];exact h64) λst' a1 a2 a3=>⟨a1,a2,a3⟩) ?_ λ_ _ e=>e)
  rintro⟨⟨⟩,st'⟩ s' ⟨rfl,hp,hf,hs⟩
  rw[YT]at hs
  try dsimp only
  exact tail st' hp hf hs
end
section
variable{X:Cx}{pins:List (Addr×Obj)}{σ:St}{H:Hp}{s:Shared}{B:Around}{a:Addr}{f:Value}{kf:V->Int}{ys:List V}{us:List Value}
theorem Iq(I:Inv X pins σ H s)(fa:fO X pins H a){n:Nat}(ha:s.heap.get? a=some (seqObj "list" us.toArray n))(r:Vals ys us)(hz:us.length<=sizeLine)(h64:us.length<64){E:Value->Shared->Prop}{P:PySem.Fin->Shared->Prop}
  (turn:∀(rq:List (Addr×Obj)) (v:V) (Hi:Hp) (u:Value) (si:Shared),v∈ys->au H Hi->RelV v u->Inv X rq σ Hi si->wpAny (model X.prog X.w) B (call f [u]) (EP X rq σ (λv' H'=>v'= .int (kf v)/\au Hi H')) (λ_ _=>False) si)
  (done:∀(Hn:Hp) (s':Shared) (zs:List V),Inv X pins σ (upd Hn a (.lst zs)) s'->au H Hn->Hn a=none->zs.Perm ys->zs.Pairwise (λx y=>kf x<=kf y) ->P (.done (.ret .none)) s'):
  wpAny (model X.prog X.w) B (ksk_tree a f false) P E s:=by
 have rl:=r.length
 unfold ksk_tree
 refine wpAny_bind (listItems_at ha rfl ?_)
 refine wpAny_bind (listUpdate_at ha rfl ?_ (by simpa using hz) (Nat.zero_le _))
 obtain⟨e1,ha1⟩:∃e1,(s.heap.update a (Obj.mapSeq λ_=> #[])).get? a=some (seqObj "list" #[] e1):=⟨_,get?_update_seq ha (λ_=> #[])⟩
 refine wpAny_bind (seqEpoch_at ha1 rfl ?_)
 refine wpAny_bind (wpAny_newTuple ?_ (by simpa using hz))
 refine wpAny_bind (wpAny_newList ?_ (Nat.zero_le _))
 refine wpAny_holding ?_
 have I1:Inv X pins σ H {s with heap:=s.heap.update a (Obj.mapSeq λ_=> #[])}:=I.rG (ch:=[a]) (t':=s.toks) (λb o hb e=>(Heap.get?_update_ne _ _ _ _ (by simpa using hb)).trans e) (λb hb=>by rw[List.mem_singleton.mp hb];exact fa)
 have I2:Inv X pins σ H {s with heap:=((s.heap.update a (Obj.mapSeq λ_=> #[])).push (seqObj "tuple" us.toArray 0))}:=I1.kept (t':=s.toks) λb o e=>Heap.get?_push_of_some _ e
 have I3:Inv X pins σ H {s with heap:=((s.heap.update a (Obj.mapSeq λ_=> #[])).push (seqObj "tuple" us.toArray 0)).push (seqObj "list" #[] 0)}:=I2.kept (t':=s.toks) λb o e=>Heap.get?_push_of_some _ e
 have fk:fO X pins H ((s.heap.update a (Obj.mapSeq λ_=> #[])).push (seqObj "tuple" us.toArray 0)).objs.size:=I2.CW (Nat.le_refl _) I2.fresh
 have YV:(((s.heap.update a (Obj.mapSeq λ_=> #[])).push (seqObj "tuple" us.toArray 0)).push (seqObj "list" #[] 0)).get? a=some (seqObj "list" #[] e1):=Heap.get?_push_of_some _ (Heap.get?_push_of_some _ ha1)
 have PN:(((s.heap.update a (Obj.mapSeq λ_=> #[])).push (seqObj "tuple" us.toArray 0)).push (seqObj "list" #[] 0)).get? ((s.heap.update a (Obj.mapSeq λ_=> #[])).push (seqObj "tuple" us.toArray 0)).objs.size=some (seqObj "list" #[] 0):=Heap.get?_push_size _ rfl
 have Xn:((s.heap.update a (Obj.mapSeq λ_=> #[])).push (seqObj "tuple" us.toArray 0)).objs.size≠a:=by
  have:=Heap.lt_size ha
  rw[size_push',Heap.size_update]
  exact Nat.ne_of_gt (Nat.lt_succ_of_lt this)
 generalize((s.heap.update a (Obj.mapSeq λ_=> #[])).push (seqObj "tuple" us.toArray 0)).objs.size=kS at fk PN Xn ⊢
 generalize((s.heap.update a (Obj.mapSeq λ_=> #[])).push (seqObj "tuple" us.toArray 0)).push (seqObj "list" #[] 0)=h3 at I3 YV PN ⊢
 show wpAny _ B (ksk_rest a f false us.toArray e1 (.ref kS)) P E {s with heap:=h3}
 have nc:∀(xs:Array Value) (m:Nat) (v:Option Value),(seqObj "list" xs m).data≠ .cell v:=λxs m v z=>nomatch z
 have I4:Inv X (FZ pins a e1 kS #[] 0) σ H {s with heap:=h3}:=I3.j9 λp hp=>by
  rcases List.mem_append.mp hp with hp|hp
  ·exact I3.pin p (List.mem_append_right _ hp)
  ·rcases List.mem_cons.mp hp with rfl|hp
   ·exact Az fa YV (nc _ _)
   ·rw[List.mem_singleton.mp hp]
    exact Az fk PN (nc _ _)
 unfold ksk_rest
 refine wpAny_bind (wpAny_rule ?_)
 first
  |rw[List.forIn_toArray]
  |(rw[<-Array.forIn_toList];simp only[List.toList_toArray])
 refine wpAny_bind (ksk_fold (λi s'=> ∃Hi ks e,Inv X (FZ pins a e1 kS ks e) σ Hi s'/\au H Hi/\rX kf (ys.take i) (us.take i) ks.toList) us 0 {s with heap:=h3} ⟨H, #[],0,I4,au.refl _,by simpa using rX.nil⟩ ?_ ?_)
 ·rintro j x s' hx ⟨Hi,ks,e,J,sm,hk⟩
  simp only[Nat.zero_add]at hk ⊢
  obtain⟨v,hv,rv⟩:=Vals.at r hx
  have hj:j<us.length:=(List.getElem?_eq_some_iff.mp hx).1
  refine wpAny_bind (wpAny_attempt (wpAny_mono (turn _ v Hi x s' (List.mem_of_getElem? hv) sm rv J) (λu s2 he=> ?_) λ_ _ hF=>hF.elim))
  obtain⟨v',H',J',ru,rfl,sm'⟩:=he
  obtain⟨t,rfl⟩:∃t,u= .int (kf v) t:=ru
  have pa:=J'.pin (a,seqObj "list" #[] e1) (by simp)
  have pk:=J'.pin (kS,seqObj "list" ks e) (by simp)
  have kl:ks.size=j:=by
   have h1:=hk.ints.length
   rw[Array.length_toList,List.length_map,List.length_take,rl]at h1
   omega
  try dsimp only
  refine wpAny_bind (listUpdate_at pk.1 rfl ?_ (by omega) (Nat.le_trans (Nat.le_of_eq (Array.size_push ..)) (by omega)))
  obtain⟨c2,hc2⟩:∃c2,(s2.heap.update kS (Obj.mapSeq (·.push (.int (kf v) t)))).get? kS=some (seqObj "list" (ks.push (.int (kf v) t)) c2):=⟨_,get?_update_seq pk.1 (·.push (.int (kf v) t))⟩
  have ya:ys.take (j+1)=ys.take j++ [v]:=by rw[List.take_add_one,hv];simp
  have ua:us.take (j+1)=us.take j++ [x]:=by rw[List.take_add_one,hx];simp
  have ea:(ks.push (Value.int (kf v) t)).toList=ks.toList++ [Value.int (kf v) t]:=by simp
  have J1:Inv X pins σ H' s2:=J'.j9 λp hp=>J'.pin p (List.mem_append_right _ (List.mem_append_left _ hp))
  have J2:Inv X pins σ H' {s2 with heap:=s2.heap.update kS (Obj.mapSeq (·.push (.int (kf v) t)))}:=J1.rG (ch:=[kS]) (t':=s2.toks) (λb o hb e=>(Heap.get?_update_ne _ _ _ _ (by simpa using hb)).trans e) (λb hb=>by rw[List.mem_singleton.mp hb];exact zk fk pk.2.1)
  refine wpAny_pure ⟨rfl,H',ks.push (.int (kf v) t),c2,J2.j9 λp hp=> ?_,sm.trans sm',by rw[ya,ua,ea];exact hk.snoc t rv⟩
  rcases List.mem_append.mp hp with hp|hp
  ·exact J2.pin p (List.mem_append_right _ hp)
  ·rcases List.mem_cons.mp hp with rfl|hp
   ·exact Az (zk fa pa.2.1) ((Heap.get?_update_ne _ _ _ _ Xn.symm).trans pa.1) (nc _ _)
   ·rw[List.mem_singleton.mp hp]
    exact Az (zk fk pk.2.1) hc2 (nc _ _)
 ·rintro s' ⟨Hi,ks,e,J,sm,hk⟩
  rw[Nat.zero_add,List.take_of_length_le (Nat.le_of_eq rl),List.take_of_length_le (Nat.le_refl _)]at hk
  have pa:=J.pin (a,seqObj "list" #[] e1) (by simp)
  have pk:=J.pin (kS,seqObj "list" ks e) (by simp)
  have J1:Inv X pins σ Hi s':=J.j9 λp hp=>J.pin p (List.mem_append_right _ (List.mem_append_left _ hp))
  try dsimp only
  refine wpAny_bind (listItems_at pk.1 rfl ?_)
  refine Pn hk Xn hz h64 pa.1 pk.1 λzs out h' tk pz so vo ol keep hA hS=> ?_
  have J2:Inv X pins σ Hi {s' with heap:=h',toks:=tk}:=J1.rG (ch:=[a,kS]) (t':=tk) (λb o hb e=>keep b o (λz=>hb (by simp[z])) (λz=>hb (by simp[z])) e) (λb hb=>by
   rcases List.mem_cons.mp hb with rfl|hb
   ·exact zk fa pa.2.1
   ·rw[List.mem_singleton.mp hb];exact zk fk pk.2.1)
  obtain⟨c,hc⟩:=hA
  exact done Hi _ zs (J2.Qa (zk fa pa.2.1) ⟨by rw[vo.length,ol];exact hz,out,c,vo,hc⟩) sm pa.2.1 pz so
theorem Cn{l:Addr}{fa:Addr}(I:Inv X pins σ H s)(hq:aN X.K H l ys)(h64:ys.length<64){Q:VK}
  (turn:∀(rq:List (Addr×Obj)) (v:V) (Hi:Hp) (u:Value) (si:Shared),v∈ys->au H Hi->RelV v u->Inv X rq σ Hi si->wpAny (model X.prog X.w) X.A.in1.in1 (call (.ref fa) [u]) (EP X rq σ (λv' H'=>v'= .int (kf v)/\au Hi H')) (λ_ _=>False) si)
  (done:∀(Hn:Hp) (zs:List V),au H Hn->zs.Perm ys->zs.Pairwise (λx y=>kf x<=kf y) -> ∀p,Hn p=none->Q (.ref p) (upd Hn p (.lst zs))):
  wpAny (model X.prog X.w) X.A (call (.builtin "sorted") [.ref l] [(Str.ofString "key",.ref fa)]) (EP X pins σ Q) X.xe s:=by
 obtain⟨us,r,pl,hz⟩:=I.list hq
 have hz':us.length<=sizeLine:=by rw[<-r.length];exact hz
 refine call_function_entry_kw kind_sorted plain_sorted entry_sorted (ksk_s1 _ _) ?_
 unfold Builtin.«sorted»
 refine wpAny_bind (m:=checkCount "sorted" 1 1 _) (wpAny_pure ?_)
 refine wpAny_bind (collect_list pl.isList ?_ hz')
 refine wpAny_bind (wpAny_newList ?_ (by simpa using hz'))
 have z1:((s.heap.push (seqObj "list" #[] 0)).update s.heap.objs.size (Obj.mapSeq (· ++us.toArray))).objs.size=s.heap.objs.size+1:=by
  rw[Heap.size_update,size_push']
 generalize hg:((s.heap.push (seqObj "list" #[] 0)).update s.heap.objs.size (Obj.mapSeq (· ++us.toArray)))=h1 at z1
 have keep:∀b o,s.heap.get? b=some o->(h1.push (seqObj "list" us.toArray 0)).get? b=some o:=λb o e=>by
  have lb:=Heap.lt_size e
  refine Heap.get?_push_of_some _ ?_
  rw[<-hg,Heap.get?_update_ne _ _ _ _ (Nat.ne_of_lt lb)]
  exact Heap.get?_push_of_some _ e
 have Vb:(h1.push (seqObj "list" us.toArray 0)).get? (s.heap.objs.size+1)=some (seqObj "list" us.toArray 0):=by
  rw[<-z1];exact Heap.get?_push_size _ rfl
 have I1:Inv X pins σ H {s with heap:=h1.push (seqObj "list" us.toArray 0)}:=I.kept (t':=s.toks) keep
 have fa1:fO X pins H (s.heap.objs.size+1):=I.CW (Nat.le_succ _) (I.hok.fresh (Nat.le_succ _))
 show wpAny _ _ _ _ _ {s with heap:=h1.push (seqObj "list" us.toArray 0)}
 rw[z1]
 refine wpAny_bind (wpAny_holding (wpAny_call_entry_kw slot_list_sort ⟨_,Vb,rfl⟩ entry_list_sort ?_ (ksk_l1 _ _)))
 show wpAny (model X.prog X.w) X.A.in1.in1 (Builtin.«list.sort» ⟨[.ref (s.heap.objs.size+1)],[(Str.ofString "key",.ref fa)]⟩) _ _ _
 rw[ksk_t1]
 refine Iq I1 fa1 Vb r hz' (by rw[<-r.length];exact h64) turn λHn s' zs J sm hn pz so=>⟨_,rfl,?_⟩
 exact wpAny_pure ⟨_,rfl,.ref (s.heap.objs.size+1),_,J,rfl,done Hn zs sm pz so _ hn⟩
end
def Gn(tb:TE)(K:PySem.W.Frag)(P:Addr)(σ:St)(x:V)(H1:Hp)(Q:VK):Prop:=∃(l:Addr) (ys:List V) (kf:V->Int),x= .ref l/\aN K H1 l ys/\ys.length<64/\H1 P=some .EU/\
 (∀v∈ys,∀Hi,au H1 Hi->tb (some v::σ) Hi λv' H'=>v'= .int (kf v)/\au Hi H')/\
 ∀(Hn:Hp) (zs:List V),au H1 Hn->zs.Perm ys->zs.Pairwise (λx y=>kf x<=kf y) -> ∀p,Hn p=none->Q (.ref p) (upd Hn p (.lst zs))
def Po(tb:TE)(K:PySem.W.Frag)(P:Addr)(te:TE):TE:=λσ H Q=>te σ H λx H1=>Gn tb K P σ x H1 Q
section
variable{X:Cx}{P:Addr}{te tb:TE}{e body:Expr}{args:Arguments}{sc:Scope}{x:Str}{N2:List Str}{p pos Mq kpos:Pos}
theorem Ir(hc:X.calm=true){k:Nat}(hr:gw (k+3) X.A)(cd:gx X.K X.env.code P)(bm:BM X.mg X.base)(Bt:Gl X "sorted")(hm:X.mg "sorted"=none)(he:PE X e te)(hB:UI sc X.env.scope.names [x] N2 X.N=true)
  (hbind:∀qual cl pm c ctv u,bindArgs (PySem.W.kla_fn "<lambda>" qual args body sc cl pm c ctv) ⟨[u],[]⟩=pure [(x,u)])
  (hbody:∀q f cd s H,PE (X.lam X.A.in1.in1 sc ([x]++N2) q f cd s H) body tb)
  (hdef:defaultsOf args X.env=([],[]):=by rfl)
  (hkw:keywordEach [⟨some "key",.Lambda args body sc Mq,kpos⟩] X.env=[(some (Str.ofString "key"),eval (.Lambda args body sc Mq) X.env)]:=by rfl)
  (hse:starEach [e] X.env=(false,eval e X.env)::starEach [] X.env:=by rfl)(hst:backTo pos (starEach [e] X.env)=(false,eval e X.env)::backTo pos (starEach [] X.env):=by rfl)
  (hpl:(backTo pos (starEach [e] X.env)).any (·.1)=false:=by rfl):PE X (.Call (.Name "sorted" p) [e] [⟨some "key",.Lambda args body sc Mq,kpos⟩] pos) (Po tb X.K P te):=by
 intro pins s σ H Q I h
 unfold UI at hB
 simp only[Bool.and_eq_true]at hB
 obtain⟨⟨⟨⟨⟨h1,h2⟩,h3⟩,h4⟩,h5⟩,h6⟩:=hB
 have Bk:=jN h1
 have nc:∀y∈sc.names,y.2≠ .cell:=λy hy=>by
  have q:=List.all_eq_true.mp h5 y hy
  simpa using q
 have hx:sc.names.lookup x=some .local:=by
  have q:=List.all_eq_true.mp h6 x (by simp)
  simpa using q
 refine wpAny_Call_Name_kw (kG I Bt hm PyProof.Rows.boot_sorted ?_)
 refine PyProof.Rows.callWith_kw (fZ ((af he ak hse) pos pins s σ H (λvs H1=>match vs with| [v]=>Gn tb X.K P σ v H1 Q|_=>False) I h) λus s1 ⟨vs,H1,I1,r,q⟩=> ?_) hst hpl
 match vs,r,q with
 | [v],r,q=>
  obtain⟨l,ys,kf,rfl,hq,h64,hP,step,fin⟩:=q
  obtain⟨u,rfl,ru⟩:=vals1 r
  cases ru
  show wpAny _ _ (evalAll [do let v<-eval (.Lambda args body sc Mq) X.env;standAt pos;pure v]) _ _ s1
  refine wpAny_evalAll_cons (wpAny_bind (Ia I1 cd hP bm Bk hdef λf H2 s2 I2 sm fr L=>wpAny_bind (wpAny_standAt (wpAny_pure (wpAny_evalAll_nil ?_)))))
  refine Cn (kf:=kf) I2 (Mp hq sm) h64 (λrq v Hi u si hv YW rv J=> ?_) λHn zs smn pz so=>fin Hn zs (sm.trans smn) pz so
  exact OW J (L.same YW) Bk (by simpa using h2) (by simpa using h3) (by simpa using h4) nc hx hbind J.ok.frames (J.ok.hd hc) hr.depth (λq cd=>hbody q f cd si Hi) rv (step v hv Hi (sm.trans YW))
end
end L2
set_option maxHeartbeats 1000000
namespace CN
open PySem L2
section
variable{P:Program}{w:World}{K:PySem.W.Frag}{mg:Str->Option Value}{base:Heap}
def rY:Nat->Nat
 |0=>256
 |1=>48*(256*(256*256)*256)
 |_=>48*((48*(256*(256*256)*256))*((48*(256*(256*256)*256))*(48*(256*(256*256)*256)))*(48*(256*(256*256)*256)))
def Co(T0:Addr):Sp:=λvs H Q _=> ∃(r:Addr) (as:List Addr) (R T:List (List Int)),vs=[.ref r]/\Tab H r as R/\(∀x∈R,x.length=3)/\R.length=4/\Ent R 256/\qi T R/\aK T≠0/\H T0=some .EU/\
 ∀F fs l H',au H H'->H l=none->Tab H' l fs F->bC F->Av F R->Ent F (rY 2) ->Q (.ref l) H'
theorem wY{b7:Addr}(F:mW K mg "_law_stairs" mw ic b7)(bm:BM mg base)(eZ:mg "list"=none)(aG:mg "range"=none)(gA:mg "len"=none)(wZ:mg "sorted"=none)(ni:mg "abs"=none)(oH:mg "zip"=none):cQ P w K mg base cj 6 "_law_stairs" ic (Co b7):=by
 refine F.ok cJ (λvs H Q E h=> ?_) (λf cdv A outer s H vs Q E cd hr h=> ?_)
 ·obtain⟨r,as,R,T,rfl,hT,h3,h4,hE,bs,nd,hC,q⟩:=h
  rfl
 obtain⟨r,as,R,T,rfl,hT,h3,h4,hE,bs,nd,hC,q⟩:=h
 have hu:=hr.units
 refine⟨_,(mR (@ao _ _ _ _ _ (sL (i:=1) cJ.nd rfl rfl (N2:=["_law_rows_here","_law_left","_law_found","_law_k","_law_some","_law_at","_law_q"]) (te:=(Fd (z8 K) (bK (aD 0) gM))) rfl (bN (pv 0)) (by kernel_rfl) rfl (λ_ _ _=>by exact dJ (iz kh rfl eZ PyProof.Rows.boot_list (af (pv 0) ak))))
  (@ao _ _ _ _ _ (aX (i:=2) cJ.nd rfl (Or.inl rfl) (fQ ak))
  (@ao _ _ _ _ _ (iX PassesOwn.never rfl (aZ rfl aG (af ah ak)) (bL (i:=3) cJ.nd rfl (Or.inr rfl)) (mR (@ao _ _ _ _ _ (rJ (i:=4) cJ.nd rfl rfl (N2:=["_law_rows_here","_law_left","_law_found","_law_k","_law_some","_law_at","_law_q"]) (tt:=(lN (c7 PF (c7 (eT K) (aD 0) (aD 4)) (tC (.int 0))))) (te:=(aD 0)) rfl (bN (pv 1)) (by kernel_rfl) rfl (λ_ _ _=>by exact rK (bg ju (aE aq (pv 0) (pv 4) (λ_ _=>rfl)) ah (bf _))) (λ_ _ _=>by exact dJ (pv 0)))
  (@ao _ _ _ _ _ (Js PassesOwn.never (bg yI (bD dX rfl gA PySem.boot_len (af (pv 4) ak)) ah (bf _)) (mR (@ao _ _ _ _ _ (aX (i:=4) cJ.nd rfl (Or.inl rfl) (Ir (N2:=["_law_rows_here","_law_left","_law_found","_law_k","_law_some","_law_at","_law_q"]) (tb:=(Fd WD (bK (c7 (eT K) (aD 0) (aD 4)) gM))) rfl hr cd bm rfl wZ (pv 4) (by kernel_rfl) (λ_ _ _ _ _ _=>rfl) (λ_ _ _ _ _=>by exact dJ (bD oR rfl ni PyProof.Rows.boot_abs (af (aE aq (pv 0) (pv 4) (λ_ _=>rfl)) ak)))))
  (@ao _ _ _ _ _ (iX PassesOwn.never rfl (yH rfl aG (af ah (af (bD dX rfl gA PySem.boot_len (af (pv 4) ak)) ak))) (bL (i:=5) cJ.nd rfl (Or.inl rfl)) (mR (@ao _ _ _ _ _ (aX (i:=6) cJ.nd rfl (Or.inr rfl) (ay zp (aE aq (aE aq (pv 4) (pv 5) (λ_ _=>rfl)) (pv 3) (λ_ _=>rfl)) (aE aq (aE aq (pv 4) ah (λ_ _=>rfl)) (pv 3) (λ_ _=>rfl))))
  (@aM _ _ _ (nA (Kg (N2:=["_law_rows_here","_law_left","_law_found","_law_k","_law_some","_law_at","_law_q"]) (te:=(c7 (CO λi j=> .int (i-j)) (aD 0) (c7 (rI iH λi j=> .int (i*j)) (aD 8) (aD 1)))) rfl (Aa rfl oH (af (aE aq (pv 4) (pv 5) (λ_ _=>rfl)) (af (aE aq (pv 4) ah (λ_ _=>rfl)) ak))) (by kernel_rfl) rfl (λ_ _ _=>by exact dJ (ay f6 (pv 0) (ay bA (pv 8) (pv 1))))) (qz (pv 4) (pv 5) set_list))))))
  (@ao _ _ _ _ _ (aX (i:=1) cJ.nd rfl (Or.inl rfl) (ay JH (lP (N2:=["_law_rows_here","_law_left","_law_found","_law_k","_law_some","_law_at","_law_q"]) (tt:=(lN (c7 EX (c7 (eT K) (aD 0) (aD 4)) (tC (.int 0))))) (te:=(aD 0)) rfl (bN (pv 1)) (by kernel_rfl) rfl (λ_ _ _=>by exact rK (bg j7 (aE aq (pv 0) (pv 4) (λ_ _=>rfl)) ah (bf _))) (λ_ _ _=>by exact dJ (pv 0))) (lP (N2:=["_law_rows_here","_law_left","_law_found","_law_k","_law_some","_law_at","_law_q"]) (tt:=(lN (c7 EX (c7 (eT K) (aD 0) (aD 4)) (tC (.int 0))))) (te:=(aD 0)) rfl (bN (pv 4)) (by kernel_rfl) rfl (λ_ _ _=>by exact rK (bg j7 (aE aq (pv 0) (pv 4) (λ_ _=>rfl)) ah (bf _))) (λ_ _ _=>by exact dJ (pv 0)))))
  (@aM _ _ _ (rJ (i:=4) cJ.nd rfl rfl (N2:=["_law_rows_here","_law_left","_law_found","_law_k","_law_some","_law_at","_law_q"]) (tt:=(lN (c7 PF (c7 (eT K) (aD 0) (aD 4)) (tC (.int 0))))) (te:=(aD 0)) rfl (bN (pv 4)) (by kernel_rfl) rfl (λ_ _ _=>by exact rK (bg ju (aE aq (pv 0) (pv 4) (λ_ _=>rfl)) ah (bf _))) (λ_ _ _=>by exact dJ (pv 0)))))))))
  (@ao _ _ _ _ _ (rJ (i:=1) cJ.nd rfl rfl (N2:=["_law_rows_here","_law_left","_law_found","_law_k","_law_some","_law_at","_law_q"]) (tt:=(lN (c7 EX (c7 (eT K) (aD 0) (aD 4)) (tC (.int 0))))) (te:=(aD 0)) rfl (bN (pv 1)) (by kernel_rfl) rfl (λ_ _ _=>by exact rK (bg j7 (aE aq (pv 0) (pv 4) (λ_ _=>rfl)) ah (bf _))) (λ_ _ _=>by exact dJ (pv 0)))
  (@aM _ _ _ (jo (uy PySem.F.plainAttrs_list PySem.F.slot_list_append PySem.F.type_list_append gO (pv 2) (af (aE aq (pv 4) ah (λ_ _=>rfl)) ak)))))))))
  (@aM _ _ _ (aO (pv 2))))))),?_⟩
 obtain⟨ok0,rw0⟩:=vE hT h3
 have la0:as.length=4:=by
  rw[<-h4,<-rw0]
  exact(List.length_map _).symm
 refine⟨_,rfl,r,rfl,⟨_,aN.of hT.1⟩,λD hD=>BB hT (by rw[h4];decide) hD λcs H1 s1 fr nD nn T1=> ?_⟩
 obtain⟨ok1,Xo⟩:=vE T1 h3
 refine⟨(by show 0<=sizeLine;decide),λG hG=> ?_⟩
 have uG:=au.up (o:= .lst []) hG
 have sG:=s1.trans uG
 obtain⟨ok2,YX⟩:=ok1.same uG
 refine⟨3,rfl,by decide,by decide,fP (n:=3) (λk σ H'=> ∃o3 o4 o5 o6 Ll la fa,σ=[some (.ref r),some (.ref Ll),some (.ref G),o3,o4,o5,o6]/\au H H'/\H' Ll=some (.lst (la.map V.ref))/\H' G=some (.lst (fa.map V.ref))/\gB H' la/\gB H' fa/\la.length<=4/\
  Vy k (rws H' fa)/\Sv k (rws H' la)/\Av (rws H' fa++rws H' la) R/\Ent (rws H' la) (rY k)/\Ent (rws H' fa) (rY 2)) ⟨_,_,_,_,D,cs,[],rfl,sG,uG _ _ T1.1,aA,ok2,(λb hb=>nomatch hb),?_,⟨rfl,λi hi=>absurd hi (Nat.not_lt_zero _)⟩,(λx _ j hj=>absurd hj (Nat.not_lt_zero _)),?_,?_,(λx hx=>nomatch hx)⟩ (λk σ H2 hk hh=> ?_) (λσ H2 hh=> ?_)⟩
 ·have:cs.length=(rws H1 cs).length:=(List.length_map _).symm
  rw[this,Xo,h4]
  decide
 ·rw[YX,Xo]
  exact Av.refl R
 ·rw[YX,Xo]
  exact hE
 rotate_left
 ·obtain⟨o3,o4,o5,o6,Ll,la,fa,rfl,s2,eL,eG,VB,VC,ll,tr,ze,sp,YY,Xp⟩:=hh
  have T2:=AA eG VC
  refine⟨_,rfl,q _ fa G H2 s2 (s1.none hG) T2 ⟨tr.1,λx hx=> ?_⟩ ?_ Xp⟩
  ·obtain⟨b,hb,rfl⟩:=List.mem_map.mp hx
   exact(VC b hb).2
  ·refine Av.trans (λM c=>⟨λh=>dW.mpr ⟨h,λx hx=> ?_⟩,λh=>(dW.mp h).1⟩) sp
   exact c.ext _ _ c.zero λj hj=>(ze x hx j hj).symm
 obtain⟨o3,o4,o5,o6,Ll,la,fa,rfl,s2,eL,eG,VB,VC,ll,tr,ze,sp,YY,Xp⟩:=hh
 have fG:H G=none:=s1.none hG
 rw[Int.zero_add]
 have Gu:∀(neg:Bool) {Hx Hy:Hp} {as:List Addr} (v:V) (x:Addr),gB Hx as->au Hx Hy->v∈as.map V.ref-> ∃b,b∈as/\v= .ref b/\Hy b=some (.lst [.int (av (gK Hx b) 0),.int (av (gK Hx b) 1),.int (av (gK Hx b) 2)]):=λneg {Hx Hy as} v x ok s hv=>by
  obtain⟨b,hb,rfl⟩:=List.mem_map.mp hv
  exact⟨b,hb,rfl,s _ _ (ok b hb).1⟩
 have MD:∀{as:List Addr},as.length<=4->(as.map V.ref).length<=sizeLine:=λh=>by
  rw[List.length_map]
  exact Nat.le_trans h (by decide)
 refine⟨_,rfl,Ll,rfl,⟨_,aN.of eL⟩,λS hS=>di (bU (aN.of eL)) (MD ll) hS (λv=> !vz H2 k v) id (λv hv Ha Rr sa kk=> ?_) (λv hv pv Ha Q' sa kk=> ?_) (λH3 s3 e3=> ?_)⟩
 ·obtain⟨b,hb,rfl,eb⟩:=Gu true v 0 VB sa hv
  exact⟨_,rfl,_,rfl,b,_,_,_,rfl,rfl,aN.of eb,jO (av (gK H2 b)) hk,rfl,_,rfl,by rw[Cd];exact kk Ha (au.refl _)⟩
 ·exact⟨v,rfl,kk Ha (au.refl _)⟩
 rw[Ge]at e3
 have s23:=s2.trans s3
 obtain⟨UR,Pp⟩:=VB.same s3
 obtain⟨Xq,RV⟩:=VC.same s3
 have nzE:zq H3 k la=zq H2 k la:=List.filter_congr λb hb=>by rw[((VB b hb).keep (s3 b)).2]
 rw[<-nzE]at e3
 have Xr:Sv k (rws H3 la):=by rw[Pp];exact ze
 have ME:∀b∈zq H3 k la,b∈la/\av (gK H3 b) k≠0:=λb hb=>by
  obtain⟨h1,h2⟩:=List.mem_filter.mp hb
  exact⟨h1,by simpa using h2⟩
 have okN:gB H3 (zq H3 k la):=λb hb=>UR b (ME b hb).1
 have VD:Ent (rws H3 la) (rY k):=by rw[Pp];exact YY
 have cnt:(CT H3 k la).length+(zq H3 k la).length=la.length:=by
  exact wM (λb=>decide (av (gK H3 b) k=0)) la
 have sp3:Av (rws H3 fa++(uW k (rws H3 la)++rws H3 (zq H3 k la))) R:=by
  refine Av.trans (λM c=> ?_) sp
  rw[RV,dW,dW,dW,<-Pp,Ca k (rws H3 la),Eg]
 have neN:zq H3 k la≠ []:=by
  obtain⟨x,hx,hxk⟩:=OX hk tr ze sp bs nd
  rw[<-Pp]at hx
  obtain⟨b,hb,rfl⟩:=List.mem_map.mp hx
  intro z
  have:b∈zq H3 k la:=List.mem_filter.mpr ⟨hb,by simpa using hxk⟩
  rw[z]at this
  cases this
 obtain⟨E0,hE0,US⟩:∃E0:Nat,(∀x∈rws H3 la,∀j,j<3->j≠k->(av x j).natAbs<=E0)/\max (48*(E0*(rY k*rY k)*rY k)) (rY k)<=rY (k+1):=by
  rcases aC hk with rfl|rfl|rfl
  ·exact⟨rY 0,λx hx j hj _=>VD x hx j hj,by decide⟩
  ·exact⟨rY 1,λx hx j hj _=>VD x hx j hj,by decide+kernel⟩
  ·refine⟨0,λx hx j hj hj2=> ?_,by decide+kernel⟩
   rw[Xr x hx j (by omega)]
   exact Nat.le_refl _
 obtain⟨m0,W0⟩:=Wk.start (k:=k) (S:=rws H3 (zq H3 k la)) (B:=rY k) (E:=E0) (by
  intro z
  exact neN (List.map_eq_nil_iff.mp z)) (by rw[show(rws H3 (zq H3 k la)).length=(zq H3 k la).length from List.length_map _];omega) (λx hx=>by
  obtain⟨b,hb,rfl⟩:=List.mem_map.mp hx
  exact(ME b hb).2) (λx hx j hj hjk=>by
  obtain⟨b,hb,rfl⟩:=List.mem_map.mp hx
  exact hE0 _ (List.mem_map_of_mem (ME b hb).1) j hj hjk) (λx hx=>by
  obtain⟨b,hb,rfl⟩:=List.mem_map.mp hx
  exact VD _ (List.mem_map_of_mem (ME b hb).1) k hk)
 generalize hZ:48*(E0*(rY k*rY k)*rY k)=Z at W0 US
 have M0:Mid k (rws H3 fa) (rws H3 la) (rws H3 (zq H3 k la)) R Z (rY k) (rY (k+1)):=by
  refine⟨?_,?_,Xr,λx hx=> ?_,sp3,λx hx j hj=> ?_,E0,_,m0,false,W0,Nat.le_refl _⟩
  ·rw[<-tT]
   have e1:(rws H3 (CT H3 k la)).length=(CT H3 k la).length:=List.length_map _
   have e2:(rws H3 (zq H3 k la)).length=(zq H3 k la).length:=List.length_map _
   omega
  ·have e1:(rws H3 la).length=la.length:=List.length_map _
   omega
  ·obtain⟨b,hb,rfl⟩:=List.mem_map.mp hx
   exact Xr _ (List.mem_map_of_mem (ME b hb).1)
  ·have h1:=(List.mem_filter.mp hx).1
   have:=VD x h1 j hj
   have h2:rY k<=rY (k+1):=Nat.le_trans (Nat.le_max_right _ _) US
   omega
 have zB:Z<=rY (k+1):=Nat.le_trans (Nat.le_max_left _ _) US
 have stK:rY (k+1)<=rY 2:=by rcases aC hk with rfl|rfl|rfl<;>decide+kernel
 have big:rY 2<2^160:=by decide+kernel
 refine Jw (λσ H'=> ∃o5 o6 Lw Sw la' sa,σ=[some (.ref r),some (.ref Lw),some (.ref G),some (.int (k:Int)),some (.ref Sw),o5,o6]/\au H3 H'/\H' Lw=some (.lst (la'.map V.ref))/\H' Sw=some (.lst (sa.map V.ref))/\gB H' la'/\gB H' sa/\
  Mid k (rws H3 fa) (rws H' la') (rws H' sa) R Z (rY k) (rY (k+1))) (Xc k) ⟨_,_,Ll,S,la,zq H3 k la,rfl,au.refl _,s3 _ _ eL,e3,UR,okN,M0⟩ (λσ H' hh=> ?_) ?_
 rotate_left
 ·rintro σ H' Q Q' h ⟨v,h1,p,ys,e1,e2,i,j,e3,e4,b,e5,h2⟩
  exact⟨v,h1,p,ys,e1,e2,i,j,e3,e4,b,e5,h _ _ h2⟩
 obtain⟨o5,o6,Lw,Sw,la',sa,rfl,s4,Xs,VE,Xu,Xv,md⟩:=hh
 have YZ:(rws H' sa).length=sa.length:=List.length_map _
 have Xw:(rws H' la').length=la'.length:=List.length_map _
 have UA:=s23.trans s4
 refine⟨_,rfl,Sw,_,rfl,.inl (aN.of VE),_,_,rfl,rfl,_,rfl,oS (λc=> ?_) (λc=> ?_)⟩
 rotate_left
 ·--one row is left
  have c1:¬1<(rws H' sa).length:=by
   rw[YZ]
   intro z
   apply c
   refine decide_eq_true ?_
   rw[List.length_map]
   omega
  obtain⟨Xx,Xy⟩:=Xq.same s4
  obtain⟨x,ex,Sz,ze',sp',bx⟩:=md.done hk (by rw[RV];exact tr) c1
  obtain⟨UT,eb0,rfl⟩:∃b,sa=[b]/\gK H' b=x:=by
   match sa,ex with
   | [b],ex=>exact⟨b,rfl,by injection ex⟩
  subst eb0
  have Xz:H' G=some (.lst (fa.map V.ref)):=(s3.trans s4) _ _ eG
  refine⟨_,rfl,Lw,rfl,⟨_,aN.of Xs⟩,λD hD=>di (bU (aN.of Xs)) (MD (by rw[<-Xw];exact md.ll)) hD (λv=>vz H' k v) id (λv hv Ha Rr sa' kk=> ?_) (λv hv pv Ha Q' sa' kk=> ?_) (λH5 s5 e5=> ?_)⟩
  ·obtain⟨b,hb,rfl,eb⟩:=Gu true v 0 Xu sa' hv
   exact⟨_,rfl,_,rfl,b,_,_,_,rfl,rfl,aN.of eb,jO (av (gK H' b)) hk,rfl,_,rfl,by rw[Cd];exact kk Ha (au.refl _)⟩
  ·exact⟨v,rfl,kk Ha (au.refl _)⟩
  rw[Gd]at e5
  have Za:=s5 _ _ Xz
  have UQ:D≠G:=λz=>by rw[z,Xz]at hD;cases hD
  have lfa:fa.length=k:=by
   rw[<-tr.1]
   exact(List.length_map _).symm
  have keep:∀{as:List Addr},gB H' as-> ∀b∈as,∀o,H' b=some o->upd H5 G (.lst (fa.map V.ref++ [.ref UT])) b=some o:=λok b hb o e=>by
   rw[aF (jK (ok b hb) Xz)]
   exact s5 _ _ e
  have Zb:gB H' (CT H' k la'):=λb hb=>Xu b (List.mem_filter.mp hb).1
  have Zc:gB H' (fa++ [UT]):=λb hb=>by
   rcases List.mem_append.mp hb with hb|hb
   ·exact Xx b hb
   ·exact Xv b hb
  obtain⟨k1,k2⟩:=Zb.keep (keep Zb)
  obtain⟨k3,k4⟩:=Zc.keep (keep Zc)
  have XA:rws H' (fa++ [UT])=rws H3 fa++ [gK H' UT]:=by
   rw[lB,Xy]
   rfl
  refine⟨_,rfl,.inl ⟨rfl,_,aN.of Za⟩,_,rfl,Sw,_,_,_,rfl,rfl,aN.of (s5 _ _ VE),kQ,G,_,_,rfl,rfl,Za,(by rw[List.length_map,lfa];exact Nat.lt_of_lt_of_le hk (by decide)),?_⟩
  refine⟨_,_,_,_,D,CT H' k la',fa++ [UT],rfl,((UA.trans s5).trans (au.refl _)).upd fG,by rw[aF UQ];exact e5,by rw[List.map_append];exact aA,k1,k3,?_,?_,?_,?_,?_,?_⟩
  ·exact Nat.le_trans (List.length_filter_le _ _) (by rw[<-Xw];exact md.ll)
  ·rw[k4,XA]
   exact Sz
  ·rw[k2,tT]
   exact ze'
  ·rw[k4,k2,XA,tT]
   exact sp'
  ·rw[k2,tT]
   exact md.en
  ·rw[k4,XA]
   intro x hx j hj
   rcases List.mem_append.mp hx with hx|hx
   ·rw[RV]at hx
    exact Xp x hx j hj
   ·rw[List.mem_singleton.mp hx]
    exact Nat.le_trans (bx j hj) (Nat.le_trans US stK)
 have l2:2<=sa.length:=by
  have:=of_decide_eq_true c
  rw[List.length_map]at this
  omega
 refine⟨_,rfl,Sw,_,(λv=>((kW H' k v:Nat):Int)),rfl,aN.of VE,(by have:=md.cn;rw[YZ]at this;rw[List.length_map];omega),UA _ _ hC,(λv hv Hi si=> ?_),λHn zs sn pz so p hp=> ?_⟩
 ·obtain⟨b,hb,rfl,eb⟩:=Gu true v 0 Xv si hv
  exact⟨_,rfl,_,rfl,b,_,_,_,rfl,rfl,aN.of eb,jO (av (gK H' b)) hk,_,rfl,congrArg V.int (show(if av (gK H' b) k<0 then-av (gK H' b) k else av (gK H' b) k)=((av (gK H' b) k).natAbs:Int)by split<;>omega),au.refl _⟩
 obtain⟨sb,rfl,XC⟩:=Ie pz
 have lsb:sb.length=sa.length:=XC.length_eq
 obtain⟨y0,dN,rfl⟩:∃y0 dN,sb=y0::dN:=by
  cases sb with
  |nil=>simp at lsb;omega
  |cons y r=>exact⟨y,r,rfl⟩
 have l1:dN.length+1=sa.length:=by rw[<-lsb];rfl
 have perm:(rws H' sa).Perm (gK H' y0::rws H' dN):=(XC.symm.map (gK H'))
 have RL:∀x∈rws H' dN,(av (gK H' y0) k).natAbs<=(av x k).natAbs:=λx hx=>by
  obtain⟨b,hb,rfl⟩:=List.mem_map.mp hx
  have h1:((kW H' k (.ref y0):Nat):Int)<=((kW H' k (.ref b):Nat):Int):=(List.pairwise_cons.mp so).1 (V.ref b) (List.mem_map_of_mem hb)
  exact Int.ofNat_le.mp h1
 have rne:rws H' dN≠ []:=by
  intro z
  have:dN=[]:=List.map_eq_nil_iff.mp z
  rw[this]at l1
  simp at l1
  omega
 obtain⟨XD,Zd⟩:=md.step hk zB perm rne RL
 have XE:∀b∈y0::dN,Ef H' b/\av (gK H' b) k≠0/\ ∀j,j<3->(av (gK H' b) j).natAbs<=rY 2:=λb hb=>by
  have hb':b∈sa:=XC.mem_iff.mp hb
  obtain⟨h1,h2⟩:=md.small _ (List.mem_map_of_mem hb')
  exact⟨Xv b hb',h1,λj hj=>Nat.le_trans (h2 j hj) (Nat.le_trans US stK)⟩
 have fp:H' p=none:=sn.none hp
 have sp1:au H' (upd Hn p (.lst ((y0::dN).map V.ref))):=sn.upd fp
 have hn:((((y0::dN).map V.ref).length:Int) -1).toNat=dN.length:=by
  rw[List.length_map,List.length_cons]
  omega
 refine⟨_,rfl,p,_,rfl,.inl (aN.of aA),1,_,rfl,⟨by decide,by decide,by omega,by rw[List.length_map,List.length_cons];have:=md.cn;omega⟩,fP (lo:=1) (λi σ Hc=> ∃o5 o6 new,σ=[some (.ref r),some (.ref Lw),some (.ref G),some (.int (k:Int)),some (.ref p),o5,o6]/\au H' Hc/\Hc p=some (.lst ((y0::(new++dN.drop i)).map V.ref))/\new.length=i/\gB Hc new/\
  rws Hc new=d7 k (gK H' y0) ((rws H' dN).take i)) ⟨_,_,[],rfl,sp1,aA,rfl,(λb hb=>nomatch hb),rfl⟩ (λi σ Hc hi hc=> ?_) (λσ Hc hc=> ?_)⟩
 ·rw[hn]at hi
  obtain⟨o5,o6,new,rfl,sc,ec,ln,Iu,VF⟩:=hc
  have hri:dN[i]∈y0::dN:=List.mem_cons_of_mem _ (List.getElem_mem hi)
  obtain⟨okr,nr,br⟩:=XE _ hri
  obtain⟨XF,ny,bY⟩:=XE y0 List.mem_cons_self
  have er:=sc _ _ okr.1
  have ey:=sc _ _ XF.1
  have eI:(1:Int)+(i:Int)=((i+1:Nat):Int):=by omega
  have gI:((y0::(new++dN.drop i)).map V.ref)[i+1]?=some (.ref dN[i]):=by
   rw[List.getElem?_map,List.getElem?_cons_succ,List.getElem?_append_right (by omega),ln,Nat.sub_self,List.getElem?_drop,Nat.add_zero,List.getElem?_eq_getElem hi]
   rfl
  have Ze:xV ((y0::(new++dN.drop i)).map V.ref) (1+(i:Int))=some (.ref dN[i]):=by
   rw[eI]
   exact zO gI
  have Vz:xV ((y0::(new++dN.drop i)).map V.ref) 0=some (.ref y0):=kQ
  have b4:(rY 2:Nat)<2^4096:=Nat.lt_trans big (by decide+kernel)
  refine⟨_,rfl,_,rfl,p,_,_,_,rfl,rfl,aN.of ec,Ze,_,rfl,dN[i],_,_,_,rfl,rfl,aN.of er,jO (av (gK H' dN[i])) hk,_,rfl,p,_,_,_,rfl,rfl,aN.of ec,Vz,_,rfl,y0,_,_,_,rfl,rfl,aN.of ey,jO (av (gK H' y0)) hk,_,_,rfl,rfl,⟨ny,Nat.lt_of_le_of_lt (bY k hk) b4⟩,?_⟩
  refine⟨_,rfl,_,rfl,p,_,_,_,rfl,rfl,aN.of ec,Ze,_,rfl,p,_,_,_,rfl,rfl,aN.of ec,Vz,dN[i],y0,_,_,rfl,aN.of er,aN.of ey,λD hD=>By (aN.of er) (aN.of ey) rfl (by show 3<=sizeLine;decide) hD (λu v=>match u,v with| .int a,.int b=> .int (a- (av (gK H' dN[i]) k).fdiv (av (gK H' y0) k)*b)|_,_=> .gu) (λn u v eu ev Ha Q' sa' kk=> ?_) (λHx sx ex=> ?_)⟩
  ·have XG:n<3:=(List.getElem?_eq_some_iff.mp eu).1
   obtain⟨a1,a2,a3,a4,a5⟩:=iC (x:=av (gK H' dN[i]) k) ny
   have q1:((av (gK H' dN[i]) k).fdiv (av (gK H' y0) k)).natAbs<2^4096:=by
    have h1:=br k hk
    have h2:=bY k hk
    have h3:((av (gK H' dN[i]) k).fdiv (av (gK H' y0) k)).natAbs*1<=((av (gK H' dN[i]) k).fdiv (av (gK H' y0) k)).natAbs*(av (gK H' y0) k).natAbs:=Nat.mul_le_mul_left _ (by omega)
    have b5:2*rY 2<2^4096:=by decide+kernel
    omega
   have UE:u= .int (av (gK H' dN[i]) n):=by
    rcases aC XG with rfl|rfl|rfl<;>exact(Option.some.inj eu).symm
   have ev':v= .int (av (gK H' y0) n):=by
    rcases aC XG with rfl|rfl|rfl<;>exact(Option.some.inj ev).symm
   subst UE ev'
   exact⟨_,rfl,_,rfl,_,rfl,_,_,rfl,rfl,⟨q1,Nat.lt_of_le_of_lt (bY n XG) b4⟩,_,_,rfl,rfl,kk⟩
  obtain⟨Sx,UP⟩:=Gb (b:=D) ex
  have Zf:D≠p:=λz=>by rw[z,ec]at hD;cases hD
  refine⟨_,rfl,_,rfl,p,_,_,i+1,rfl,rfl,sx _ _ ec,?_,_,_,new++ [D],rfl,(sc.trans sx).upd fp,?_,?_,?_,?_⟩
  ·unfold Nz
   rw[if_pos (by omega),if_pos (by rw[List.length_map,List.length_cons,List.length_append,List.length_drop];omega)]
   congr 1
   omega
  ·rw[aA,List.map_cons,List.set_cons_succ,List.map_append,List.set_append_right _ _ (by rw[List.length_map];omega),List.length_map,ln,Nat.sub_self,List.drop_eq_getElem_cons hi,List.map_cons,List.set_cons_zero]
   simp[-List.map_drop]
  ·rw[List.length_append,ln]
   rfl
  ·intro b hb
   rcases List.mem_append.mp hb with hb|hb
   ·exact((Iu b hb).keep λo e=>by rw[aF (jK (Iu b hb) ec)];exact sx _ _ e).1
   ·rw[List.mem_singleton.mp hb]
    exact(Sx.keep λo e=>by rw[aF Zf];exact e).1
  ·have k1:=(Iu.keep (H':=upd Hx p (.lst (((y0::(new++dN.drop i)).map V.ref).set (i+1) (.ref D)))) λb hb o e=>by rw[aF (jK (Iu b hb) ec)];exact sx _ _ e).2
   have k2:=(Sx.keep (H':=upd Hx p (.lst (((y0::(new++dN.drop i)).map V.ref).set (i+1) (.ref D)))) λo e=>by rw[aF Zf];exact e).2
   have li:i<(rws H' dN).length:=by
    rw[show(rws H' dN).length=dN.length from List.length_map _]
    exact hi
   rw[lB,k1,VF,Ig _ _ _ _ li]
   congr 1
   show [gK _ D]=_
   rw[k2,UP]
   have:(rws H' dN)[i]=gK H' dN[i]:=List.getElem_map _
   rw[this]
   rfl
 rw[hn]at hc
 obtain⟨o5,o6,new,rfl,sc,ec,ln,Iu,VF⟩:=hc
 rw[List.drop_of_length_le (Nat.le_refl _),List.append_nil]at ec
 rw[List.take_of_length_le (by rw[show(rws H' dN).length=dN.length from List.length_map _];exact Nat.le_refl _)]at VF
 obtain⟨UU,XH⟩:=Xu.same sc
 obtain⟨XF,rwy⟩:=(XE y0 List.mem_cons_self).1.keep (sc y0)
 have VG:gB Hc (y0::new):=λb hb=>by
  rcases List.mem_cons.mp hb with rfl|hb
  ·exact XF
  ·exact Iu b hb
 have Zg:rws Hc (y0::new)=gK H' y0::d7 k (gK H' y0) (rws H' dN):=by
  show gK Hc y0::rws Hc new=_
  rw[rwy,VF]
 have Zh:=sc _ _ Xs
 have lmd:=XD.ll
 rw[<-XH,<-Zg,<-tT,<-tT,<-lB]at XD
 rw[<-Zg]at Zd
 have l4:la'.length<=4:=by rw[<-Xw];exact md.ll
 have lp:(y0::new).length<=4:=by
  have:=md.cn
  rw[List.length_cons,ln]
  omega
 refine⟨_,rfl,Lw,rfl,⟨_,aN.of Zh⟩,λD1 hD1=>di (bU (aN.of Zh)) (MD l4) hD1 (λv=>vz Hc k v) id (λv hv Ha Rr sa' kk=> ?_) (λv hv pv Ha Q' sa' kk=> ?_) (λH5 s5 e5=> ?_)⟩
 ·obtain⟨b,hb,rfl,eb⟩:=Gu true v 0 UU sa' hv
  exact⟨_,rfl,_,rfl,b,_,_,_,rfl,rfl,aN.of eb,jO (av (gK Hc b)) hk,rfl,_,rfl,by rw[Cd];exact kk Ha (au.refl _)⟩
 ·exact⟨v,rfl,kk Ha (au.refl _)⟩
 have XI:=s5 _ _ ec
 refine⟨_,rfl,p,rfl,⟨_,aN.of XI⟩,λD2 pN=>di (bU (aN.of XI)) (MD lp) pN (λv=>vz Hc k v) id (λv hv Ha Rr sa' kk=> ?_) (λv hv pv Ha Q' sa' kk=> ?_) (λH6 s6 e6=> ?_)⟩
 ·obtain⟨b,hb,rfl,eb⟩:=Gu true v 0 VG (s5.trans sa') hv
  exact⟨_,rfl,_,rfl,b,_,_,_,rfl,rfl,aN.of eb,jO (av (gK Hc b)) hk,rfl,_,rfl,by rw[Cd];exact kk Ha (au.refl _)⟩
 ·exact⟨v,rfl,kk Ha (au.refl _)⟩
 rw[Gd]at e5 e6
 have e56:=s6 _ _ e5
 have lz1:(CT Hc k la').length<=4:=Nat.le_trans (List.length_filter_le _ _) l4
 have lz2:(CT Hc k (y0::new)).length<=4:=Nat.le_trans (List.length_filter_le _ _) lp
 refine⟨D1,D2,_,_,rfl,rfl,e56,e6,(by rw[List.length_map,List.length_map];exact Nat.le_trans (Nat.add_le_add lz1 lz2) (by decide)),λp4 XJ=> ?_⟩
 have s7:au H6 (upd H6 p4 (.lst ((CT Hc k la').map V.ref++(CT Hc k (y0::new)).map V.ref))):=au.up XJ
 have Zi:=s7 _ _ (s6 _ _ XI)
 refine⟨_,rfl,p,rfl,⟨_,aN.of Zi⟩,λD3 Xi=>di (bU (aN.of Zi)) (MD lp) Xi (λv=> !vz Hc k v) id (λv hv Ha Rr sa' kk=> ?_) (λv hv pv Ha Q' sa' kk=> ?_) (λH8 s8 e8=> ?_)⟩
 ·obtain⟨b,hb,rfl,eb⟩:=Gu true v 0 VG (s5.trans (s6.trans (s7.trans sa'))) hv
  exact⟨_,rfl,_,rfl,b,_,_,_,rfl,rfl,aN.of eb,jO (av (gK Hc b)) hk,rfl,_,rfl,by rw[Cd];exact kk Ha (au.refl _)⟩
 ·exact⟨v,rfl,kk Ha (au.refl _)⟩
 rw[Ge]at e8
 have sA:au Hc H8:=s5.trans (s6.trans (s7.trans s8))
 have okA:gB Hc (CT Hc k la'++CT Hc k (y0::new)):=λb hb=>by
  rcases List.mem_append.mp hb with hb|hb
  ·exact UU b (List.mem_filter.mp hb).1
  ·exact VG b (List.mem_filter.mp hb).1
 have okB:gB Hc (zq Hc k (y0::new)):=λb hb=>VG b (List.mem_filter.mp hb).1
 obtain⟨a1,a2⟩:=okA.same sA
 obtain⟨b1,b2⟩:=okB.same sA
 refine⟨⟨_,_,p4,D3,CT Hc k la'++CT Hc k (y0::new),zq Hc k (y0::new),rfl,s4.trans (sc.trans sA),?_,e8,a1,b1,?_⟩,?_⟩
 ·rw[List.map_append]
  exact s8 _ _ aA
 ·rw[a2,b2,Eg]
  exact XD
 ·rw[Mv VE]
  refine Nat.lt_of_le_of_lt (Nat.le_of_eq (Mv e8)) ?_
  rw[b2,Eg]
  exact Zd
end
end CN
set_option maxHeartbeats 1000000
namespace CN
open PySem L2
section
variable{P:Program}{w:World}{K:PySem.W.Frag}{mg:Str->Option Value}{base:Heap}
def Gp(T0:Addr):Sp:=λvs H Q _=> ∃(t:Addr) (bs:List Addr) (m:List (List Int)) (n:Nat) (b:Addr) (x:Nat->Int),vs=[.ref t,.int (n:Int),.ref b]/\Tab H t bs m/\bC m/\Bd 440 m/\bI m/\(n:Int)∈([3,5,7,11,13]:List Int)/\aK m/2%(n:Int)≠0/\cP H b x/\jB (n:Int) x/\aH m x%(n:Int)=0/\H T0=some .EU/\ ∀(k:Nat) (F:List (List Int)) (r:Addr) (rs:List Addr) H',aH m (d9 n x k)%((n:Int)*n)=0->(∀j,j<k-> ¬aH m (d9 n x j)%((n:Int)*n)=0) ->jL m n x (d9 n x k) F->(∀B,aK B=1->jL m n x (d9 n x k) (fq B F)) ->au H H'->H r=none->Tab H' r rs F->bC F->Ent F (rY 2) ->Q (.ref r) H'
theorem AH{b7:Addr}(F:fC K mg "_law_step" pM jI)(iD:cQ P w K mg base cj 6 "_law_lift" iB Ao)(mD:cQ P w K mg base cj 6 "_law_across" g9 Qj)(mE:cQ P w K mg base cj 6 "_law_stairs" ic (Co b7)):cQ P w K mg base cj 7 "_law_step" jI (Gp b7):=by
 refine F.ok rR (λvs H Q E h=> ?_) (λf cdv A outer s H vs Q E hr h=> ?_)
 ·obtain⟨t,bs,m,n,b,x,rfl,hT,cN,hB,ev,hp,hd,hx,L,hc,hC,q⟩:=h
  rfl
 obtain⟨t,bs,m,n,b,x,rfl,hT,cN,hB,ev,hp,hd,hx,L,hc,hC,q⟩:=h
 have hu:=hr.units
 refine⟨_,(mR (@ao _ _ _ _ _ (aX (i:=3) rR.nd rfl (Or.inl rfl) (aR iD hr rfl aQ (af (pv 0) (af (pv 1) (af (pv 2) ak)))))
  (@aM _ _ _ (aO (aR mE hr rfl aQ (af (ay JH (fQ (af (pv 3) ak)) (dP (N2:=["_law_form_here","_law_p","_law_line","_law_up"]) (te:=(iT 1 (vL K (aD 0)) (cg 0) (c7 (rI iH λi j=> .int (i*j)) (aD 3) (aD 0)))) rfl (bN (aR mD hr rfl aQ (af (pv 0) (af (pv 1) (af (pv 3) ak))))) (by kernel_rfl) rfl (λ_ _ _=>by exact dJ (dP (N2:=["_law_row","_law_form_here","_law_p","_law_line","_law_up"]) (te:=(c7 (rI iH λi j=> .int (i*j)) (aD 3) (aD 0))) rfl (bN (pv 0)) (by kernel_rfl) rfl (λ_ _ _=>by exact dJ (ay bA (pv 3) (pv 0))))))) ak)))))),?_⟩
 have p0:2<n/\n<14:=by
  simp only[List.mem_cons,List.not_mem_nil,or_false]at hp
  omega
 have bx:∀i,i<3->(x i).natAbs<2^100:=λi hi=>aL (a:=4) (by have:=L.lo i hi;have:=L.hi i hi;omega) (by decide)
 obtain⟨i0,t0,F0⟩:=vv ev hp hd L
 obtain⟨g1,g2,g3,g4⟩:=jb ev hp hc F0
 obtain⟨l,hl,li,one,l0⟩:=we ev L hc F0
 obtain⟨o,ho,sum⟩:∃o,o<3/\i0+l+o=3:=⟨3-i0-l,by have:=F0.hi;omega,by have:=F0.hi;omega⟩
 have hi0:=F0.hi
 obtain⟨St⟩:Nonempty (pB m (n:Int) x i0 l o (t0:Int) (((1+((pq hp F0.sl).choose:Int))* -(az m x o))%(n:Int))):=by
  have np:(0:Int)<n:=by omega
  have hv:=(pq hp F0.sl).choose_spec.2
  generalize((pq hp F0.sl).choose:Int)=v at hv ⊢
  refine⟨⟨F0,L,hc,?_,hl,ho,sum,li,by omega,by omega,one,Int.emod_nonneg _ (by omega),Int.emod_lt_of_pos _ np,?_⟩⟩
  ·rw[<-rL ev g2]
   exact g3
  ·obtain⟨k1,h1⟩:=fN (show(1+v)*az m x i0%(n:Int)=1%(n:Int)by rw[hv];exact(bJ (by decide) (by omega)).symm)
   have e:=Int.emod_add_mul_ediv ((1+v)* -(az m x o)) (n:Int)
   generalize((1+v)* -(az m x o))%(n:Int)=w at e ⊢
   generalize((1+v)* -(az m x o))/(n:Int)=z at e
   have e3:w=(1+v)* -(az m x o) -n*z:=by omega
   refine Int.emod_eq_zero_of_dvd ⟨-(az m x o*k1) -z*az m x i0,?_⟩
   rw[e3]
   have e4:az m x o+((1+v)* -(az m x o) -n*z)*az m x i0=az m x o-az m x o*((1+v)*az m x i0) -n*(z*az m x i0):=by grind
   rw[e4,h1]
   grind
 generalize(((1+((pq hp F0.sl).choose:Int))* -(az m x o))%(n:Int))=c at St
 refine⟨_,rfl,_,rfl,_,rfl,t,bs,m,n,b,x,rfl,hT,cN,hB.mono (by decide),by omega,p0.2,hx,(λi hi=>aL (bx i hi) (by decide)),⟨_,g1,g3⟩,λk U H1 hk ck fk s1 fU eU=> ?_⟩
 have ek:gY n i0 t0=k:=wc (P:=λk=>aH m (d9 n x k)%((n:Int)*n)=0) g3 g4 ck fk
 subst ek
 have bv:∀i,i<3->(d9 n x (gY n i0 t0) i).natAbs<2^8:=λi hi=>by
  rw[g2 i hi]
  have h1:=L.lo i hi
  have h2:=L.hi i hi
  have c1:((t0:Int)*n).natAbs<2^(4+4):=dz (by have:=F0.up;omega) (by omega)
  unfold cH
  split
  ·have h3:=F0.up
   have h4:(t0:Int)*n<=12*13:=by
    have:t0*n<=12*13:=Nat.mul_le_mul (by omega) (by omega)
    exact_mod_cast this
   have h5:0<=(t0:Int)*n:=Int.mul_nonneg (by omega) (by omega)
   omega
  ·omega
 have sl:∀j,az m (d9 n x (gY n i0 t0)) j%(n:Int)=az m x j%(n:Int):=λj=>jc (λi hi=>by rw[g2 i hi];exact kD _ _ _ _ _) j
 refine⟨_,rfl,(by show 1<=sizeLine;decide),λA hA=> ?_⟩
 have uA:=au.up (o:= .lst [.ref U]) hA
 have Zj:=s1.trans uA
 refine⟨_,rfl,_,rfl,_,rfl,t,bs,m,n,U,_,rfl,hT.same Zj,cN,hB,hp,uA _ _ eU,(λi hi=>aL (bv i hi) (by decide)),(by rw[sl,sl,sl];exact rO ev hp hd L),λq0 u r rs H2 HY hu s2 fr Tr=> ?_⟩
 have eW:(λk=>az m (d9 n x (gY n i0 t0)) k%(n:Int)*u%(n:Int))=λk=>az m x k%(n:Int)*u%(n:Int):=by
  funext k
  rw[sl]
 rw[eW]at Tr
 rw[sl]at hu
 generalize hw:(λk=>az m x k%(n:Int)*u%(n:Int))=w at Tr
 have w0:∀k,0<=w k/\w k<n:=λk=>by rw[<-hw];exact⟨Int.emod_nonneg _ (by omega),Int.emod_lt_of_pos _ (by omega)⟩
 have l3:(rs.map V.ref).length=3:=by rw[List.length_map,<-Tr.2.length];rfl
 have sA2:=Zj.trans s2
 have eA:=s2 _ _ (aA (H:=H1) (a:=A) (o:= .lst [.ref U]))
 refine⟨r,rfl,⟨_,aN.of Tr.1⟩,λD hD=>pe (bU (aN.of Tr.1)) l3 hD (λi j=>(n:Int)*rm n q0 w i j) (λi y hi ey H3 Q3 s3 k3=> ?_) (λds H3 s3 fd nD nn TD=> ?_)⟩
 ·obtain⟨b1,e1,e2,_⟩:=aY (Tr.same s3) (bP _) hi
  have Mc:y= .ref b1:=by
   have q1:=dU ey
   rw[e1]at q1
   exact(Option.some.inj q1).symm
  subst Mc
  refine⟨_,rfl,b1,rfl,⟨_,aN.of e2⟩,λD2 pN=>eE (bU (aN.of e2)) rfl pN (λj=>(n:Int)*rm n q0 w i j) (λj z hj ez H4 Q4 s4 k4=> ?_) (λH4 s4 e4=>k3 D2 H4 pN s4 e4)⟩
  have My:z= .int (rm n q0 w i j):=by
   have e5:ent (mk3 λk j=>rm n q0 w k j) i j=rm n q0 w i j:=cy _ hi hj
   rw[<-e5]
   rcases aC hj with rfl|rfl|rfl<;>exact(Option.some.inj ez).symm
  subst My
  have c13:(rm n q0 w i j).natAbs<2^4:=by
   have:=w0 i
   unfold rm
   split
   ·split<;>omega
   ·split
    ·omega
    ·split<;>omega
  exact⟨_,rfl,_,rfl,_,_,rfl,rfl,⟨aL (a:=4) (by omega) (by decide),aL c13 (by decide)⟩,k4 H4 (au.refl _)⟩
 refine⟨A,D,_,_,rfl,rfl,s3 _ _ eA,TD.1,(by rw[List.length_map,<-TD.2.length];show 1+3<=sizeLine;decide),λp4 XJ=> ?_⟩
 have u4:=au.up (o:= .lst ([V.ref U]++ds.map V.ref)) XJ
 have wD:=sA2.trans (s3.trans u4)
 have Zk:=Ij ev St hp HY hu hw g2
 have nd:aK (stepT n x i0 o t0 c)≠0:=by
  have:0<(n:Int)*n*n:=Int.mul_pos (Int.mul_pos (by omega) (by omega)) (by omega)
  rcases wg St with z|z<;>rw[z]<;>omega
 refine⟨p4,U::ds,yk n q0 w (d9 n x (gY n i0 t0)),_,rfl,Mx aA (u4 _ _ (s3 _ _ (s2 _ _ (uA _ _ eU)))) (TD.same u4),(Ci _ _ _ _).2,(Ci _ _ _ _).1,Pe ⟨by omega,by omega⟩ w0 bv,Zk,nd,wD _ _ hC,λF fs L' H5 s5 fL TF cF spF eF=> ?_⟩
 have mk:=λB (hB:aK B=1)=>Ih ev St hp ck fk cF spF Zk hB
 exact q _ F L' fs H5 ck fk (mk (mk3 λi j=>if i=j then 1 else 0) (by decide)).1 (λB hB=>(mk B hB).2) (wD.trans s5) (wD.none fL) TF cF eF
end
end CN
set_option maxHeartbeats 1000000
namespace CN
open PySem L2
section
variable{P:Program}{w:World}{K:PySem.W.Frag}{mg:Str->Option Value}{base:Heap}
def zE:Sp:=λvs H Q _=> ∃(t:Addr) (bs:List Addr) (m:List (List Int)),vs=[.ref t]/\Tab H t bs m/\bC m/\ ∀H',au H H'->Q (.bl true) H'
theorem tX(F:fC K mg "_law_is_table" jT gm)(bq:mg "isinstance"=none)(eZ:mg "list"=none)(gA:mg "len"=none)(lS:mg "int"=none)(tL:mg "bool"=none):cQ P w K mg base cj 1 "_law_is_table" gm zE:=by
 refine F.ok ng (λvs H Q E h=> ?_) (λf cdv A outer s H vs Q E hr h=> ?_)
 ·obtain⟨t,bs,m,rfl,hT,cN,q⟩:=h
  rfl
 obtain⟨t,bs,m,rfl,hT,cN,q⟩:=h
 have hu:=hr.units
 refine⟨_,(mR (@ao _ _ _ _ _ (cV (PW.pt (oE (gW (gv (bD eH rfl bq PyProof.Rows.boot_isinstance (af (pv 0) (af (jn (v:= .ty "list") rfl eZ PyProof.Rows.boot_list rfl) ak))))) (lV (bg ju (bD dX rfl gA PySem.boot_len (af (pv 0) ak)) ah (bf _))))) (@aM _ _ _ (aO jt)) cU)
  (@ao _ _ _ _ _ (iX PassesOwn.never rfl (bN (pv 0)) (bL (i:=1) ng.nd rfl (Or.inl rfl)) (mR (@ao _ _ _ _ _ (cV (PW.pt (oE (gW (gv (bD eH rfl bq PyProof.Rows.boot_isinstance (af (pv 1) (af (jn (v:= .ty "list") rfl eZ PyProof.Rows.boot_list rfl) ak))))) (lV (bg ju (bD dX rfl gA PySem.boot_len (af (pv 1) ak)) ah (bf _))))) (@aM _ _ _ (aO jt)) cU)
  (@aM _ _ _ (cV (bg (vS hu) (lP (N2:=["_law_found","_law_row"]) (tt:=(Yi (SN (tB (Fd (Fx K) (bK (aD 0) (bK (tC (.ty "int")) gM))))) (tB (Fd (Fx K) (bK (aD 0) (bK (tC (.ty "bool")) gM)))))) (te:=(aD 0)) rfl (bN (pv 1)) (by kernel_rfl) rfl (λ_ _ _=>by exact rK (PW.pt (oE (gW (gv (bD eH rfl bq PyProof.Rows.boot_isinstance (af (pv 0) (af (jn (v:= .ty "int") rfl lS PyProof.Rows.boot_int rfl) ak))))) (lV (gv (bD eH rfl bq PyProof.Rows.boot_isinstance (af (pv 0) (af (jn (v:= .ty "bool") rfl tL PyProof.Rows.boot_bool rfl) ak)))))))) (λ_ _ _=>by exact dJ (pv 0))) (fQ ak) (bf _)) (@aM _ _ _ (aO jt)) cU)))))
  (@aM _ _ _ (aO jt))))),?_⟩
 have l3:(bs.map V.ref).length=3:=by rw[List.length_map,<-hT.2.length,cN.1]
 refine⟨_,rfl,_,_,_,_,rfl,.lst hT.1,jy K "list",_,rfl,jv ⟨_,rfl,t,_,rfl,.inl (aN.of hT.1),rfl,_,rfl,yO (by rw[l3];rfl) ?_⟩⟩
 refine⟨_,rfl,t,rfl,⟨_,aN.of hT.1⟩,Bg (xs:=bs.map V.ref) (λj σ H'=>(∃o,σ=[some (.ref t),o])/\au H H') ⟨⟨_,rfl⟩,au.refl _⟩ (λj σ H' _ hh=>aN.of (hT.same hh.2).1) (λj v σ H1 ev hh=> ?_) (λσ H1 hh=> ?_)⟩
 ·obtain⟨⟨o,rfl⟩,s1⟩:=hh
  have hj:j<3:=by have:=(List.getElem?_eq_some_iff.mp ev).1;rw[l3]at this;exact this
  obtain⟨b,x1,x2,_⟩:=aY (hT.same s1) cN hj
  have ev':v= .ref b:=by
   have q1:=dU ev
   rw[x1]at q1
   exact(Option.some.inj q1).symm
  subst ev'
  refine⟨_,rfl,_,_,_,_,rfl,.lst x2,jy K "list",_,rfl,jv ⟨_,rfl,b,_,rfl,.inl (aN.of x2),rfl,_,rfl,yO rfl ?_⟩⟩
  refine⟨_,rfl,b,rfl,⟨_,aN.of x2⟩,λD hD=>di (bU (aN.of x2)) (by show 3<=sizeLine;decide) hD (λ_=>false) id (λy hy Ha R sa kk=> ?_) (λy hy px=>absurd px (by decide)) (λHa sa ea=> ?_)⟩
  ·obtain⟨z,rfl⟩:∃z,y= .int z:=by
    simp only[List.mem_cons,List.not_mem_nil,or_false]at hy
    rcases hy with rfl|rfl|rfl<;>exact⟨_,rfl⟩
   exact⟨_,rfl,_,_,_,_,rfl,.int _,jy K "int",_,rfl,jv ⟨_,rfl,_,_,_,_,rfl,.int _,rF K,_,rfl,kk Ha (au.refl _)⟩⟩
  refine⟨(by show 0<=sizeLine;decide),λE hE=> ?_⟩
  have uE:=au.up (o:= .lst []) hE
  refine Ry (xs:=[]) (ys:=[]) (aN.of (uE _ _ ea)) (aN.of aA) ⟨_,rfl,yO rfl ?_⟩
  exact⟨⟨_,rfl⟩,s1.trans (sa.trans uE)⟩
 ·obtain⟨⟨o,rfl⟩,s1⟩:=hh
  exact q H1 s1
end
end CN
set_option maxHeartbeats 1000000
namespace CN
open PySem L2
section
variable{P:Program}{w:World}{K:PySem.W.Frag}{mg:Str->Option Value}{base:Heap}
def Gq(K:PySem.W.Frag)(tabs iu:List Addr):Sp:=λvs H Q _=> ∃(a:Addr) (ns:List Int),vs=[.ref a]/\aN K H a (ns.map V.int)/\ns.length<=63/\(∀T∈tabs,H T=some (cu T))/\(∀T∈iu,H T=some .EU)/\ ∀H',au H H'->Q (.bl true) H'
theorem RW{f:Addr}{fd:FuncData}{b7 aW aU aI aT dj bz dw bZ bX:Addr}{tabs iu:List Addr}(w5:b7∈iu)(Iv:aW∈tabs)(Cp:aU∈tabs)(tY:aI∈tabs)(Em:aT∈tabs)(Iw:dj∈tabs)(yo:bz∈tabs)(En:dw∈tabs)(w9:bZ∈tabs)(Eo:bX∈tabs)(F:PM K "law" "law" rS f fd)(aG:mg "range"=none)(gA:mg "len"=none)(eZ:mg "list"=none)(bq:mg "isinstance"=none)(AI:mg "tuple"=none)(qU:cQ P w K mg base cj 13 "_law_bag" kY (Qd K))(pR:cQ P w K mg base cj 13 "_law_form" jF FU)(n5:cQ P w K mg base cj 13 "_law_prime" iM BP)(ku:cQ P w K mg base cj 13 "_law_lines" iN BQ)(aV:cQ P w K mg base cj 13 "_law_take" eN qP)(iQ:cQ P w K mg base cj 13 "_law_product" gF Gm)(f9:cQ P w K mg base cj 13 "_law_basis" gR wC)(pT:cQ P w K mg base cj 13 "_law_step" jI (Gp b7))(lT:cQ P w K mg base cj 13 "_law_made" jH Gj)(lU:cQ P w K mg base cj 13 "_law_copy" jE LV)(qV:cQ P w K mg base cj 13 "way_back" kX (zD aW aU aI aT dj bz dw bZ bX))(jY:cQ P w K mg base cj 13 "_law_is_table" gm zE)(lD:cQ P w K mg base cj 13 "_law_is_step" gJ wX):rB P w K mg base cj 14 f fd ["_law_script"] (Gq K tabs iu):=by
 refine F.ok jh (λvs H Q E h=> ?_) (λcdv A outer s H vs Q E hr h=> ?_)
 ·obtain⟨a,ns,rfl,hS,h63,hT,hC,q⟩:=h
  rfl
 obtain⟨a,ns,rfl,hS,h63,hT,hC,q⟩:=h
 have hu:=hr.units
 refine⟨_,(mR (@ao _ _ _ _ _ (aX (i:=1) jh.nd rfl (Or.inl rfl) (aR qU hr rfl aQ (af (pv 0) (af ah ak))))
  (@ao _ _ _ _ _ (aX (i:=2) jh.nd rfl (Or.inl rfl) (aR pR hr rfl aQ (af (pv 1) (af ah ak))))
  (@ao _ _ _ _ _ (aX (i:=3) jh.nd rfl (Or.inl rfl) (aR n5 hr rfl aQ (af (pv 1) (af (pv 2) ak))))
  (@ao _ _ _ _ _ (aX (i:=4) jh.nd rfl (Or.inl rfl) (aR ku hr rfl aQ (af (pv 2) (af (pv 3) ak))))
  (@ao _ _ _ _ _ (aX (i:=5) jh.nd rfl (Or.inl rfl) (aE aq (pv 4) (aR aV hr rfl aQ (af (pv 1) (af (bD dX rfl gA PySem.boot_len (af (pv 4) ak)) ak))) (λ_ _=>rfl)))
  (@ao _ _ _ _ _ (aX (i:=6) jh.nd rfl (Or.inl rfl) (aR iQ hr rfl aQ (af (aR f9 hr rfl aQ (af (pv 1) (af ah ak))) (af (aR pT hr rfl aQ (af (pv 2) (af (pv 3) (af (pv 5) ak)))) ak))))
  (@ao _ _ _ _ _ (aX (i:=7) jh.nd rfl (Or.inl rfl) (aR lT hr rfl aQ (af (pv 2) (af (pv 3) (af (pv 6) ak)))))
  (@ao _ _ _ _ _ (aX (i:=8) jh.nd rfl (Or.inl rfl) (sH (af (aR lU hr rfl aQ (af (pv 2) ak)) (af (iz kh rfl eZ PyProof.Rows.boot_list (af (pv 5) ak)) (af (aR lU hr rfl aQ (af (pv 6) ak)) ak)))))
  (@ao _ _ _ _ _ (iX PassesOwn.never rfl (aZ rfl aG (af ah ak)) (bL (i:=9) jh.nd rfl (Or.inl rfl)) (mR (@ao _ _ _ _ _ (aX (i:=10) jh.nd rfl (Or.inl rfl) (aR qV hr rfl aQ (af (aE Dd (pv 8) ah (λ_ _=>rfl)) (af (pv 3) (af (aE Dd (pv 8) ah (λ_ _=>rfl)) (af (aE Dd (pv 8) ah (λ_ _=>rfl)) ak))))))
  (@ao _ _ _ _ _ (cV (PW.pt (oE (bg (vS hu) (pv 8) (sH (af (pv 2) (af (pv 5) (af (pv 6) ak)))) (bf _)) (oE (gW (gv (bD eH rfl bq PyProof.Rows.boot_isinstance (af (pv 10) (af (jn (v:= .ty "tuple") rfl AI PyProof.Rows.boot_tuple rfl) ak))))) (lV (bg ju (bD dX rfl gA PySem.boot_len (af (pv 10) ak)) ah (bf _)))))) (@aM _ _ _ (aO jt)) cU)
  (@ao _ _ _ _ _ (nA (pv 10) (zM rfl (cz (bL (i:=11) jh.nd rfl (Or.inl rfl)) (cz (bL (i:=12) jh.nd rfl (Or.inl rfl)) kg))))
  (@ao _ _ _ _ _ (cV (PW.pt (oE (gW (gv (aR jY hr rfl aQ (af (pv 12) ak)))) (oE (gW (gv (bD eH rfl bq PyProof.Rows.boot_isinstance (af (pv 11) (af (jn (v:= .ty "list") rfl eZ PyProof.Rows.boot_list rfl) ak))))) (lV (bg (Im (gw.RU hr)) (pv 11) (aR ku hr rfl aQ (af (pv 7) (af (pv 3) ak))) (by rfl)))))) (@aM _ _ _ (aO jt)) cU)
  (@ao _ _ _ _ _ (cV (bg (vS hu) (aR iQ hr rfl aQ (af (pv 12) (af (pv 6) ak))) (fQ (af (fQ (af (ay bO (pv 3) (pv 3)) (af ah (af ah ak)))) (af (fQ (af ah (af (ay bO (pv 3) (pv 3)) (af ah ak)))) (af (fQ (af ah (af ah (af (ay bO (pv 3) (pv 3)) ak)))) ak)))) (bf _)) (@aM _ _ _ (aO jt)) cU)
  (@ao _ _ _ _ _ (cV (PW.pt (oE (gW (gv (aR lD hr rfl aQ (af (pv 7) (af (pv 3) (af (pv 11) (af (pv 12) ak))))))) (lV (bg (vS hu) (aR lT hr rfl aQ (af (pv 7) (af (pv 3) (af (pv 12) ak)))) (pv 2) (bf _))))) (@aM _ _ _ (aO jt)) cU)
  (@ao _ _ _ _ _ (jo (uy PySem.F.plainAttrs_list PySem.F.slot_list_append PySem.F.type_list_append gO (pv 11) (af ah ak)))
  (@ao _ _ _ _ _ (jo (uy PySem.F.plainAttrs_list PySem.F.slot_list_append PySem.F.type_list_append gO (aE aq (pv 12) ah (λ_ _=>rfl)) (af ah ak)))
  (@ao _ _ _ _ _ (jo (QT PySem.F.plainAttrs_list PySem.F.slot_list_clear PySem.F.type_list_clear JG (pv 12)))
  (@aM _ _ _ (cV (bg (vS hu) (pv 8) (sH (af (pv 2) (af (pv 5) (af (pv 6) ak)))) (bf _)) (@aM _ _ _ (aO jt)) cU)))))))))))))
  (@aM _ _ _ (aO jt)))))))))))),?_⟩
 refine⟨_,rfl,a,ns,_,rfl,hS,h63,by decide,by decide,λB H1 s1 fB hb=> ?_⟩
 have fin:∀H',SB B H1 H'->au H H':=λH' s b o e=>s.1 b o (λz=>by rw[z,fB]at e;cases e) (s1 b o e)
 refine⟨_,rfl,B,_,rfl,hb,by decide,by decide,λm t bs H2 nq dm ev ab le s2 ft fb nt nn T=> ?_⟩
 have RH:t≠B:=hb.ne ft
 have RJ:B∉bs:=λz=>hb.ne (fb B z) rfl
 refine⟨_,rfl,_,rfl,B,t,bs,m,rfl,s2.2,T,nq,dm,ev,ab,le,λp H3 hp hd s3=> ?_⟩
 have T3:=T.sb s3 RH RJ
 have p0:2<p/\p<14:=by
  simp only[List.mem_cons,List.not_mem_nil,or_false]at hp
  omega
 refine⟨_,rfl,_,rfl,t,bs,m,p,rfl,T3,nq,dm.mono (by decide),ev,by omega,by omega,λS ls H4 s4 fS WY nSl TS=> ?_⟩
 obtain⟨n,rfl⟩:∃n:Nat,p=(n:Int):=⟨p.toNat,by omega⟩
 have hq:n∈([3,5,7,11,13]:List Nat):=by
  simp only[List.mem_cons,List.not_mem_nil,or_false]at hp ⊢
  omega
 rw[Int.toNat_natCast]at TS
 have cL:=DE ev hq hd
 have hL:∀r∈(gc n (n*n)).filter λr=>decide (aH m (av r)%(n:Int)=0),r∈gc n (n*n)/\aH m (av r)%(n:Int)=0:=λr hr=>by
  rw[List.mem_filter]at hr
  exact⟨hr.1,of_decide_eq_true hr.2⟩
 generalize(gc n (n*n)).filter (λr=>decide (aH m (av r)%(n:Int)=0))=L at TS cL hL
 have Zl:=SB.of s3.2 s4
 have T4:=T3.same s4
 have nS:S≠B:=s3.2.ne fS
 have Zm:B∉ls:=λz=>s3.2.ne (WY B z) rfl
 have wD:=(s2.trans s3).trans Zl
 have ll:(ls.map V.ref).length=L.length:=by rw[List.length_map];exact TS.2.length.symm
 refine⟨_,rfl,_,rfl,_,rfl,S,_,rfl,.inl (aN.of TS.1),B,_,rfl,Zl.2,(by rw[ll];omega),log2_small (by rw[ll];omega) (by rw[ll];omega),λd2 H5 d3 d4 s5=> ?_⟩
 have Zn:=TS.sb s5 nS Zm
 obtain⟨v,hv,hv2⟩:=Dn (xs:=ls.map V.ref) (k:=d2) d3 d4
 obtain⟨b,rfl,hbm⟩:=rE (List.mem_of_getElem? hv2)
 obtain⟨r,hr,er⟩:=z9 Zn.2 hbm
 obtain⟨e3,L1⟩:=Dz (show 1<n by omega) (hL r hr).1
 have hc:=(hL r hr).2
 have bx:∀i,i<3->(av r i).natAbs<2^100:=λi hi=>aL (a:=4) (by have:=L1.lo i hi;have:=L1.hi i hi;omega) (by decide)
 have eb:H5 b=some (.lst [.int (av r 0),.int (av r 1),.int (av r 2)]):=by
  rw[er]
  conv=>lhs;rw[e3]
  rfl
 refine⟨S,_,_,_,rfl,rfl,aN.of Zn.1,hv,?_⟩
 have T5:=T4.sb s5 RH RJ
 have LS:=wD.trans s5
 obtain⟨i0,t0,F0⟩:=vv ev hp hd L1
 obtain⟨g1,g2,g3,g4⟩:=jb ev hp hc F0
 have nb:b≠B:=λz=>Zm (by rw[<-z];exact hbm)
 refine⟨_,rfl,B,_,rfl,LS.2,by decide,by decide,λG gt gs H6 cG bG dG s6 fG fgs nG TG=> ?_⟩
 have CS:=LS.trans s6
 have T6:=T5.sb s6 RH RJ
 have Zo:=s6.1 _ _ nb eb
 refine⟨_,rfl,_,rfl,_,rfl,t,bs,m,n,b,av r,rfl,T6,nq,dm,ev,hp,hd,Zo,L1,hc,(fin _ CS) _ _ (hC _ w5),λk F u us H7 ck fk st1 st2 s7 fu TF cF eF=> ?_⟩
 have bF:Bd 160 F:=RQ cF eF (by decide+kernel)
 refine⟨gt,gs,G,u,us,F,rfl,TG.same s7,TF,cG,cF,bG.mono (by decide),bF.mono (by decide),λw ws H8 s8 fw TW=> ?_⟩
 have cW:bC (fq G F):=bP _
 have bW:Bd 270 (fq G F):=(qa bG bF).mono (by decide)
 have UW:=st2 G dG
 generalize fq G F=W at TW cW bW UW
 have XM:=s7.trans s8
 have UN:=CS.trans (SB.of CS.2 XM)
 have T8:=T6.same XM
 have Zp:=XM _ _ Zo
 obtain⟨M,cM,eM,hM⟩:=zw ev hp (x:=av r) (up:=d9 n (av r) k) ck (λj _=>by
  unfold d9
  exact jq (k:=(digit n k j:Int)) (by rw[Int.mul_comm])) UW
 have bM:=Ck (show(0:Int)<n by omega) dm bW hM
 refine⟨_,rfl,_,rfl,_,rfl,t,bs,m,(n:Int),w,ws,W,M,rfl,T8,TW,nq,cW,dm.mono (by decide),bW.mono (by decide),by omega,by omega,(λa b ha hb=>by rw[kO m W ha hb,hM a b ha hb]),cM,λv vs H9 s9 fv fvs nv nnv Tv=> ?_⟩
 have VH:=UN.trans (SB.of UN.2 s9)
 refine⟨_,rfl,t,bs,m,rfl,T8.same s9,nq,λh hs Ha sa fh fhs nh nnh Th=>⟨_,rfl,b,_,rfl,.inl (aN.of (sa _ _ (s9 _ _ Zp))),λgg fg=> ?_⟩⟩
 have ug:=au.up (o:= .lst [.int (av r 0),.int (av r 1),.int (av r 2)]) fg
 refine⟨_,rfl,w,ws,W,rfl,((TW.same s9).same sa).same ug,cW,λx xs Hb sb fx fxs nx nnx Tx=>⟨(by show 3<=sizeLine;decide),λP hP=> ?_⟩⟩
 have uP:=au.up (o:= .tup [.ref h,.ref gg,.ref x]) hP
 have Zq:=ug.trans (sb.trans uP)
 have SA:=sa.trans Zq
 have Th:=Th.same Zq
 have eg:=uP _ _ (sb _ _ (aA (H:=Ha) (a:=gg) (o:= .lst [.int (av r 0),.int (av r 1),.int (av r 2)])))
 have Tw:=Tx.same uP
 have eP:upd Hb P (.tup [.ref h,.ref gg,.ref x]) P=some (.tup [.ref h,.ref gg,.ref x]):=aA
 have T9:=(T8.same s9).same SA
 have VI:=(TW.same s9).same SA
 have XN:=SA _ _ (s9 _ _ Zp)
 have VJ:=Tv.same SA
 have g0:=fin _ (VH.trans (SB.of VH.2 SA))
 have s1z:=VH.trans (SB.of VH.2 SA)
 generalize upd Hb P (.tup [.ref h,.ref gg,.ref x])=H0 at Th eg Tw eP T9 VI XN VJ g0 s1z
 refine⟨2,rfl,by decide,by decide,fP (n:=2) (λj σ H'=> ∃o9 XO XQ XR,σ=[some (.ref a),some (.ref B),some (.ref t),some (.int (n:Int)),some (.ref S),some (.ref b),some (.ref w),some (.ref v),some (.ref P),o9,XO,XQ,XR]/\au H0 H') ⟨_,_,_,_,rfl,au.refl _⟩ (λj σ XS hj hk=> ?_) (λσ XS hk=> ?_)⟩
 rotate_left
 ·obtain⟨o9,XO,XQ,XR,rfl,sj⟩:=hk
  exact q XS (g0.trans sj)
 obtain⟨o9,XO,XQ,XR,rfl,sj⟩:=hk
 have gj:=g0.trans sj
 refine⟨_,rfl,P,_,_,_,rfl,rfl,p6.of (sj _ _ eP),rfl,_,rfl,_,rfl,P,_,_,_,rfl,rfl,p6.of (sj _ _ eP),rfl,_,rfl,P,_,_,_,rfl,rfl,p6.of (sj _ _ eP),rfl,h,hs,m,n,gg,av r,x,xs,W,rfl,Th.same sj,nq,dm,ev,ab,le,hp,hd,sj _ _ eg,L1,hc,Tw.same sj,cW,bW,(gj) _ _ (hT _ Iv),(gj) _ _ (hT _ Cp),(gj) _ _ (hT _ tY),(gj) _ _ (hT _ Em),(gj) _ _ (hT _ Iw),(gj) _ _ (hT _ yo),(gj) _ _ (hT _ En),(gj) _ _ (hT _ w9),(gj) _ _ (hT _ Eo),(λi tm Fi=> ?_),λi tm M2 Bk sg u ai P2 y z zs Hc Fi VL Qk hM2 hh ha Zr u0 u1 eu sc fP2 fy fz fzs nz nyz Sy ry Tz=> ?_⟩
 ·obtain⟨tn,rfl⟩:∃tn:Nat,tm=(tn:Int):=⟨tm.toNat,by have:=Fi.lo;omega⟩
  obtain⟨_,k2,k3,k4⟩:=jb ev hp hc Fi
  have ek:gY n i tn=k:=wc (P:=λk=>aH m (d9 n (av r) k)%((n:Int)*n)=0) k3 k4 ck fk
  rw[<-ek]at UW
  exact(Pc k2).mp UW
 have nn:(n:Int)*n≠0:=Int.ne_of_gt (Int.mul_pos (by omega) (by omega))
 have eMM:M2=M:=AF VL cM λi j hi hj=>Int.eq_of_mul_eq_mul_left nn (by rw[<-hM2 i j hi hj,<-hM i j hi hj])
 subst eMM
 have XT:=Gi (by omega) bW hh
 have Ql:=sj.trans sc
 refine⟨_,rfl,_,rfl,_,rfl,_,rfl,(by show 3<=sizeLine;decide),λW1 Qm=>vt (.tuple [uO m,lM [av r 0,av r 1,av r 2],uO W]) (Gk (au.up Qm _ _ (Ql _ _ eP)) ((Th.same Ql).same (au.up Qm)) (au.up Qm _ _ (Ql _ _ eg)) ((Tw.same Ql).same (au.up Qm))) (Gk aA ((T9.same Ql).same (au.up Qm)) (au.up Qm _ _ (Ql _ _ XN)) ((VI.same Ql).same (au.up Qm))) (wR _ _ _) ⟨_,rfl,jv ?_⟩⟩
 have SD:=au.up (o:= .tup [.ref t,.ref b,.ref w]) Qm
 have UX:=Ql.trans SD
 refine⟨_,rfl,_,_,_,_,rfl,.tup (SD _ _ Sy),jy K "tuple",_,rfl,jv ?_⟩
 refine⟨_,rfl,P2,_,rfl,.inr (p6.of (SD _ _ Sy)),rfl,_,rfl,yO rfl ?_⟩
 refine⟨_,rfl,P2,[.ref y,.ref z],rfl,p6.of (SD _ _ Sy),rfl,_,_,rfl,_,_,rfl,rfl,?_⟩
 have Tz:=Tz.same SD
 have ry:=ry.same SD
 have Ly:=yZ (show(1:Int)<n by omega) eu Zr
 have hyc:=Hs (u:=u) Qk (zC ev Qk (by omega) hM hh ha)
 refine⟨_,rfl,z,zs,Bk,rfl,Tz,hh.nq,λHd sd=>⟨_,rfl,jv ?_⟩⟩
 refine⟨_,rfl,_,_,_,_,rfl,.lst (sd _ _ ry),jy K "list",_,rfl,jv ?_⟩
 refine⟨_,rfl,_,rfl,_,rfl,v,vs,M2,(n:Int),rfl,(VJ.same UX).same sd,VL,bM,Qk,by omega,by omega,λSL lls He se fSL aab nSL Zs=> ?_⟩
 rw[Int.toNat_natCast]at Zs
 have ryE:=se _ _ (sd _ _ ry)
 refine Ip (row:=[u*(ent Bk ai 0%(n:Int))%(n:Int),u*(ent Bk ai 1%(n:Int))%(n:Int),u*(ent Bk ai 2%(n:Int))%(n:Int)]) Zs ryE (List.mem_filter.mpr ⟨DA (show 1<n by omega) Ly,decide_eq_true ?_⟩) ⟨_,rfl,jv ?_⟩
 ·rw[rL Qk (y:=λi=>u*(ent Bk ai i%(n:Int))%(n:Int)) (λi hi=>by rcases aC hi with rfl|rfl|rfl<;>rfl)]
  exact hyc
 have XU:=sd.trans se
 have s0e:=UX.trans XU
 refine⟨_,rfl,_,rfl,z,zs,Bk,w,ws,W,rfl,Tz.same XU,VI.same s0e,hh.nq,cW,XT.mono (by decide),bW.mono (by decide),λpr prs Hf sf fpr Zt=> ?_⟩
 refine⟨_,rfl,_,rfl,_,_,rfl,rfl,.inl ⟨by omega,by omega⟩,(by show 3<=sizeLine;decide),λa0 h0=>⟨_,rfl,_,rfl,_,_,rfl,rfl,.inl ⟨by omega,by omega⟩,(by show 3<=sizeLine;decide),λa1 h1=>⟨_,rfl,_,rfl,_,_,rfl,rfl,.inl ⟨by omega,by omega⟩,(by show 3<=sizeLine;decide),λa2 h2=>⟨(by show 3<=sizeLine;decide),λA hA=> ?_⟩⟩⟩⟩
 have v0:=au.up (o:= .lst [.int ((n:Int)*n),.int 0,.int 0]) h0
 have v1:=au.up (o:= .lst [.int 0,.int ((n:Int)*n),.int 0]) h1
 have v2:=au.up (o:= .lst [.int 0,.int 0,.int ((n:Int)*n)]) h2
 have vA:=au.up (o:= .lst [.ref a0,.ref a1,.ref a2]) hA
 have Zu:=v0.trans (v1.trans (v2.trans vA))
 have TU:=nH (λi j=>if i=j then(n:Int)*n else 0) (aA (H:=upd (upd (upd Hf a0 (.lst [.int ((n:Int)*n),.int 0,.int 0])) a1 (.lst [.int 0,.int ((n:Int)*n),.int 0])) a2 (.lst [.int 0,.int 0,.int ((n:Int)*n)])) (a:=A) (o:= .lst [.ref a0,.ref a1,.ref a2])) (vA _ _ (v2 _ _ (v1 _ _ (aA (H:=Hf) (a:=a0) (o:= .lst [.int ((n:Int)*n),.int 0,.int 0]))))) (vA _ _ (v2 _ _ (aA (H:=upd Hf a0 (.lst [.int ((n:Int)*n),.int 0,.int 0])) (a:=a1) (o:= .lst [.int 0,.int ((n:Int)*n),.int 0])))) (vA _ _ (aA (H:=upd (upd Hf a0 (.lst [.int ((n:Int)*n),.int 0,.int 0])) a1 (.lst [.int 0,.int ((n:Int)*n),.int 0])) (a:=a2) (o:= .lst [.int 0,.int 0,.int ((n:Int)*n)])))
 rw[hh.left]at Zt
 refine vt (uO (kL ((n:Int)*n))) (uB (Zt.same Zu)) (uB TU) (qE _) ⟨_,rfl,jv ?_⟩
 obtain⟨dM,abM⟩:=HP ev nq ab (show 0<(n:Int)by omega) UW.1 cW cM Qk hM
 have hdM:aK M2/2%(n:Int)≠0:=by rw[dM];exact hd
 obtain⟨i2,t2,F2⟩:=vv Qk hp hdM Ly
 obtain⟨q1,q2,q3,q4⟩:=jb Qk hp hyc F2
 have VM:=XU.trans (sf.trans Zu)
 have s0f:=UX.trans VM
 have byv:∀i,i<3->(u*(ent Bk ai i%(n:Int))%(n:Int)).natAbs<2^100:=λi hi=>aL (a:=4) (by have:=Ly.lo i hi;have:=Ly.hi i hi;omega) (by decide)
 refine⟨_,rfl,_,rfl,_,rfl,_,rfl,v,vs,M2,n,y,(λi=>u*(ent Bk ai i%(n:Int))%(n:Int)),z,zs,Bk,rfl,VJ.same s0f,VL,bM,VM _ _ ry,Tz.same VM,hh.nq,XT,byv,by omega,by omega,⟨_,q1,q3⟩,λk2 bo Hg ck2 fk2 RT sg2=> ?_⟩
 have eb:bo=true:=RT.mpr (Il ev Qk (by omega) hM hh ha Zr eu ck2 λi _=>by
  unfold d9
  exact jq (k:=(digit n k2 i:Int)) (by rw[Int.mul_comm]))
 subst eb
 refine⟨_,rfl,jv ?_⟩
 have XW:=VM.trans sg2
 have s0g:=UX.trans XW
 refine⟨_,rfl,_,rfl,_,rfl,v,vs,M2,(n:Int),z,zs,Bk,m,rfl,VJ.same s0g,Tz.same XW,VL,hh.nq,bM,XT,by omega,by omega,(λa b ha hb=>by rw[kO M2 Bk ha hb,qT (by omega) hM hh ha hb]),nq,λf fs Hh sh ff ffs nf nnf Tf=> ?_⟩
 have XX:=XW.trans sh
 have Zv:=UX.trans XX
 refine⟨_,rfl,vt _ (uB Tf) (uB (T9.same Zv)) (qE _) ⟨_,rfl,jv ?_⟩⟩
 have XY:=XX _ _ ry
 have XZ:=Tz.same XX
 have MF:∀{b:Addr},XS b=none->H0 b=none:=λe=>sj.none e
 obtain⟨z0,x1,x2,x3⟩:=aY XZ hh.nq (i:=0) (by decide)
 have Xd:z≠y:=λw=>by
  have e:=XZ.1
  rw[w,XY]at e
  cases zs with
  |nil=>cases e
  |cons c cs=>cases e
 have Yb:z0≠y:=λw=>nyz (by rw[<-w];exact x3)
 have Yc:z≠z0:=λw=>nz (by rw[w];exact x3)
 refine⟨_,rfl,.inl ⟨rfl,_,aN.of XY⟩,y,_,_,rfl,rfl,XY,(by show 3<sizeLine;decide),?_⟩
 have Yd:upd Hh y (.lst ([V.int (u*(ent Bk ai 0%(n:Int))%(n:Int)),.int (u*(ent Bk ai 1%(n:Int))%(n:Int)),.int (u*(ent Bk ai 2%(n:Int))%(n:Int))]++ [V.int 0])) z=some (.lst (zs.map V.ref)):=by rw[aF Xd];exact XZ.1
 have Ye:upd Hh y (.lst ([V.int (u*(ent Bk ai 0%(n:Int))%(n:Int)),.int (u*(ent Bk ai 1%(n:Int))%(n:Int)),.int (u*(ent Bk ai 2%(n:Int))%(n:Int))]++ [V.int 0])) z0=some (.lst [V.int (ent Bk 0 0),.int (ent Bk 0 1),.int (ent Bk 0 2)]):=by rw[aF Yb];exact x2
 have sA:=Zv.upd (o:= .lst ([V.int (u*(ent Bk ai 0%(n:Int))%(n:Int)),.int (u*(ent Bk ai 1%(n:Int))%(n:Int)),.int (u*(ent Bk ai 2%(n:Int))%(n:Int))]++ [V.int 0])) (MF fy)
 generalize upd Hh y (.lst ([V.int (u*(ent Bk ai 0%(n:Int))%(n:Int)),.int (u*(ent Bk ai 1%(n:Int))%(n:Int)),.int (u*(ent Bk ai 2%(n:Int))%(n:Int))]++ [V.int 0]))=Hi at Yd Ye sA
 refine⟨_,rfl,z,_,_,_,rfl,rfl,aN.of Yd,x1,.inl ⟨rfl,_,aN.of Ye⟩,z0,_,_,rfl,rfl,Ye,(by show 3<sizeLine;decide),?_⟩
 have Yg:upd Hi z0 (.lst ([V.int (ent Bk 0 0),.int (ent Bk 0 1),.int (ent Bk 0 2)]++ [V.int 0])) z=some (.lst (zs.map V.ref)):=by rw[aF Yc];exact Yd
 have sB:=sA.upd (o:= .lst ([V.int (ent Bk 0 0),.int (ent Bk 0 1),.int (ent Bk 0 2)]++ [V.int 0])) (MF (fzs z0 x3))
 generalize upd Hi z0 (.lst ([V.int (ent Bk 0 0),.int (ent Bk 0 1),.int (ent Bk 0 2)]++ [V.int 0]))=Hk at Yg sB
 refine⟨_,rfl,.inl ⟨rfl,_,aN.of Yg⟩,z,_,rfl,rfl,Yg,?_⟩
 have sC:=sB.upd (o:= .lst []) (MF fz)
 refine⟨_,rfl,_,rfl,_,rfl,_,rfl,(by show 3<=sizeLine;decide),λW2 Qn=>vt (.tuple [uO m,lM [av r 0,av r 1,av r 2],uO W]) (Gk (au.up Qn _ _ (sC _ _ eP)) ((Th.same sC).same (au.up Qn)) (au.up Qn _ _ (sC _ _ eg)) ((Tw.same sC).same (au.up Qn))) (Gk aA ((T9.same sC).same (au.up Qn)) (au.up Qn _ _ (sC _ _ XN)) ((VI.same sC).same (au.up Qn))) (wR _ _ _) ⟨_,rfl,jv ?_⟩⟩
 exact⟨_,_,_,_,rfl,sC.trans (au.up Qn)⟩
end
end CN
set_option maxHeartbeats 1000000
namespace CN
open PySem L2
section
variable{P:Program}{w:World}{K:PySem.W.Frag}{mg:Str->Option Value}{base:Heap}
end
theorem all_mk{l:PySem.W.OpenLaw}{q:Program}{loose:List Str}{mean:ExcName->Option Value}{w:World}{K:PySem.W.Frag}{h:Heap}{mg mb:Str->Option Value}{fa qw Ep Cq qW xg AJ xh rZ vc xj AK Cr AL Ct AM Cu Cv zF yp xm yq Pq Iz IA Er Cw xo oK ID RX zG Pr yr r6 Es AN Cy r8 AO IE tZ xq yt xr xu zH Cz qx IF CA Et vd MH:Addr}(X:K.In h)(Tp:PyProof.Rows.Top q loose mean mg mb h)(hfa:mg "law"=some (.ref fa))
  (mF:FnAt K "_law_stairs" mw qw)
  (qX:FnAt K "_law_bag" qO Ep)
  (pU:FnAt K "_law_take" pG Cq)
  (iy:FnAt K "_law_determinant" iw qW)
  (lE:FnAt K "_law_pairing" kZ xg)
  (n6:FnAt K "_law_worth" nQ AJ)
  (lF:FnAt K "_law_carried" k9 xh)
  (iR:FnAt K "_law_drawn_form" iL rZ)
  (jZ:FnAt K "_law_is_above" jS vc)
  (lG:FnAt K "_law_reduced" lg xj)
  (n8:FnAt K "_law_basis" nT AK)
  (pV:FnAt K "_law_form" pI Cr)
  (n9:FnAt K "_law_prime" nV AL)
  (pW:FnAt K "_law_rows" pJ Ct)
  (oh:FnAt K "_law_lines" nW AM)
  (pX:FnAt K "_law_lift" pK Cu)
  (pY:FnAt K "_law_copy" pH Cv)
  (t6:FnAt K "product" sW zF)
  (mG:FnAt K "turned_over" l7 yp)
  (lH:FnAt K "signed_minor" kU xm)
  (mH:FnAt K "determinant" l8 yq)
  (AQ:FnAt K "cover" Ah Pq)
  (t7:FnAt K "carried" sX Iz)
  (t8:FnAt K "low_row" tw IA)
  (qY:FnAt K "is_whole" qI Er)
  (xw:FnAt K "is_row" wj Cw)
  (qZ:FnAt K "is_table" qJ xo)
  (j3:FnAt K "is_even_table" jQ oK)
  (t9:FnAt K "is_form" sZ ID)
  (Eu:FnAt K "half" DJ RX)
  (ud:FnAt K "pairing" tu zG)
  (AR:FnAt K "worth" Ai Pr)
  (mJ:FnAt K "is_prime_by" l9 yr)
  (iS:FnAt K "refuse_no_prime" iI r6)
  (q8:FnAt K "upturned" qM Es)
  (om:FnAt K "line_under" nM AN)
  (xx:FnAt K "slopes" wz Cy)
  (oq:FnAt K "last_slope" nN r8)
  (ou:FnAt K "first_lift" nO AO)
  (ue:FnAt K "is_line" tD IE)
  (jm:FnAt K "refuse_no_line" jg tZ)
  (lI:FnAt K "_law_product" k8 xq)
  (mK:FnAt K "_law_across" mq yt)
  (lJ:FnAt K "_law_is_good" lq xr)
  (lK:FnAt K "_law_is_step" lu xu)
  (uf:FnAt K "is_good" tF zH)
  (pZ:FnAt K "_law_step" pM Cz)
  (mL:FnAt K "steps_along" mh qx)
  (uh:FnAt K "made_by" tE IF)
  (p5:FnAt K "_law_made" pL CA)
  (q9:FnAt K "way_back" qN Et)
  (j4:FnAt K "_law_is_table" jT vd)
  {RY MI:Option Addr}{RZ:Array (Option Value)}{Sa MJ MK ML Ew MM:Value}(Gr:PySem.W.nsIn K mainGlobals "law"=some (some (.ref MH)))(MN:K.lookup MH=some ⟨Sa,RY,.func (PySem.W.fnOf "law" "law" (ie rS) (fM rS) (aB rS) .none MJ MK ML MI Ew MM),RZ⟩)(MO:PySem.W.codeIn K Ew "law"=true)(MP:PySem.W.keepIn K (.ref MH)=true)
  {yu:DefRec}(mO:(PyProof.Rows.recsOf q).find? (λe=>e.name==("_law_stairs":Str))=some yu)
  {II:DefRec}(um:(PyProof.Rows.recsOf q).find? (λe=>e.name==("product":Str))=some II)
  {MQ:DefRec}(xy:(PyProof.Rows.recsOf q).find? (λe=>e.name==("is_row":Str))=some MQ)
  {Ex:DefRec}(rf:(PyProof.Rows.recsOf q).find? (λe=>e.name==("is_table":Str))=some Ex)
  {ve:DefRec}(j5:(PyProof.Rows.recsOf q).find? (λe=>e.name==("is_even_table":Str))=some ve)
  {IJ:DefRec}(uo:(PyProof.Rows.recsOf q).find? (λe=>e.name==("pairing":Str))=some IJ)
  {MR:DefRec}(xA:(PyProof.Rows.recsOf q).find? (λe=>e.name==("slopes":Str))=some MR)
  {AS:DefRec}(ow:(PyProof.Rows.recsOf q).find? (λe=>e.name==("last_slope":Str))=some AS)
  {IK:DefRec}(uq:(PyProof.Rows.recsOf q).find? (λe=>e.name==("is_good":Str))=some IK)
  {yv:DefRec}(mP:(PyProof.Rows.recsOf q).find? (λe=>e.name==("steps_along":Str))=some yv)
  (Ey:PySem.W.nsIn K mainGlobals "list"=some none)
  (AU:PySem.W.nsIn K mainGlobals "range"=some none)
  (MS:PySem.W.nsIn K mainGlobals "len"=some none)
  (xB:PySem.W.nsIn K mainGlobals "sorted"=some none)
  (MT:PySem.W.nsIn K mainGlobals "abs"=some none)
  (MU:PySem.W.nsIn K mainGlobals "zip"=some none)
  (MV:PySem.W.nsIn K mainGlobals "int"=some none)
  (MW:PySem.W.nsIn K mainGlobals "min"=some none)
  (MX:PySem.W.nsIn K mainGlobals "sum"=some none)
  (oA:PySem.W.nsIn K mainGlobals "isinstance"=some none)
  (y_bool:PySem.W.nsIn K mainGlobals "bool"=some none)
  (MY:PySem.W.nsIn K mainGlobals "all"=some none)
  {jW:_}(j6:PySem.W.nsIn K mainGlobals "GREATEST_HALF"=some (some (Value.int 200 jW)))
  {jJ:Addr}{IL:Option Addr}{MZ:Nat}{IM:Array (Option Value)}{Ez EA EB EC ED:_}(xC:PySem.W.nsIn K mainGlobals "PRIMES"=some (some (Value.ref jJ)))(ur:K.lookup jJ=some ⟨.type "tuple",IL,.seq #[.int 3 Ez,.int 5 EA,.int 7 EB,.int 11 EC,.int 13 ED] MZ,IM⟩)
  (Na:PySem.W.nsIn K mainGlobals "max"=some none)
  (Nb:PySem.W.nsIn K mainGlobals "any"=some none)
  (AV:PySem.W.nsIn K mainGlobals "tuple"=some none)
  (ap:JV K [zF,Cw,xo,oK,zG,Cy,r8,zH,qx] [qw]=true)
  :∃(fd:FuncData) (tabs iu:List Addr),(∀(s:Shared) (v:Value),BindsTo s fd ⟨[v],[]⟩ [("_law_script",v)])/\(∀T∈tabs++iu,isCodeTable h T/\h.get? T=some {cls:= .none,data:= .fields #[]})/\(∀T∈tabs,T∉iu)/\ ∀base:Heap,K.In base->base.Ns mainGlobals mg->BM mg base->rB l.prog w K mg base cj 40 fa fd ["_law_script"] (Gq K tabs iu):=by
 have G:=Tp.g
 have e:=hfa.symm.trans (PySem.W.mg_of X G Gr)
 cases e
 have Zw:=PySem.W.mg_of X G Gr
 obtain⟨b7,yw,xD,xE,dO⟩:=mF.x8 (ps:=ic) Tp X mO (λ_ _ _ _ _ _ us hl=>match us,hl with| [_],_=>rfl)
 have EE:=qX.fun (ps:=kY) Tp X (λ_ _ _ _ _ _ us hl=>match us,hl with| [_,_],_=>rfl)
 have CB:=pU.fun (ps:=eN) Tp X (λ_ _ _ _ _ _ us hl=>match us,hl with| [_,_],_=>rfl)
 have rg:=iy.fun (ps:=cI) Tp X (λ_ _ _ _ _ _ us hl=>match us,hl with| [_],_=>rfl)
 have xF:=lE.fun (ps:=dY) Tp X (λ_ _ _ _ _ _ us hl=>match us,hl with| [_,_,_],_=>rfl)
 have AW:=n6.fun (ps:=gQ) Tp X (λ_ _ _ _ _ _ us hl=>match us,hl with| [_,_],_=>rfl)
 have xG:=lF.fun (ps:=fY) Tp X (λ_ _ _ _ _ _ us hl=>match us,hl with| [_,_],_=>rfl)
 have r9:=iR.fun (ps:=fK) Tp X (λ_ _ _ _ _ _ us hl=>match us,hl with| [_,_],_=>rfl)
 have vf:=jZ.fun (ps:=gk) Tp X (λ_ _ _ _ _ _ us hl=>match us,hl with| [_],_=>rfl)
 have xH:=lG.fun (ps:=gG) Tp X (λ_ _ _ _ _ _ us hl=>match us,hl with| [_,_],_=>rfl)
 have AX:=n8.fun (ps:=gR) Tp X (λ_ _ _ _ _ _ us hl=>match us,hl with| [_,_],_=>rfl)
 have CC:=pV.fun (ps:=jF) Tp X (λ_ _ _ _ _ _ us hl=>match us,hl with| [_,_],_=>rfl)
 have AY:=n9.fun (ps:=iM) Tp X (λ_ _ _ _ _ _ us hl=>match us,hl with| [_,_],_=>rfl)
 have CD:=pW.fun (ps:=jG) Tp X (λ_ _ _ _ _ _ us hl=>match us,hl with| [_],_=>rfl)
 have AZ:=oh.fun (ps:=iN) Tp X (λ_ _ _ _ _ _ us hl=>match us,hl with| [_,_],_=>rfl)
 have CF:=pX.fun (ps:=iB) Tp X (λ_ _ _ _ _ _ us hl=>match us,hl with| [_,_,_],_=>rfl)
 have CG:=pY.fun (ps:=jE) Tp X (λ_ _ _ _ _ _ us hl=>match us,hl with| [_],_=>rfl)
 obtain⟨bX,IP,EF,EG,EH⟩:=t6.x8 (ps:=mY) Tp X um (λ_ _ _ _ _ _ us hl=>match us,hl with| [_,_],_=>rfl)
 have yx:=mG.fun (ps:=gp) Tp X (λ_ _ _ _ _ _ us hl=>match us,hl with| [_],_=>rfl)
 have xJ:=lH.fun (ps:=gE) Tp X (λ_ _ _ _ _ _ us hl=>match us,hl with| [_,_,_],_=>rfl)
 have yy:=mH.fun (ps:=eK) Tp X (λ_ _ _ _ _ _ us hl=>match us,hl with| [_],_=>rfl)
 have Pu:=AQ.fun (ps:=qc) Tp X (λ_ _ _ _ _ _ us hl=>match us,hl with| [_],_=>rfl)
 have IQ:=t7.fun (ps:=mZ) Tp X (λ_ _ _ _ _ _ us hl=>match us,hl with| [_,_],_=>rfl)
 have IS:=t8.fun (ps:=m6) Tp X (λ_ _ _ _ _ _ us hl=>match us,hl with| [_],_=>rfl)
 have EI:=qY.fun (ps:=jd) Tp X (λ_ _ _ _ _ _ us hl=>match us,hl with| [_],_=>rfl)
 obtain⟨aW,Nc,IT,IU,IV⟩:=xw.x8 (ps:=mX) Tp X xy (λ_ _ _ _ _ _ us hl=>match us,hl with| [_],_=>rfl)
 obtain⟨aU,EJ,CH,CI,CJ⟩:=qZ.x8 (ps:=je) Tp X rf (λ_ _ _ _ _ _ us hl=>match us,hl with| [_],_=>rfl)
 obtain⟨aI,vg,uu,uv,uw⟩:=j3.x8 (ps:=gf) Tp X j5 (λ_ _ _ _ _ _ us hl=>match us,hl with| [_],_=>rfl)
 have IW:=t9.fun (ps:=m5) Tp X (λ_ _ _ _ _ _ us hl=>match us,hl with| [_],_=>rfl)
 have Sb:=Eu.fun (ps:=wo) Tp X (λ_ _ _ _ _ _ us hl=>match us,hl with| [_],_=>rfl)
 obtain⟨aT,IY,EK,EL,EM⟩:=ud.x8 (ps:=kE) Tp X uo (λ_ _ _ _ _ _ us hl=>match us,hl with| [_,_,_],_=>rfl)
 have Pw:=AR.fun (ps:=qd) Tp X (λ_ _ _ _ _ _ us hl=>match us,hl with| [_,_],_=>rfl)
 have yz:=mJ.fun (ps:=g6) Tp X (λ_ _ _ _ _ _ us hl=>match us,hl with| [_,_],_=>rfl)
 have sq:=iS.fun (ps:=fJ) Tp X (λ_ _ _ _ _ _ us hl=>match us,hl with| [_,_],_=>rfl)
 have EN:=q8.fun (ps:=jf) Tp X (λ_ _ _ _ _ _ us hl=>match us,hl with| [_,_],_=>rfl)
 have Ba:=om.fun (ps:=gP) Tp X (λ_ _ _ _ _ _ us hl=>match us,hl with| [_,_,_],_=>rfl)
 obtain⟨dj,Nd,IZ,Ja,Jb⟩:=xx.x8 (ps:=pD) Tp X xA (λ_ _ _ _ _ _ us hl=>match us,hl with| [_,_,_],_=>rfl)
 obtain⟨bz,Bb,yC,yD,yE⟩:=oq.x8 (ps:=iJ) Tp X ow (λ_ _ _ _ _ _ us hl=>match us,hl with| [_],_=>rfl)
 have Bc:=ou.fun (ps:=iK) Tp X (λ_ _ _ _ _ _ us hl=>match us,hl with| [_,_,_],_=>rfl)
 have Jc:=ue.fun (ps:=m7) Tp X (λ_ _ _ _ _ _ us hl=>match us,hl with| [_,_,_],_=>rfl)
 have ux:=jm.fun (ps:=fX) Tp X (λ_ _ _ _ _ _ us hl=>match us,hl with| [_,_,_],_=>rfl)
 have xK:=lI.fun (ps:=gF) Tp X (λ_ _ _ _ _ _ us hl=>match us,hl with| [_,_],_=>rfl)
 have yF:=mK.fun (ps:=g9) Tp X (λ_ _ _ _ _ _ us hl=>match us,hl with| [_,_,_],_=>rfl)
 have xM:=lJ.fun (ps:=gH) Tp X (λ_ _ _ _ _ _ us hl=>match us,hl with| [_,_,_,_,_],_=>rfl)
 have xN:=lK.fun (ps:=gJ) Tp X (λ_ _ _ _ _ _ us hl=>match us,hl with| [_,_,_,_],_=>rfl)
 obtain⟨dw,Jd,EO,ER,ES⟩:=uf.x8 (ps:=m9) Tp X uq (λ_ _ _ _ _ _ us hl=>match us,hl with| [_,_,_,_,_],_=>rfl)
 have CL:=pZ.fun (ps:=jI) Tp X (λ_ _ _ _ _ _ us hl=>match us,hl with| [_,_,_],_=>rfl)
 obtain⟨bZ,yG,xO,xP,xQ⟩:=mL.x8 (ps:=g8) Tp X mP (λ_ _ _ _ _ _ us hl=>match us,hl with| [_,_,_,_],_=>rfl)
 have Je:=uh.fun (ps:=m8) Tp X (λ_ _ _ _ _ _ us hl=>match us,hl with| [_,_,_],_=>rfl)
 have CM:=p5.fun (ps:=jH) Tp X (λ_ _ _ _ _ _ us hl=>match us,hl with| [_,_,_],_=>rfl)
 have ET:=q9.fun (ps:=kX) Tp X (λ_ _ _ _ _ _ us hl=>match us,hl with| [_,_,_,_],_=>rfl)
 have vh:=j4.fun (ps:=gm) Tp X (λ_ _ _ _ _ _ us hl=>match us,hl with| [_],_=>rfl)
 have UY:=JI (st:=rS) MN MO MP
 have eZ:=PySem.W.mg_none_of X G Ey
 have aG:=PySem.W.mg_none_of X G AU
 have gA:=PySem.W.mg_none_of X G MS
 have wZ:=PySem.W.mg_none_of X G xB
 have ni:=PySem.W.mg_none_of X G MT
 have oH:=PySem.W.mg_none_of X G MU
 have lS:=PySem.W.mg_none_of X G MV
 have LU:=PySem.W.mg_none_of X G MW
 have oJ:=PySem.W.mg_none_of X G MX
 have bq:=PySem.W.mg_none_of X G oA
 have tL:=PySem.W.mg_none_of X G y_bool
 have iV:=PySem.W.mg_none_of X G MY
 have jX:=PySem.W.mg_of X G j6
 have wI:=PySem.W.mg_of X G xC
 have wJ:∀H:Hp,p6 K H jJ [.int 3,.int 5,.int 7,.int 11,.int 13]:=λH=> .inr ⟨_,_,_,ur,rfl,rfl,(by show 5<=sizeLine;decide),(.cons ⟨_,rfl⟩ (.cons ⟨_,rfl⟩ (.cons ⟨_,rfl⟩ (.cons ⟨_,rfl⟩ (.cons ⟨_,rfl⟩ .nil)))))⟩
 have Mf:=PySem.W.mg_none_of X G Na
 have zv:=PySem.W.mg_none_of X G Nb
 have AI:=PySem.W.mg_none_of X G AV
 refine⟨PySem.W.fnOf "law" "law" (ie rS) (fM rS) (aB rS) .none MJ MK ML MI Ew MM,[bX,aW,aU,aI,aT,dj,bz,dw,bZ],[b7],λs v=> .of_eq rfl,λT hT=> ?_,λT hT hC=> ?_,λbase Se _ bm=> ?_⟩
 ·simp only[List.mem_append,List.mem_cons,List.not_mem_nil,or_false,or_assoc]at hT
  rcases hT with rfl|rfl|rfl|rfl|rfl|rfl|rfl|rfl|rfl|rfl
  ·exact⟨EF,EG⟩
  ·exact⟨IT,IU⟩
  ·exact⟨CH,CI⟩
  ·exact⟨uu,uv⟩
  ·exact⟨EK,EL⟩
  ·exact⟨IZ,Ja⟩
  ·exact⟨yC,yD⟩
  ·exact⟨EO,ER⟩
  ·exact⟨xO,xP⟩
  ·exact⟨xD,xE⟩
 ·simp only[List.mem_cons,List.not_mem_nil,or_false]at hT hC
  rcases hT with e|e|e|e|e|e|e|e|e
  ·exact iF ap (by simp) (by simp) EH dO (e.symm.trans hC)
  ·exact iF ap (by simp) (by simp) IV dO (e.symm.trans hC)
  ·exact iF ap (by simp) (by simp) CJ dO (e.symm.trans hC)
  ·exact iF ap (by simp) (by simp) uw dO (e.symm.trans hC)
  ·exact iF ap (by simp) (by simp) EM dO (e.symm.trans hC)
  ·exact iF ap (by simp) (by simp) Jb dO (e.symm.trans hC)
  ·exact iF ap (by simp) (by simp) yE dO (e.symm.trans hC)
  ·exact iF ap (by simp) (by simp) ES dO (e.symm.trans hC)
  ·exact iF ap (by simp) (by simp) xQ dO (e.symm.trans hC)
 have mE:=wY (P:=l.prog) (w:=w) (mg:=mg) (base:=base) yw bm eZ aG gA wZ ni oH
 have qU:=BL (P:=l.prog) (w:=w) (mg:=mg) (base:=base) EE gA ni
 have aV:=Al (P:=l.prog) (w:=w) (mg:=mg) (base:=base) CB
 have bw:=qo (P:=l.prog) (w:=w) (mg:=mg) (base:=base) rg
 have bT:=uS (P:=l.prog) (w:=w) (mg:=mg) (base:=base) xF aG
 have gS:=yc (P:=l.prog) (w:=w) (mg:=mg) (base:=base) AW (bT.mono (by decide))
 have eY:=uT (P:=l.prog) (w:=w) (mg:=mg) (base:=base) xG (bT.mono (by decide))
 have iO:=qQ (P:=l.prog) (w:=w) (mg:=mg) (base:=base) r9 (aV.mono (by decide))
 have jU:=tH (P:=l.prog) (w:=w) (mg:=mg) (base:=base) vf (bw.mono (by decide))
 have ly:=uU (P:=l.prog) (w:=w) (mg:=mg) (base:=base) xH aG (iO.mono (by decide)) (jU.mono (by decide)) (bw.mono (by decide)) (aV.mono (by decide))
 have f9:=ye (P:=l.prog) (w:=w) (mg:=mg) (base:=base) AX aG oH lS (aV.mono (by decide))
 have pR:=Am (P:=l.prog) (w:=w) (mg:=mg) (base:=base) CC (ly.mono (by decide)) (aV.mono (by decide)) (eY.mono (by decide)) (f9.mono (by decide))
 have n5:=yf (P:=l.prog) (w:=w) (mg:=mg) (base:=base) AY gA LU (bw.mono (by decide)) (aV.mono (by decide))
 have pO:=An (P:=l.prog) (w:=w) (mg:=mg) (base:=base) CD aG
 have ku:=yg (P:=l.prog) (w:=w) (mg:=mg) (base:=base) AZ (pO.mono (by decide)) (gS.mono (by decide))
 have iD:=Aq (P:=l.prog) (w:=w) (mg:=mg) (base:=base) CF aG (gS.mono (by decide))
 have lU:=Ar (P:=l.prog) (w:=w) (mg:=mg) (base:=base) CG eZ
 have qe:=DO (P:=l.prog) (w:=w) (mg:=mg) (base:=base) IP bm oJ aG
 have gr:=wF (P:=l.prog) (w:=w) (mg:=mg) (base:=base) yx aG
 have lA:=uV (P:=l.prog) (w:=w) (mg:=mg) (base:=base) xJ
 have cK:=wG (P:=l.prog) (w:=w) (mg:=mg) (base:=base) yy
 have qf:=LY (P:=l.prog) (w:=w) (mg:=mg) (base:=base) Pu aG (lA.mono (by decide))
 have tV:=DQ (P:=l.prog) (w:=w) (mg:=mg) (base:=base) IQ (qe.mono (by decide)) (gr.mono (by decide))
 have tO:=DR (P:=l.prog) (w:=w) (mg:=mg) (base:=base) IS (cK.mono (by decide)) (qf.mono (by decide))
 have ji:=BS (P:=l.prog) (w:=w) (mg:=mg) (base:=base) EI bq lS tL
 have nj:=HU (P:=l.prog) (w:=w) (mg:=mg) (base:=base) Nc bm bq eZ gA iV (ji.mono (by decide))
 have jj:=BU (P:=l.prog) (w:=w) (mg:=mg) (base:=base) EJ bm bq eZ gA iV (nj.mono (by decide))
 have jV:=tN (P:=l.prog) (w:=w) (mg:=mg) (base:=base) vg bm iV aG (jj.mono (by decide)) (gr.mono (by decide))
 have tP:=DS (P:=l.prog) (w:=w) (mg:=mg) (base:=base) IW (jV.mono (by decide)) (tO.mono (by decide))
 have DW:=OR (P:=l.prog) (w:=w) (mg:=mg) (base:=base) Sb jX (tP.mono (by decide)) (cK.mono (by decide))
 have kF:=DU (P:=l.prog) (w:=w) (mg:=mg) (base:=base) IY bm oJ oH
 have qh:=Ma (P:=l.prog) (w:=w) (mg:=mg) (base:=base) Pw (kF.mono (by decide))
 have mz:=wH (P:=l.prog) (w:=w) (mg:=mg) (base:=base) yz wI wJ (ji.mono (by decide))
 have iP:=qR (P:=l.prog) (w:=w) (mg:=mg) (base:=base) sq (mz.mono (by decide)) (DW.mono (by decide))
 have jk:=BX (P:=l.prog) (w:=w) (mg:=mg) (base:=base) EN aG
 have gT:=yh (P:=l.prog) (w:=w) (mg:=mg) (base:=base) Ba (qh.mono (by decide)) (jk.mono (by decide))
 have wK:=HW (P:=l.prog) (w:=w) (mg:=mg) (base:=base) Nd bm oJ aG
 have nY:=yi (P:=l.prog) (w:=w) (mg:=mg) (base:=base) Bb bm Mf aG
 have nZ:=yj (P:=l.prog) (w:=w) (mg:=mg) (base:=base) Bc eZ (wK.mono (by decide)) (nY.mono (by decide)) (qh.mono (by decide)) (jk.mono (by decide))
 have tQ:=DX (P:=l.prog) (w:=w) (mg:=mg) (base:=base) Jc (nj.mono (by decide)) (gT.mono (by decide))
 have jl:=rV (P:=l.prog) (w:=w) (mg:=mg) (base:=base) ux (iP.mono (by decide)) (tQ.mono (by decide))
 have iQ:=uX (P:=l.prog) (w:=w) (mg:=mg) (base:=base) xK oJ aG
 have mD:=wV (P:=l.prog) (w:=w) (mg:=mg) (base:=base) yF lS aG (bT.mono (by decide))
 have lC:=uY (P:=l.prog) (w:=w) (mg:=mg) (base:=base) xM zv iV aG (bT.mono (by decide))
 have lD:=uZ (P:=l.prog) (w:=w) (mg:=mg) (base:=base) xN iV ni (iD.mono (by decide)) (bw.mono (by decide)) (lC.mono (by decide))
 have tU:=Ei (P:=l.prog) (w:=w) (mg:=mg) (base:=base) Jd bm zv oH (kF.mono (by decide))
 have pT:=AH (P:=l.prog) (w:=w) (mg:=mg) (base:=base) CL (iD.mono (by decide)) (mD.mono (by decide)) (mE.mono (by decide))
 have mC:=wN (P:=l.prog) (w:=w) (mg:=mg) (base:=base) yG bm ni iV (jj.mono (by decide)) (cK.mono (by decide)) (nZ.mono (by decide)) (tU.mono (by decide))
 have tW:=El (P:=l.prog) (w:=w) (mg:=mg) (base:=base) Je (tV.mono (by decide))
 have lT:=AG (P:=l.prog) (w:=w) (mg:=mg) (base:=base) CM (eY.mono (by decide))
 have qV:=Cm (P:=l.prog) (w:=w) (mg:=mg) (base:=base) ET (jl.mono (by decide)) (mC.mono (by decide)) (cK.mono (by decide)) (qf.mono (by decide)) (tW.mono (by decide)) (gT.mono (by decide))
 have jY:=tX (P:=l.prog) (w:=w) (mg:=mg) (base:=base) vh bq eZ gA lS tL
 exact(RW (P:=l.prog) (w:=w) (mg:=mg) (base:=base) (tabs:=[bX,aW,aU,aI,aT,dj,bz,dw,bZ]) (iu:=[b7]) (b7:=b7) (by simp) (aW:=aW) (by simp) (aU:=aU) (by simp) (aI:=aI) (by simp) (aT:=aT) (by simp) (dj:=dj) (by simp) (bz:=bz) (by simp) (dw:=dw) (by simp) (bZ:=bZ) (by simp) (bX:=bX) (by simp) UY aG gA eZ bq AI (qU.mono (by decide)) (pR.mono (by decide)) (n5.mono (by decide)) (ku.mono (by decide)) (aV.mono (by decide)) (iQ.mono (by decide)) (f9.mono (by decide)) (pT.mono (by decide)) (lT.mono (by decide)) (lU.mono (by decide)) (qV.mono (by decide)) (jY.mono (by decide)) (lD.mono (by decide))).mono (by decide)
theorem walk{l:PySem.W.OpenLaw}{q:Program}{loose:List Str}{XP:(Str->Option Value) ->Heap->Prop}{YP:World->Heap->Prop}{d:DefRec}{K:Params->PySem.W.Frag}(hn:l.most=some 63)(hdf:d.params.defaults=[])
  (hY:∀(w:World) (h:Heap),YP w h->(K w.params).In h)(hcl:∀(w:World),PySem.W.kb_classed (K w.params)=true)
  (F:∀(w:World) (mg mb:Str->Option Value) (mean:ExcName->Option Value) (fa:Addr) (h:Heap),(K w.params).In h->PyProof.Rows.Top q (PySem.W.looseW q loose) mean mg mb h->mg d.name=some (.ref fa) ->
   ∃(fd:FuncData) (tabs iu:List Addr),(∀(s:Shared) (u:Value),BindsTo s fd ⟨[u],[]⟩ [("_law_script",u)])/\(∀T∈tabs++iu,isCodeTable h T/\h.get? T=some {cls:= .none,data:= .fields #[]})/\(∀T∈tabs,T∉iu)/\
    ∀base:Heap,(K w.params).In base->base.Ns mainGlobals mg->BM mg base->rB l.prog w (K w.params) mg base cj 40 fa fd ["_law_script"] (Gq (K w.params) tabs iu)):
  PySem.W.WalkO q loose XP YP l.row.toRowW d [] (λf vs=>PySem.call f vs):=
 L2.JX (n:=63) (k:=40) (x:= "_law_script") (sp:=Gq) hn (by decide) hdf ⟨rfl,by decide,by decide⟩ hY hcl F (λ_ tabs iu H a ns hl hT hC hS Q hQ=>⟨a,ns,rfl,hS,hl,hT,hC,hQ⟩)
theorem ws:PySem.W.OpenLaw.wellSaid PySem.Challenge.rw_conekin_k46_ways_back=true:=by kernel_rfl
end CN
def PySem.W.Fast.tw6465562005044071073 : Nat := 0
def PySem.W.Fast.tw12194392276413121537 : Nat := 0
def PySem.W.Fast.tw2390149708816877251 : Nat := 0
def PySem.W.Fast.tw14455899497594210114 : Nat := 0
def PySem.W.Fast.tw7748684478600834814 : Nat := 0
def PySem.W.Fast.tw7176928258324967940 : Nat := 0
def PySem.W.Fast.tw17266180755128785416 : Nat := 0
def PySem.W.Fast.tw16061956222337637185 : Nat := 0
def PySem.W.Fast.tw593890035137111802 : Nat := 0
def PySem.W.Fast.tw793344240735554716 : Nat := 0
def PySem.W.Fast.tw18371549314014260743 : Nat := 0
def PySem.W.Fast.tw3882187933873616698 : Nat := 0
def PySem.W.Fast.tw3641037070188771243 : Nat := 0
def PySem.W.Fast.tw8244523900846831609 : Nat := 0
def PySem.W.Fast.tw2508135777117916963 : Nat := 0
def PySem.W.Fast.tw11183607023413767499 : Nat := 0
def PySem.W.Fast.tw8965041687683102688 : Nat := 0
def PySem.W.Fast.tw12194583736302621738 : Nat := 0
def PySem.W.Fast.tw14493495670315332008 : Nat := 0
def PySem.W.Fast.tw7241770816705631264 : Nat := 0
def PySem.W.Fast.tw12786266750628181803 : Nat := 0
def PySem.W.Fast.tw15676984085458617842 : Nat := 0
def PySem.W.Fast.tw4045460636829870248 : Nat := 0
def PySem.W.Fast.tw9197052806122590244 : Nat := 0
def PySem.W.Fast.tw16931648924316596875 : Nat := 0
def PySem.W.Fast.tw1484170884132190466 : Nat := 0
def PySem.W.Fast.tw56067196182494185 : Nat := 0
def PySem.W.Fast.tw18007986411427521380 : Nat := 0
def PySem.W.Fast.tw6376238870641947982 : Nat := 0
def PySem.W.Fast.tw13518574024667850850 : Nat := 0
def PySem.W.Fast.tw2949416081179361152 : Nat := 0
def PySem.W.Fast.tw15347157968487690924 : Nat := 0
def PySem.W.Fast.tw8057509189892428691 : Nat := 0
def PySem.W.Fast.tw16039803187559789649 : Nat := 0
def PySem.W.Fast.tw4315209064456135548 : Nat := 0
def PySem.W.Fast.tw1324676649202918787 : Nat := 0
def PySem.W.Fast.tw11062588548579524631 : Nat := 0
def PySem.W.Fast.tw1584187149587553940 : Nat := 0
def PySem.W.Fast.tw16458619919676800527 : Nat := 0
def PySem.W.Fast.tw577999421182158144 : Nat := 0
def PySem.W.Fast.tw2813884532292464554 : Nat := 0
end
def PySem.W.Fast.tw15066766812758870013 : Nat := 0
def PySem.W.Fast.tw8828568180366285305 : Nat := 0
def PySem.W.Fast.tw4973698466161481924 : Nat := 0
def PySem.W.Fast.tw8573049875700719916 : Nat := 0
def PySem.W.Fast.tw6251310335795454590 : Nat := 0
def PySem.W.Fast.tw14642773186917573621 : Nat := 0
def PySem.W.Fast.tw12196977182077609730 : Nat := 0
def PySem.W.Fast.tw17939206905909401098 : Nat := 0
def PySem.W.Fast.tw9712134211033366505 : Nat := 0
def PySem.W.Fast.tw807863209969093428 : Nat := 0
def PySem.W.Fast.tw6997653805250428972 : Nat := 0
def PySem.W.Fast.tw15373767953789431944 : Nat := 0
def PySem.W.Fast.tw13963441152237854253 : Nat := 0
def PySem.W.Fast.tw6894852685160656048 : Nat := 0
def PySem.W.Fast.tw4904749210340146988 : Nat := 0
def PySem.W.Fast.tw1124683322361267411 : Nat := 0
def PySem.W.Fast.tw4614401510721963683 : Nat := 0
def PySem.W.Fast.tw17861334588102792398 : Nat := 0
def PySem.W.Fast.tw11420040001500984221 : Nat := 0
def PySem.W.Fast.tw9067951461147449417 : Nat := 0
def PySem.W.Fast.tw863949170447361562 : Nat := 0
def PySem.W.Fast.tw6016473740897843720 : Nat := 0
def PySem.W.Fast.tw11936490987978642569 : Nat := 0
def PySem.W.Fast.tw4259083932905498849 : Nat := 0
def PySem.W.Fast.tw3318576630848255973 : Nat := 0
def PySem.W.Fast.tw4906738336480165630 : Nat := 0
def PySem.W.Fast.tw2761139793119612633 : Nat := 0
def PySem.W.Fast.tw16048531482288642008 : Nat := 0
def PySem.W.Fast.tw558700383379575733 : Nat := 0
def PySem.W.Fast.tw9480111883003076144 : Nat := 0
def PySem.W.Fast.tw12176003247450551099 : Nat := 0
def PySem.W.Fast.tw10707867070158959563 : Nat := 0
def PySem.W.Fast.tw9101100472290589911 : Nat := 0
def PySem.W.Fast.tw9500472094096390074 : Nat := 0
def PySem.W.Fast.tw14355401262555260336 : Nat := 0
def PySem.W.Fast.tw8534811291189296179 : Nat := 0
def PySem.W.Fast.tw11387967366800592154 : Nat := 0
def PySem.W.Fast.tw17721947029841300896 : Nat := 0
def PySem.W.Fast.tw9677498859015818677 : Nat := 0
def PySem.W.Fast.tw14344605569075026600 : Nat := 0
def PySem.W.Fast.tw14367851837837371902 : Nat := 0
def PySem.W.Fast.tw14937433584713173131 : Nat := 0
def PySem.W.Fast.tw18215994361788176638 : Nat := 0
def PySem.W.Fast.tw8760763706787594202 : Nat := 0
def PySem.W.Fast.tw4950499082878357097 : Nat := 0
def PySem.W.Fast.tw10113157307287726988 : Nat := 0
def PySem.W.Fast.tw5643830790458999289 : Nat := 0
def PySem.W.Fast.tw16191813179190335789 : Nat := 0
def PySem.W.Fast.tw2089679165074691853 : Nat := 0
def PySem.W.Fast.tw10224425416371214100 : Nat := 0
def PySem.W.Fast.tw15665225556444288508 : Nat := 0
def PySem.W.Fast.tw7903610780509440082 : Nat := 0
def PySem.W.Fast.tw10028113303114152232 : Nat := 0
def PySem.W.Fast.tw11310559714056679082 : Nat := 0
def PySem.W.Fast.tw14143856448002213461 : Nat := 0
def PySem.W.Fast.tw18159154436076549589 : Nat := 0
def PySem.W.Fast.tw3874061546166610638 : Nat := 0
def PySem.W.Fast.tw1365574866406126143 : Nat := 0
def PySem.W.Fast.tw6168487255468326401 : Nat := 0
def PySem.W.Fast.tw17678093299303032502 : Nat := 0
def PySem.W.Fast.tw7697512981784890974 : Nat := 0
def PySem.W.Fast.tw10433997915767822120 : Nat := 0
def PySem.W.Fast.tw2489717017934935650 : Nat := 0
def PySem.W.Fast.tw6735624404156687685 : Nat := 0
def PySem.W.Fast.tw12853659246444393713 : Nat := 0
def PySem.W.Fast.tw14492831753345846756 : Nat := 0
def PySem.W.Fast.tw5041021755347561738 : Nat := 0
def PySem.W.Fast.tw7286939457754339549 : Nat := 0
def PySem.W.Fast.tw17471265472399721468 : Nat := 0
def PySem.W.Fast.tw7295055074111465269 : Nat := 0
def PySem.W.Fast.tw14403753257004150776 : Nat := 0
def PySem.W.Fast.tw5041970857784362951 : Nat := 0
def PySem.W.Fast.tw14550004423529667383 : Nat := 0
def PySem.W.Fast.tw11470709138702346054 : Nat := 0
def PySem.W.Fast.tw9343167047591586546 : Nat := 0
def PySem.W.Fast.tw9180947247664560695 : Nat := 0
def PySem.W.Fast.tw10209835576120322972 : Nat := 0
def PySem.W.Fast.tw182566819414259975 : Nat := 0
def PySem.W.Fast.tw12759987336645464667 : Nat := 0
def PySem.W.Fast.tw13702829652711969428 : Nat := 0
def PySem.W.Fast.tw7364215072667659501 : Nat := 0
def PySem.W.Fast.tw7504868093530269710 : Nat := 0
def PySem.W.Fast.tw8674252454087494800 : Nat := 0
def PySem.W.Fast.tw7560220634772397284 : Nat := 0
def PySem.W.Fast.tw871861493732455732 : Nat := 0
def PySem.W.Fast.tw11822743408878382054 : Nat := 0
def PySem.W.Fast.tw8422856663058295334 : Nat := 0
def PySem.W.Fast.tw6584012051192113216 : Nat := 0
def PySem.W.Fast.tw976827897102984599 : Nat := 0
def PySem.W.Fast.tw11372688485091500081 : Nat := 0
def PySem.W.Fast.tw194043530282840467 : Nat := 0
def PySem.W.Fast.tw14202708065783393342 : Nat := 0
def PySem.W.Fast.tw9157303398546187491 : Nat := 0
def PySem.W.Fast.tw12401869941035505480 : Nat := 0
def PySem.W.Fast.tw12003463869554446652 : Nat := 0
def PySem.W.Fast.tw8303037000628047146 : Nat := 0
def PySem.W.Fast.tw14034612203422771437 : Nat := 0
def PySem.W.Fast.tw11913049733426492588 : Nat := 0
def PySem.W.Fast.tw11366832551804133250 : Nat := 0
def PySem.W.Fast.tw10578785776686128327 : Nat := 0
def PySem.W.Fast.tw16216432896075316354 : Nat := 0
def PySem.W.Fast.tw17034968426597562965 : Nat := 0
def PySem.W.Fast.tw9181570212509754376 : Nat := 0
def PySem.W.Fast.tw8972168793488896097 : Nat := 0
def PySem.W.Fast.tw14693448064314069413 : Nat := 0
def PySem.W.Fast.tw11690084913790698850 : Nat := 0
def PySem.W.Fast.tw10117666618279372015 : Nat := 0
def PySem.W.Fast.tw3247874119666815529 : Nat := 0
def PySem.W.Fast.tw11812058968693722321 : Nat := 0
def PySem.W.Fast.tw6393973787338222696 : Nat := 0
def PySem.W.Fast.tw2769341346819150310 : Nat := 0
def PySem.W.Fast.tw1099070909901168600 : Nat := 0
def PySem.W.Fast.tw8953098633499006348 : Nat := 0
def PySem.W.Fast.tw16418032906940153370 : Nat := 0
def PySem.W.Fast.tw5121847385517266454 : Nat := 0
def PySem.W.Fast.tw17428488178188619177 : Nat := 0
def PySem.W.Fast.tw11255327835001260600 : Nat := 0
def PySem.W.Fast.tw6317388226279195479 : Nat := 0
def PySem.W.Fast.tw458401758623377715 : Nat := 0
def PySem.W.Fast.tw4571667091873304690 : Nat := 0
def PySem.W.Fast.tw14052683551974254244 : Nat := 0
def PySem.W.Fast.tw1102674696262483345 : Nat := 0
open PySem PySem.W PyProof.Rows
set_option maxRecDepth 100000 in
set_option maxHeartbeats 0 in
theorem PySem.Challenge.cw_conekin_k46_ways_back_holds : PySem.Challenge.rw_conekin_k46_ways_back.Holds := by
 w_on;refine PySem.W.holds_law CN.ws λsaid=> ?_;k_head;(case hw=>w_witness2)
 k_fill
 refine CN.walk (l:=PySem.Challenge.rw_conekin_k46_ways_back) rfl rfl (λw h Y=>by first|exact PySem.W.kIn_of Y|exact PySem.W.km_in_of Y) ?cl ?F
 case cl=>
  intro w
  first|kernel_rfl|(trace_state;k_is)
 case F=>
  intro w mg mb mean fa h KX Tp hmg
  refine' CN.all_mk KX Tp hmg ?mF ?qX ?pU ?iy ?lE ?n6 ?lF ?iR ?jZ ?lG ?n8 ?pV ?n9 ?pW ?oh ?pX ?pY ?t6 ?mG ?lH ?mH ?AQ ?t7 ?t8 ?qY ?xw ?qZ ?j3 ?t9 ?Eu ?ud ?AR ?mJ ?iS ?q8 ?om ?xx ?oq ?ou ?ue ?jm ?lI ?mK ?lJ ?lK ?uf ?pZ ?mL ?uh ?p5 ?q9 ?j4 ?Gr ?MN ?MO ?MP ?mO ?um ?xy ?rf ?j5 ?uo ?xA ?ow ?uq ?mP ?Ey ?AU ?MS ?xB ?MT ?MU ?MV ?MW ?MX ?oA ?y_bool ?MY ?j6 ?xC ?ur ?Na ?Nb ?AV ?ap
  (case mF=>exact L2.fnAt (by k_is) (by k_is) (by k_is) (by k_is))
  (case qX=>exact L2.fnAt (by k_is) (by k_is) (by k_is) (by k_is))
  (case pU=>exact L2.fnAt (by k_is) (by k_is) (by k_is) (by k_is))
  (case iy=>exact L2.fnAt (by k_is) (by k_is) (by k_is) (by k_is))
  (case lE=>exact L2.fnAt (by k_is) (by k_is) (by k_is) (by k_is))
  (case n6=>exact L2.fnAt (by k_is) (by k_is) (by k_is) (by k_is))
  (case lF=>exact L2.fnAt (by k_is) (by k_is) (by k_is) (by k_is))
  (case iR=>exact L2.fnAt (by k_is) (by k_is) (by k_is) (by k_is))
  (case jZ=>exact L2.fnAt (by k_is) (by k_is) (by k_is) (by k_is))
  (case lG=>exact L2.fnAt (by k_is) (by k_is) (by k_is) (by k_is))
  (case n8=>exact L2.fnAt (by k_is) (by k_is) (by k_is) (by k_is))
  (case pV=>exact L2.fnAt (by k_is) (by k_is) (by k_is) (by k_is))
  (case n9=>exact L2.fnAt (by k_is) (by k_is) (by k_is) (by k_is))
  (case pW=>exact L2.fnAt (by k_is) (by k_is) (by k_is) (by k_is))
  (case oh=>exact L2.fnAt (by k_is) (by k_is) (by k_is) (by k_is))
  (case pX=>exact L2.fnAt (by k_is) (by k_is) (by k_is) (by k_is))
  (case pY=>exact L2.fnAt (by k_is) (by k_is) (by k_is) (by k_is))
  (case t6=>exact L2.fnAt (by k_is) (by k_is) (by k_is) (by k_is))
  (case mG=>exact L2.fnAt (by k_is) (by k_is) (by k_is) (by k_is))
  (case lH=>exact L2.fnAt (by k_is) (by k_is) (by k_is) (by k_is))
  (case mH=>exact L2.fnAt (by k_is) (by k_is) (by k_is) (by k_is))
  (case AQ=>exact L2.fnAt (by k_is) (by k_is) (by k_is) (by k_is))
  (case t7=>exact L2.fnAt (by k_is) (by k_is) (by k_is) (by k_is))
  (case t8=>exact L2.fnAt (by k_is) (by k_is) (by k_is) (by k_is))
  (case qY=>exact L2.fnAt (by k_is) (by k_is) (by k_is) (by k_is))
  (case xw=>exact L2.fnAt (by k_is) (by k_is) (by k_is) (by k_is))
  (case qZ=>exact L2.fnAt (by k_is) (by k_is) (by k_is) (by k_is))
  (case j3=>exact L2.fnAt (by k_is) (by k_is) (by k_is) (by k_is))
  (case t9=>exact L2.fnAt (by k_is) (by k_is) (by k_is) (by k_is))
  (case Eu=>exact L2.fnAt (by k_is) (by k_is) (by k_is) (by k_is))
  (case ud=>exact L2.fnAt (by k_is) (by k_is) (by k_is) (by k_is))
  (case AR=>exact L2.fnAt (by k_is) (by k_is) (by k_is) (by k_is))
  (case mJ=>exact L2.fnAt (by k_is) (by k_is) (by k_is) (by k_is))
  (case iS=>exact L2.fnAt (by k_is) (by k_is) (by k_is) (by k_is))
  (case q8=>exact L2.fnAt (by k_is) (by k_is) (by k_is) (by k_is))
  (case om=>exact L2.fnAt (by k_is) (by k_is) (by k_is) (by k_is))
  (case xx=>exact L2.fnAt (by k_is) (by k_is) (by k_is) (by k_is))
  (case oq=>exact L2.fnAt (by k_is) (by k_is) (by k_is) (by k_is))
  (case ou=>exact L2.fnAt (by k_is) (by k_is) (by k_is) (by k_is))
  (case ue=>exact L2.fnAt (by k_is) (by k_is) (by k_is) (by k_is))
  (case jm=>exact L2.fnAt (by k_is) (by k_is) (by k_is) (by k_is))
  (case lI=>exact L2.fnAt (by k_is) (by k_is) (by k_is) (by k_is))
  (case mK=>exact L2.fnAt (by k_is) (by k_is) (by k_is) (by k_is))
  (case lJ=>exact L2.fnAt (by k_is) (by k_is) (by k_is) (by k_is))
  (case lK=>exact L2.fnAt (by k_is) (by k_is) (by k_is) (by k_is))
  (case uf=>exact L2.fnAt (by k_is) (by k_is) (by k_is) (by k_is))
  (case pZ=>exact L2.fnAt (by k_is) (by k_is) (by k_is) (by k_is))
  (case mL=>exact L2.fnAt (by k_is) (by k_is) (by k_is) (by k_is))
  (case uh=>exact L2.fnAt (by k_is) (by k_is) (by k_is) (by k_is))
  (case p5=>exact L2.fnAt (by k_is) (by k_is) (by k_is) (by k_is))
  (case q9=>exact L2.fnAt (by k_is) (by k_is) (by k_is) (by k_is))
  (case j4=>exact L2.fnAt (by k_is) (by k_is) (by k_is) (by k_is))
  (case Gr=>k_is);(case MN=>k_is);(case MO=>k_is);(case MP=>k_is)
  (case mO=>rfl)
  (case um=>rfl)
  (case xy=>rfl)
  (case rf=>rfl)
  (case j5=>rfl)
  (case uo=>rfl)
  (case xA=>rfl)
  (case ow=>rfl)
  (case uq=>rfl)
  (case mP=>rfl)
  (case Ey=>k_is)
  (case AU=>k_is)
  (case MS=>k_is)
  (case xB=>k_is)
  (case MT=>k_is)
  (case MU=>k_is)
  (case MV=>k_is)
  (case MW=>k_is)
  (case MX=>k_is)
  (case oA=>k_is)
  (case y_bool=>k_is)
  (case MY=>k_is)
  (case j6=>k_is)
  (case xC=>k_is);(case ur=>k_is)
  (case Na=>k_is)
  (case Nb=>k_is)
  (case AV=>k_is)
  (case ap=>kernel_rfl)
