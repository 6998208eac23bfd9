import PyProof.Rows.All
import Wide.All
import Wide.FinOn
import PyProof.EqAt
import PyProof.EqKinds
import PyProof.TupleCall
import KE.KIsAll
import KE.KTryMore
import KE.KEqDeep
import KE.KEqSeq
import KE.KRegrown
import KE.KSortKey
import KE.KItem
import KE.KNestM
import OpenK.KOwn
import OpenK.KRaise
import OpenK.KWalk
import OpenK.KFacts
import OpenK.KMake
import OpenK.KExp
import OpenK.KDescr
import KE.KLam
import KE.KSortTup
import PyProof.Rows.SortRuns
import PyProof.Rows.RuleM_int
import PyProof.FactsAll.int_0
import PySem.Challenge.RW_conekin_k28_least_forms_are_small
set_option Elab.async false
set_option linter.all false
set_option maxRecDepth 100000
set_option maxHeartbeats 4000000
local macro_rules | `(tactic| omega) => `(tactic| first | lia | omega +splitNatAbs)
set_option genSizeOf false
noncomputable section
namespace L2
open PySem PySem.Spec PyProof.Rows
noncomputable abbrev Key:=Sum Int Str
noncomputable def NF:Key->Value->Bool
 | .inl k,v=>Value.isInt k v
 | .inr x,v=>Value.isStrOf x v
noncomputable def Ux(w:World):Key->Int
 | .inl k=>hashInt k
 | .inr x=>hashStr w x
theorem fH:∀{k:Key}{v:Value},NF k v=true->(∃i t,k=Sum.inl i/\v=Value.int i t)∨(∃x t,k=Sum.inr x/\v=Value.str x t)
 | .inl i,v,h=>by
  obtain⟨t,e⟩:=Value.isInt_shape (k:=i) (v:=v) h
  exact .inl ⟨i,t,rfl,e⟩
 | .inr x,v,h=>by
  obtain⟨t,e⟩:=Value.isStrOf_shape (x:=x) (v:=v) h
  exact .inr ⟨x,t,rfl,e⟩
theorem Ou(a b:Int):decide ((Sum.inl a:Key)=Sum.inl b)=(a==b):=by
 by_cases e:a=b
 ·subst e;simp
 ·have h:¬(Sum.inl a:Key)=Sum.inl b:=λq=>e (Sum.inl.inj q)
  rw[decide_eq_false h]
  exact(beq_eq_false_iff_ne.mpr e).symm
theorem Ov(a b:Str):decide ((Sum.inr a:Key)=Sum.inr b)=decide (a=b):=by
 by_cases e:a=b
 ·subst e;simp
 ·have h:¬(Sum.inr a:Key)=Sum.inr b:=λq=>e (Sum.inr.inj q)
  rw[decide_eq_false h,decide_eq_false e]
theorem Ow(a:Int)(b:Str):decide ((Sum.inl a:Key)=Sum.inr b)=false:=decide_eq_false (λq=>nomatch q)
theorem Ox(a:Str)(b:Int):decide ((Sum.inr a:Key)=Sum.inl b)=false:=decide_eq_false (λq=>nomatch q)
noncomputable def EH(prog:Program)(w:World):PySem.KeyKind prog w Key where
 is:=NF
 hash:=Ux w
 inj:=λv a b ha hb=>by
  rcases fH ha with⟨i,t,rfl,rfl⟩|⟨x,t,rfl,rfl⟩
  ·rcases fH hb with⟨j,u,rfl,e⟩|⟨y,u,rfl,e⟩
   ·injection e with e1 _;rw[e1]
   ·exact nomatch e
  ·rcases fH hb with⟨j,u,rfl,e⟩|⟨y,u,rfl,e⟩
   ·exact nomatch e
   ·injection e with e1 _;rw[e1]
 byValue:=λk v h=>by
  rcases fH h with⟨i,t,rfl,rfl⟩|⟨x,t,rfl,rfl⟩<;>rfl
 pyHash:=λhv h=>by
  rcases fH hv with⟨i,t,rfl,rfl⟩|⟨x,t,rfl,rfl⟩
  ·exact wpAny_pyHash_int h
  ·exact wpAny_pyHash_str h
 eqBool:=λhu hv h=>by
  rcases fH hu with⟨i,t,rfl,rfl⟩|⟨x,t,rfl,rfl⟩
  ·rcases fH hv with⟨j,u,rfl,rfl⟩|⟨y,u,rfl,rfl⟩
   ·rw[Ou]at h;exact wpAny_eqBool_int h
   ·rw[Ow]at h;exact SeqAt.EqAt.int_str i t y u _ _ _ _ h
  ·rcases fH hv with⟨j,u,rfl,rfl⟩|⟨y,u,rfl,rfl⟩
   ·rw[Ox]at h;exact SeqAt.EqAt.str_int x t j u _ _ _ _ h
   ·rw[Ov]at h;exact wpAny_eqBool_str h
 «strs» :=λk x t v h=>by
  rcases fH h with⟨i,u,rfl,e⟩|⟨y,u,rfl,e⟩
  ·exact nomatch e
  ·injection e with e1 _
   subst e1
   cases v<;>rfl
inductive V where
 |gK|bl (b:Bool)|int (i:Int)|str (x:Str)|Ib (b:Array UInt8)|QK (b:UInt64)|ref (a:Addr)|ty (n:String)
 deriving DecidableEq
noncomputable def RelV:V->Value->Prop
 | .gK,u=>u=Value.none
 | .bl b,u=>u=Value.bool b
 | .int i,u=> ∃t,u=Value.int i t
 | .str x,u=> ∃t,u=Value.str x t
 | .Ib b,u=> ∃t,u=Value.bytes b t
 | .QK b,u=> ∃t,u=Value.float b t
 | .ref a,u=>u=Value.ref a
 | .ty n,u=>u=Value.type n
noncomputable abbrev Vals:List V->List Value->Prop:=Paired RelV
theorem Vals.length{xs:List V}{us:List Value}(r:Vals xs us):xs.length=us.length:=Paired.length r
theorem Vals.get:∀{xs:List V}{us:List Value}{i:Nat}{x:V},Vals xs us->xs[i]?=some x-> ∃u,us[i]?=some u/\RelV x u
 |_,_,_,_,.nil,e=>by simp at e
 |_,_,0,_,.cons r _,e=>by simp at e;subst e;exact⟨_,rfl,r⟩
 |_,_,i+1,x,.cons _ t,e=>by
  obtain⟨u,h1,h2⟩:=Vals.get (i:=i) (x:=x) t (by simpa using e)
  exact⟨u,by simpa using h1,h2⟩
theorem Vals.set{x:V}{u:Value}(r:RelV x u):∀{xs:List V}{us:List Value}(i:Nat),Vals xs us->Vals (xs.set i x) (us.set i u)
 |_,_,_,.nil=> .nil
 |_,_,0,.cons _ t=> .cons r t
 |_,_,i+1,.cons q t=> .cons q (Vals.set r i t)
theorem Vals.append:∀{xs ys:List V}{us ws:List Value},Vals xs us->Vals ys ws->Vals (xs++ys) (us++ws)
 |_,_,_,_,.nil,s=>s
 |_,_,_,_,.cons r t,s=> .cons r (Vals.append t s)
theorem Vals.take:∀{xs:List V}{us:List Value}(n:Nat),Vals xs us->Vals (xs.take n) (us.take n)
 |_,_,0,_=> .nil
 |_,_,_+1,.nil=> .nil
 |_,_,n+1,.cons r t=> .cons r (Vals.take n t)
theorem Vals.drop:∀{xs:List V}{us:List Value}(n:Nat),Vals xs us->Vals (xs.drop n) (us.drop n)
 |_,_,0,r=>r
 |_,_,_+1,.nil=> .nil
 |_,_,n+1,.cons _ t=>Vals.drop n t
noncomputable def Oz:Option V->Option Value->Prop
 |some v,some u=>RelV v u
 |none,none=>True
 |_,_=>False
noncomputable def KV{κ:Type}:List (κ×V) ->List (κ×Value) ->Prop:=Paired λ(p:κ×V)(q:κ×Value)=>p.1=q.1/\RelV p.2 q.2
noncomputable def kV:Key->V
 | .inl i=> .int i
 | .inr x=> .str x
inductive HO where
 |lst(xs:List V)
 |tup(xs:List V)
 |dK(kvs:List (Key×V))|dT (kvs:List (List Key×V))
 |set(S:Int->Bool)(n:Nat)
 |ins(C dx:Addr)(fs:List (Str×V))
 |own(x:Addr)
 |xd(fs:List (Str×V))
 |met(f x:Addr)
 |Uy(lo hi:Int)
 |yY(o:Obj)(u:HO)
 |OA(ps:Array Value)
 |ext(φ:Heap->Prop)
 |AG
noncomputable abbrev Hp:=Addr->Option HO
noncomputable def upd(H:Hp)(a:Addr)(o:HO):Hp:=λb=>if b=a then some o else H b
theorem ao{H:Hp}{a:Addr}{o:HO}:upd H a o a=some o:=by unfold upd;rw[if_pos rfl]
theorem aG{H:Hp}{a b:Addr}{o:HO}(h:b≠a):upd H a o b=H b:=by unfold upd;rw[if_neg h]
theorem eV{H:Hp}{a b:Addr}{o:HO}(h:H a=some o)(h':H b=none):a≠b:=by
 intro e;subst e;rw[h]at h';cases h'
section
variable(P:Program)(w:World)
noncomputable def f6(H:Hp)(h:Heap)(a:Addr):HO->Prop
 | .lst xs=>xs.length<=sizeLine/\ ∃(its:List Value)(n:Nat),Vals xs its/\h.get? a=some {cls:= .type "list",data:= .seq its.toArray n}
 | .tup xs=>xs.length<=sizeLine/\ ∃its:List Value,Vals xs its/\IsTup h a its.toArray
 | .dK kvs=>kvs.length<=sizeLine/\(a==sysModules)=false/\ ∃vs,KV kvs vs/\h.DictOf (EH P w) a vs
 | .dT kvs=>kvs.length<=sizeLine/\(a==sysModules)=false/\ ∃xs:List (List Key×Addr×Value),
   Paired (λ(p:List Key×V)(q:List Key×Addr×Value)=>p.1=q.1/\H q.2.1=some (.tup (p.1.map kV))/\RelV p.2 q.2.2) kvs xs/\
   ∃o es ep,h.get? a=some o/\o.ExactDict/\o.data= .dict es ep/\es.toList=xs.map (entryOfKey (tupleKind (EH P w)))/\(xs.map (·.1)).Nodup
 | .set S n=>h.SetOf (intKind P w) a S n
 | .ins C dx fs=>H dx=some (.own a)/\fs.length<=1000/\dx≠a/\h.get? a=some (PySem.W.instObj C dx)/\
   ∃mA,h.Ns1 dx mA/\(∀f,Oz (fs.lookup f) (mA f))/\PySem.Within mA (fs.map (·.1))
 | .own _=> ∃o,h.get? a=some o
 | .xd fs=> ∃mA,h.Ns1 a mA/\ ∀f,Oz (fs.lookup f) (mA f)
 | .Uy lo hi=> ∃t u v,h.get? a=some {cls:= .type "range",data:= .fields #[.int lo t,.int hi u,.int 1 v]}
 | .yY o u=>h.get? a=some o/\f6 H h a u
 | .OA ps=>h.get? a=some {cls:= .none,data:= .fields ps}
 | .met f x=>h.get? a=some (PySem.W.methodObj (.ref f) (.ref x))
 | .ext φ=>φ h/\(∃o,h.get? a=some o)/\ ∀h1 h2:Heap,φ h1->(∀o,h1.get? a=some o->h2.get? a=some o) ->φ h2
 | .AG=> ∃ps:Array Value,h.get? a=some {cls:= .none,data:= .fields ps}/\TriplesOk ps.toList/\ ∀(pos:Pos)(cv:Value),codeAmong pos ps.toList=some cv->
   ∃(c:Addr)(oc:Obj)(vs:Array Value)(q:Str)(t:Tok),cv= .ref c/\H c=some (.yY oc (.ext λ_=>True))/\oc.data= .fields vs/\vs[1]?=some (.str q t)
noncomputable def uz(H:Hp)(h:Heap):Prop:=∀a o,H a=some o->f6 P w H h a o
end
section
variable{P:Program}{w:World}{H H':Hp}{h h':Heap}{a:Addr}{o:HO}
theorem f6.lt(x:f6 P w H h a o):a<h.objs.size:=by
 cases o with
 |lst xs=>obtain⟨_,_,_,_,e⟩:=x;exact Heap.lt_size e
 |tup xs=>obtain⟨_,_,_,p⟩:=x;exact p.lt
 |dK kvs=>obtain⟨_,_,_,_,o,_,_,e,_⟩:=x;exact Heap.lt_size e
 |dT kvs=>obtain⟨_,_,_,_,o,_,_,e,_⟩:=x;exact Heap.lt_size e
 |set S n=>obtain⟨o,_,_,_,e,_⟩:=x;exact Heap.lt_size e
 |ins C dx fs=>obtain⟨_,_,_,e,_⟩:=x;exact Heap.lt_size e
 |own y=>obtain⟨_,e⟩:=x;exact Heap.lt_size e
 |xd fs=>obtain⟨_,⟨_,_,_,e,_⟩,_⟩:=x;exact Heap.lt_size e
 |Uy lo hi=>obtain⟨_,_,_,e⟩:=x;exact Heap.lt_size e
 |yY ob u=>obtain⟨e,_⟩:=x;exact Heap.lt_size e
 |OA ps=>exact Heap.lt_size (show h.get? a=some _ from x)
 |met f y=>exact Heap.lt_size (show h.get? a=some _ from x)
 |ext φ=>obtain⟨_,⟨_,e⟩,_⟩:=x;exact Heap.lt_size e
 |AG=>obtain⟨_,e,_⟩:=x;exact Heap.lt_size e
theorem Paired.Ri{α β:Type}{F G:α->β->Prop}:∀{l₁:List α}{l₂:List β},Paired F l₁ l₂->(∀a b,F a b->G a b) ->Paired G l₁ l₂
 |_,_,.nil,_=> .nil
 |_,_,.cons r t,f=> .cons (f _ _ r) (Paired.Ri t f)
theorem f6.stay(x:f6 P w H h a o)(k:∀b u,(b=a∨H b=some (.own a)) ->h.get? b=some u->h'.get? b=some u)
  (ho:∀b,H b=some (.own a) ->H' b=some (.own a))(ht:∀b xs,H b=some (.tup xs) ->H' b=some (.tup xs))(hz:∀b ob u,H b=some (.yY ob u) ->H' b=some (.yY ob u):=by first|exact λ_ _ _ q=>q|assumption):f6 P w H' h' a o:=by
 induction o with
 |lst xs=>obtain⟨z,its,n,r,e⟩:=x;exact⟨z,its,n,r,k _ _ (.inl rfl) e⟩
 |tup xs=>obtain⟨z,its,r,ob,e,c⟩:=x;exact⟨z,its,r,ob,k _ _ (.inl rfl) e,c⟩
 |dK kvs=>obtain⟨z,y,vs,r,ob,es,ep,e,c⟩:=x;exact⟨z,y,vs,r,ob,es,ep,k _ _ (.inl rfl) e,c⟩
 |dT kvs=>
  obtain⟨z,y,xs,r,ob,es,ep,e,c⟩:=x
  exact⟨z,y,xs,Paired.Ri r λp q z=>⟨z.1,ht _ _ z.2.1,z.2.2⟩,ob,es,ep,k _ _ (.inl rfl) e,c⟩
 |set S n=>obtain⟨ob,es,ep,t,e,c⟩:=x;exact⟨ob,es,ep,t,k _ _ (.inl rfl) e,c⟩
 |ins C dx fs=>
  obtain⟨d,z,ne,e,mA,⟨od,es,ep,e2,c⟩,r⟩:=x
  exact⟨ho _ d,z,ne,k _ _ (.inl rfl) e,mA,⟨od,es,ep,k _ _ (.inr d) e2,c⟩,r⟩
 |own y=>obtain⟨ob,e⟩:=x;exact⟨ob,k _ _ (.inl rfl) e⟩
 |xd fs=>obtain⟨mA,⟨od,es,ep,e,c⟩,r⟩:=x;exact⟨mA,⟨od,es,ep,k _ _ (.inl rfl) e,c⟩,r⟩
 |Uy lo hi=>obtain⟨t,u,v,e⟩:=x;exact⟨t,u,v,k _ _ (.inl rfl) e⟩
 |yY ob u ih=>obtain⟨e,q⟩:=x;exact⟨k _ _ (.inl rfl) e,ih q⟩
 |OA ps=>
  have e:h.get? a=some {cls:= .none,data:= .fields ps}:=x
  show h'.get? a=some {cls:= .none,data:= .fields ps}
  exact k a _ (.inl rfl) e
 |met f y=>
  have e:h.get? a=some (PySem.W.methodObj (.ref f) (.ref y)):=x
  show h'.get? a=some (PySem.W.methodObj (.ref f) (.ref y))
  exact k a _ (.inl rfl) e
 |ext φ=>obtain⟨p,⟨o,e⟩,st⟩:=x;exact⟨st _ _ p λo q=>k _ _ (.inl rfl) q,⟨o,k _ _ (.inl rfl) e⟩,st⟩
 |AG=>obtain⟨ps,e,t,r⟩:=x;exact⟨ps,k _ _ (.inl rfl) e,t,λpos cv q=>let⟨c,oc,vs,q2,t2,e1,e2,e3⟩:=r pos cv q;⟨c,oc,vs,q2,t2,e1,hz _ _ _ e2,e3⟩⟩
theorem uz.lt(x:uz P w H h)(e:H a=some o):a<h.objs.size:=(x a o e).lt
theorem uz.fresh(x:uz P w H h)(e:h.objs.size<=a):H a=none:=by
 cases q:H a with
 |none=>rfl
 |some u=>exact absurd (Nat.lt_of_lt_of_le (x.lt q) e) (Nat.lt_irrefl _)
theorem uz.kept(x:uz P w H h)(k:∀b u,h.get? b=some u->h'.get? b=some u):uz P w H h':=λa o e=>
 (x a o e).stay (λb u _ q=>k b u q) (λ_ q=>q) λ_ _ q=>q
theorem uz.laid(x:uz P w H h)(k:∀b u,h.get? b=some u->h'.get? b=some u)(hp:h.objs.size<=a)(new:f6 P w (upd H a o) h' a o):uz P w (upd H a o) h':=λb u e=>by
 have hn:=x.fresh hp
 by_cases hb:b=a
 ·subst hb;rw[ao]at e;cases e;exact new
 ·rw[aG hb]at e
  exact(x b u e).stay (λc v _ q=>k c v q) (λc q=>by rw[aG (eV q hn)];exact q) (λc xs q=>by rw[aG (eV q hn)];exact q) λc ob xs q=>by rw[aG (eV q hn)];exact q
end
noncomputable def Rd(H:Hp)(a:Addr)(u:HO):Prop:=H a=some u∨ ∃o,H a=some (.yY o u)
theorem Rd.of{H:Hp}{a:Addr}{u:HO}(h:H a=some u):Rd H a u:= .inl h
theorem Rd.ok{P:Program}{w:World}{H:Hp}{h:Heap}{a:Addr}{u:HO}(r:Rd H a u)(x:uz P w H h):f6 P w H h a u:=by
 rcases r with r|⟨o,r⟩
 ·exact x a u r
 ·obtain⟨_,q⟩:=x a _ r
  exact q
noncomputable def TR:Option HO->Prop
 |some (.lst _)=>True
 |some (.dK _)=>True
 |some (.dT _)=>True
 |some (.set _ _)=>True
 |some (.ins _ _ _)=>True
 |some (.ext _)=>True
 |some .AG=>True
 |_=>False
section
variable{P:Program}{w:World}{H:Hp}{h h':Heap}{x e:Addr}{o':HO}
theorem uz.write(ok:uz P w H h)(mu:TR (H x))(he:e=x∨H e=some (.own x))(k:∀b u,b≠e->h.get? b=some u->h'.get? b=some u)(QL:∃u,h'.get? e=some u)
  (new:f6 P w (upd H x o') h' x o'):uz P w (upd H x o') h':=λb u q=>by
 have Rj:∀c y,H c=some (.own y) ->c≠x:=λc y r z=>by subst z;rw[r]at mu;exact mu
 have Uz:∀c xs,H c=some (.tup xs) ->c≠x:=λc xs r z=>by subst z;rw[r]at mu;exact mu
 by_cases hb:b=x
 ·subst hb;rw[ao]at q;cases q;exact new
 ·rw[aG hb]at q
  by_cases OB:b=e
  ·have q':H b=some (.own x):=by
    rcases he with z|z
    ·exact absurd (OB.trans z) hb
    ·rw[OB];exact z
   rw[q]at q';cases q'
   obtain⟨v,hv⟩:=QL
   exact⟨v,by rw[OB];exact hv⟩
  ·refine(ok b u q).stay (λc v hc r=>k c v ?_ r) (λc r=>by rw[aG (Rj c b r)];exact r) (λc xs r=>by rw[aG (Uz c xs r)];exact r) λc ob xs r=>by rw[aG (λz=>by subst z;rw[r]at mu;exact mu)];exact r
   rcases hc with rfl|hc
   ·exact OB
   ·rintro rfl
    rcases he with z|z
    ·exact Rj c b hc z
    ·rw[hc]at z;cases z;exact hb rfl
end
structure Un(fs ex:List Addr)(H H':Hp)(h h':Heap):Prop where
 keep:∀b o,h.get? b=some o->H b=none->b∉fs->b∉ex->h'.get? b=some o
 slot:∀b o,h.get? b=some o->H b=none->b∈fs->b∉ex-> ∃sl,h'.get? b=some {o with slots:=sl}
 free:∀b o,h.get? b=some o->H b=none->b∉ex->H' b=none
 there:∀b o,h.get? b=some o->b∉ex-> ∃o',h'.get? b=some o'
 tups:∀b xs,H b=some (.tup xs) ->H' b=some (.tup xs)
 rj:∀b o u,H b=some (.yY o u) ->H' b=some (.yY o u)
 t7:∀b ps,H b=some (.OA ps) -> ∃more,H' b=some (.OA (ps++more))
section
variable{fs fs' ex ex':List Addr}{H H1 H2:Hp}{h h1 h2 h':Heap}{a x e:Addr}{o:HO}
theorem Un.any(u:Un fs ex H H1 h h1){b:Addr}{ob:Obj}(q:h.get? b=some ob)(n:H b=none)(hx:b∉ex):∃sl,h1.get? b=some {ob with slots:=sl}:=by
 by_cases hb:b∈fs
 ·exact u.slot b ob q n hb hx
 ·exact⟨ob.slots,u.keep b ob q n hb hx⟩
theorem Un.trans(a:Un fs ex H H1 h h1)(b:Un fs ex H1 H2 h1 h2):Un fs ex H H2 h h2 where
 keep:=λc ob q n hc hx=>b.keep c ob (a.keep c ob q n hc hx) (a.free c ob q n hx) hc hx
 slot:=λc ob q n hc hx=>by
  obtain⟨sl,e1⟩:=a.slot c ob q n hc hx
  obtain⟨UA,e2⟩:=b.slot c _ e1 (a.free c ob q n hx) hc hx
  exact⟨UA,e2⟩
 free:=λc ob q n hx=>by
  obtain⟨o',e1⟩:=a.there c ob q hx
  exact b.free c o' e1 (a.free c ob q n hx) hx
 there:=λc ob q hx=>by
  obtain⟨o',e1⟩:=a.there c ob q hx
  exact b.there c o' e1 hx
 tups:=λc xs q=>b.tups c xs (a.tups c xs q)
 rj:=λc ob xs q=>b.rj c ob xs (a.rj c ob xs q)
 t7:=λc ps q=>by
  obtain⟨m1,e1⟩:=a.t7 c ps q
  obtain⟨m2,e2⟩:=b.t7 c _ e1
  exact⟨m1++m2,by rw[e2,Array.append_assoc]⟩
theorem Un.kept(k:∀b u,h.get? b=some u->h'.get? b=some u):Un fs ex H H h h':=
 ⟨λb ob q _ _ _=>k b ob q,λb ob q _ _ _=>⟨ob.slots,k b ob q⟩,λ_ _ _ n _=>n,λb ob q _=>⟨ob,k b ob q⟩,λ_ _ q=>q,λ_ _ _ q=>q,λ_ ps q=>⟨#[],by rw[q];simp⟩⟩
theorem Un.refl:Un fs ex H H h h:=Un.kept λ_ _ q=>q
theorem Un.laid(k:∀b u,h.get? b=some u->h'.get? b=some u)(hp:h.objs.size<=a)(hn:H a=none):Un fs ex H (upd H a o) h h' where
 keep:=λb u q _ _ _=>k b u q
 slot:=λb u q _ _ _=>⟨u.slots,k b u q⟩
 free:=λb u q n _=>by rw[aG (Nat.ne_of_lt (Nat.lt_of_lt_of_le (Heap.lt_size q) hp))];exact n
 there:=λb u q _=>⟨u,k b u q⟩
 tups:=λb xs q=>by rw[aG (eV q hn)];exact q
 rj:=λb u xs q=>by rw[aG (eV q hn)];exact q
 t7:=λb ps q=>⟨#[],by rw[aG (eV q hn),q];simp⟩
theorem Un.write(mu:TR (H x))(he:e=x∨H e=some (.own x))(k:∀b u,b≠e->h.get? b=some u->h'.get? b=some u)(QL:∃u,h'.get? e=some u):Un fs ex H (upd H x o) h h':=by
 have hx:∀b,H b=none->b≠x:=λb n z=>by subst z;rw[n]at mu;exact mu
 have hb:∀b,H b=none->b≠e:=λb n z=>by
  subst z
  rcases he with r|r
  ·exact hx b n r
  ·rw[n]at r;cases r
 have hm:∀b u,H b=some u-> ¬TR (some u) ->b≠x:=λb u q nm z=>by subst z;rw[q]at mu;exact nm mu
 refine⟨λb u q n _ _=>k b u (hb b n) q,λb u q n _ _=>⟨u.slots,k b u (hb b n) q⟩,λb u q n _=>by rw[aG (hx b n)];exact n,λb u q _=> ?_,
  λb xs q=>by rw[aG (hm b _ q λz=>z)];exact q,λb u xs q=>by rw[aG (hm b _ q λz=>z)];exact q,λb ps q=>⟨#[],by rw[aG (hm b _ q λz=>z),q];simp⟩⟩
 by_cases OB:b=e
 ·subst OB;exact QL
 ·exact⟨u,k b u OB q⟩
theorem Un.mono(u:Un fs ex H H1 h h1)(hs:∀b∈fs,b∈fs')(hx:∀b∈ex,b∈ex'):Un fs' ex' H H1 h h1:=
 ⟨λb ob q n hb he=>u.keep b ob q n (λz=>hb (hs b z)) λz=>he (hx b z),λ_ _ q n _ he=>u.any q n λz=>he (hx _ z),λb ob q n he=>u.free b ob q n λz=>he (hx b z),λb ob q he=>u.there b ob q λz=>he (hx b z),u.tups,u.rj,u.t7⟩
end
noncomputable def TU(h:Heap)(H:Hp):List Addr:=(List.range h.objs.size).filter λa=>(H a).isSome
noncomputable def wZ(h:Heap)(H:Hp):Heap:=PySem.W.hideAll h (TU h H)
theorem FZ(h:Heap)(H:Hp):(wZ h H).objs.size=h.objs.size:=PySem.W.hideAll_size _ _
theorem Ic{h:Heap}{H:Hp}{b:Addr}{o:Obj}(e:h.get? b=some o)(n:H b=none):(wZ h H).get? b=some o:=
 PySem.W.hideAll_get _ e λhm=>by
  have q:(H b).isSome=true:=(List.mem_filter.mp hm).2
  rw[n]at q;simp at q
theorem LH{h:Heap}{H:Hp}{b:Addr}{o:Obj}(e:(wZ h H).get? b=some o):h.get? b=some o/\H b=none:=by
 have e':h.get? b=some o:=PySem.W.of_hideAll (TU h H) e
 refine⟨e',?_⟩
 cases q:H b with
 |none=>rfl
 |some x=>
  have hm:b∈TU h H:=List.mem_filter.mpr ⟨List.mem_range.mpr (Heap.lt_size e'),by simp[q]⟩
  have z:(wZ h H).get? b=none:=PySem.W.hideAll_none (TU h H) hm
  rw[z]at e;cases e
noncomputable def LJ(g h:Heap)(L:Addr):List (Addr×Obj):=(List.range h.objs.size).filterMap λa=>if a=L∨(g.get? a).isSome=true then none else(h.get? a).map λo=>(a,o)
noncomputable def rest(g h:Heap)(L d:Addr):List (Addr×Obj):=(LJ g h L).filter λp=>decide (p.1≠d)
structure Mod(K:PySem.W.Frag)(mg:Str->Option Value)(base:Heap):Prop where
 LK:K.In base
 glob:base.Ns mainGlobals mg
 blt:∃mb,base.Ns builtinsNs mb/\ ∀x:Str,x≠ "__name__" ->mb x=bootBuiltins x
 nolimit:base.NoLimit
structure Cx where
 prog:Program
 w:World
 K:PySem.W.Frag
 mg:Str->Option Value
 base:Heap
 A:Around
 N:List Str
 s₀:Shared
 H₀:Hp
 env:Env
 outer:List Env
 stack:List Env
 ex:List Addr
 fn:Str->Bool
 calm:Bool
 pn:List (Addr×Obj)
 xe:Value->Shared->Prop
noncomputable def frs(l:List Env):List Addr:=l.filterMap (·.frame)
noncomputable abbrev Cx.fs(X:Cx):List Addr:=frs X.outer
noncomputable def NG(sc:Scope)(x:Str):Prop:=sc.names.lookup x=some .local∨sc.names.lookup x=some .cell∨sc.names.lookup x=some .free
noncomputable def Loc(sc:Scope)(x:Str):Prop:=sc.names.lookup x=some .local∨sc.names.lookup x=some .cell
noncomputable def Look(env:Env)(h:Heap)(m:Str->Option Value)(x:Str)(u:Value):Prop:=
 (env.kindOf x=some .local/\m x=some u)∨((env.kindOf x=some .cell∨env.kindOf x=some .free)/\ ∃c,env.cells.lookup x=some c/\h.IsCell c (some u))
structure Cx.Ok(X:Cx):Prop where
 mod:Mod X.K X.mg X.base
 kind:X.env.scope.kind= .function
 glob:X.env.globals=mainGlobals
 blt:X.env.builtins=builtinsNs
 above:X.s₀.heap.objs.size<=X.env.locals
 inj:∀x y c,X.env.cells.lookup x=some c->X.env.cells.lookup y=some c->x=y
 has:∀x,(X.env.kindOf x=some .cell∨X.env.kindOf x=some .free) -> ∃c,X.env.cells.lookup x=some c
 Rk:∀x c,X.fn x=true->X.env.cells.lookup x=some c->X.s₀.heap.objs.size<=c
 hd:X.calm=true->X.A.handled=none
 frames:X.A.frames=some X.stack
 stk:X.stack=X.outer∨(X.stack=X.env::X.outer/\X.env.frame=some X.env.locals)
 Ls:∀b∈X.ex,b≠X.env.locals/\ ∀x c,X.env.cells.lookup x=some c->c≠b
 bs:∀b o,X.base.get? b=some o->X.s₀.heap.get? b=some o/\X.H₀ b=none
 LL:X.base.objs.size<=X.s₀.heap.objs.size
 Ga:∀b o,X.base.get? b=some o->b∉X.ex
 AH:∀b∈X.ex,b∉X.fs
 t8:X.s₀.heap.FunFrames X.base X.outer
 QM:∀b∈X.fs,X.H₀ b=none
structure Ie(a b:Array GenState):Prop where
 bare:AllBare b
 size:a.size<=b.size
 old:∀k,k<a.size->b[k]?=a[k]?
theorem Ie.refl{a:Array GenState}(h:AllBare a):Ie a a:=⟨h,Nat.le_refl _,λ_ _=>rfl⟩
theorem Ie.trans{a b c:Array GenState}(x:Ie a b)(y:Ie b c):Ie a c:=⟨y.bare,Nat.le_trans x.size y.size,λk h=>(y.old k (Nat.lt_of_lt_of_le h x.size)).trans (x.old k h)⟩
structure Inv(X:Cx)(pins:List (Addr×Obj))(σ:List (Option V))(H:Hp)(s:Shared):Prop where
 ok:X.Ok
 os:s.os=X.s₀.os
 bare:Ie X.s₀.gens s.gens
 base:Un X.fs X.ex X.H₀ H X.s₀.heap s.heap
 loc:∃m,s.heap.Ns X.env.locals m/\ ∀(i:Nat)(x:Str)(v:V),X.N[i]?=some x->σ[i]?=some (some v) ->NG X.env.scope x-> ∃u,RelV v u/\Look X.env s.heap m x u
 cell:∀x c,X.env.cells.lookup x=some c-> ∃v,s.heap.IsCell c v
 free:H X.env.locals=none
 nH:∀x c,X.env.cells.lookup x=some c->H c=none
 pin:∀p∈X.pn++pins,s.heap.get? p.1=some p.2/\H p.1=none/\p.1≠X.env.locals/\p.1∉X.fs/\ ∀v,p.2.data≠ .cell v
 hok:uz X.prog X.w H s.heap
 len:σ.length=X.N.length
section
variable{X:Cx}{pins:List (Addr×Obj)}{σ:List (Option V)}{H H':Hp}{s:Shared}{h':Heap}
theorem Cx.Ok.UB(ok:X.Ok){b:Addr}{o:Obj}(e:X.base.get? b=some o):b∉X.fs:=λhb=>by
 have:=(ok.t8.mem hb).1
 rw[e]at this;cases this
theorem Inv.bs(I:Inv X pins σ H s):∀b o,X.base.get? b=some o->s.heap.get? b=some o/\H b=none:=λb o e=>
 ⟨I.base.keep b o (I.ok.bs b o e).1 (I.ok.bs b o e).2 (I.ok.UB e) (I.ok.Ga b o e),I.base.free b o (I.ok.bs b o e).1 (I.ok.bs b o e).2 (I.ok.Ga b o e)⟩
theorem Inv.bk(I:Inv X pins σ H s):∀b o,X.base.get? b=some o->s.heap.get? b=some o:=λb o e=>(I.bs b o e).1
theorem Inv.mod(I:Inv X pins σ H s):Mod X.K X.mg X.base:=I.ok.mod
theorem Inv.x8(I:Inv X pins σ H s):X.K.In s.heap:=I.ok.mod.LK.keeps I.bk
theorem Inv.nolimit(I:Inv X pins σ H s):s.heap.NoLimit:=I.ok.mod.nolimit.keeps I.bk
theorem Inv.lt(I:Inv X pins σ H s):X.env.locals<s.heap.objs.size:=let⟨_,hn,_⟩:=I.loc;hn.lt
theorem Inv.sz(I:Inv X pins σ H s):X.s₀.heap.objs.size<=s.heap.objs.size:=Nat.le_trans I.ok.above (Nat.le_of_lt I.lt)
theorem Inv.Rl(I:Inv X pins σ H s){a:Addr}(h:s.heap.objs.size<=a):a∉X.fs:=λhb=>by
 obtain⟨_,o,ho,_⟩:=I.ok.t8.mem hb
 exact absurd (Nat.lt_of_lt_of_le (Heap.lt_size ho) (Nat.le_trans I.sz h)) (Nat.lt_irrefl _)
theorem Inv.OC(I:Inv X pins σ H s):∀x c,X.env.cells.lookup x=some c->c≠X.env.locals:=λx c e z=>by
 obtain⟨v,o,ho,hd⟩:=I.cell x c e
 obtain⟨m,⟨o',es,ep,ho',hd',_⟩,_⟩:=I.loc
 rw[z,ho']at ho;cases ho;rw[hd']at hd;cases hd
theorem Inv.t8(I:Inv X pins σ H s):s.heap.FunFrames X.base X.outer:=by
 have all:∀(l:List Env),(∀b∈frs l,b∈X.fs) ->X.s₀.heap.FunFrames X.base l->s.heap.FunFrames X.base l:=by
  intro l
  induction l with
  |nil=>intro _ _;trivial
  |cons env r ih=>
   intro hs hl
   obtain⟨hk,⟨L,o,hf,hn,ho,hd⟩,hr⟩:=hl
   have hL:L∈X.fs:=hs L (by unfold frs;rw[List.filterMap_cons,hf];exact List.mem_cons_self)
   obtain⟨sl,e⟩:=I.base.slot L o ho (I.ok.QM L hL) hL λz=>I.ok.AH L z hL
   exact⟨hk,⟨L,_,hf,hn,e,hd⟩,ih (λb hb=>hs b (by unfold frs;rw[List.filterMap_cons,hf];exact List.mem_cons_of_mem _ hb)) hr⟩
 exact all X.outer (λ_ hb=>hb) I.ok.t8
theorem Inv.stack(I:Inv X pins σ H s):s.heap.FunFrames X.base X.stack:=by
 rcases I.ok.stk with e|⟨e,hf⟩
 ·rw[e];exact I.t8
 ·rw[e]
  obtain⟨m,hn,_⟩:=I.loc
  refine .cons (by rw[I.ok.kind];decide) hf hn ?_ I.t8
  exact Heap.get?_none_of_le (Nat.le_trans I.ok.LL I.ok.above)
theorem Inv.uO(I:Inv X pins σ H s):∀b∈frs X.stack,b∈X.env.locals::X.fs:=λb hb=>by
 rcases I.ok.stk with e|⟨e,hf⟩
 ·rw[e]at hb;exact List.mem_cons_of_mem _ hb
 ·rw[e]at hb
  unfold frs at hb
  rw[List.filterMap_cons,hf]at hb
  exact hb
theorem Inv.uA(I:Inv X pins σ H s):∀b∈frs X.stack,H b=none:=λb hb=>by
 rcases List.mem_cons.mp (I.uO b hb)with e|hb
 ·rw[e];exact I.free
 ·obtain⟨_,o,ho,_⟩:=I.ok.t8.mem hb
  exact I.base.free b o ho (I.ok.QM b hb) λz=>I.ok.AH b z hb
theorem Inv.step{g':Array GenState}{t':Nat}{d':Drawn}{ch:List Addr}(I:Inv X pins σ H s)
  (hch:∀b∈ch,(b∈X.ex∨X.s₀.heap.objs.size<=b)/\b≠X.env.locals/\(∀x c,X.env.cells.lookup x=some c->c≠b)/\ ∀p∈X.pn++pins,p.1≠b)
  (keep:∀b o,b≠X.env.locals->b∉X.fs->b∉ch->s.heap.get? b=some o->H b=none->h'.get? b=some o)
  (slot:∀b o,b≠X.env.locals->b∈X.fs->b∉ch->s.heap.get? b=some o->H b=none-> ∃sl,h'.get? b=some {o with slots:=sl})(free:∀b o,b∉ch->s.heap.get? b=some o->H b=none->H' b=none)
  (there:∀b o,b∉ch->s.heap.get? b=some o-> ∃o',h'.get? b=some o')
  (tups:∀b xs,H b=some (.tup xs) ->H' b=some (.tup xs))(rj:∀b o u,H b=some (.yY o u) ->H' b=some (.yY o u))(t7:∀b ps,H b=some (.OA ps) -> ∃more,H' b=some (.OA (ps++more)))
  (ns:∀m,s.heap.Ns X.env.locals m->h'.Ns X.env.locals m)(hok:uz X.prog X.w H' h')(hg:Ie s.gens g'):
  Inv X pins σ H' {s with heap:=h',gens:=g',drawn:=d',toks:=t'}:=by
 have WD:∀b o,X.s₀.heap.get? b=some o->b≠X.env.locals:=λb o e=>Nat.ne_of_lt (Nat.lt_of_lt_of_le (Heap.lt_size e) I.ok.above)
 have TV:∀b o,X.s₀.heap.get? b=some o->b∉X.ex->b∉ch:=λb o e hx hb=>by
  rcases(hch b hb).1 with z|z
  ·exact hx z
  ·exact absurd (Nat.lt_of_lt_of_le (Heap.lt_size e) z) (Nat.lt_irrefl _)
 have cellK:∀x c,X.env.cells.lookup x=some c-> ∀v,s.heap.IsCell c v->h'.IsCell c v:=λx c e v ⟨o,ho,hd⟩=>by
  have Rm:c∉ch:=λz=>(hch c z).2.2.1 x c e rfl
  by_cases hc:c∈X.fs
  ·obtain⟨sl,q⟩:=slot c o (I.OC x c e) hc Rm ho (I.nH x c e)
   exact⟨_,q,hd⟩
  ·exact⟨o,keep c o (I.OC x c e) hc Rm ho (I.nH x c e),hd⟩
 refine⟨I.ok,I.os,I.bare.trans hg,⟨λb o e n hb hx=> ?_,λb o e n hb hx=> ?_,λb o e n hx=> ?_,λb o e hx=> ?_,λb xs e=>tups b xs (I.base.tups b xs e),λb o xs e=>rj b o xs (I.base.rj b o xs e),λb ps e=> ?_⟩,?_,λx c e=> ?_,?_,λx c e=> ?_,λp hp=> ?_,hok,I.len⟩
 ·exact keep b o (WD b o e) hb (TV b o e hx) (I.base.keep b o e n hb hx) (I.base.free b o e n hx)
 ·obtain⟨sl,e1⟩:=I.base.slot b o e n hb hx
  obtain⟨UA,e2⟩:=slot b _ (WD b o e) hb (TV b o e hx) e1 (I.base.free b o e n hx)
  exact⟨UA,e2⟩
 ·obtain⟨o',e1⟩:=I.base.there b o e hx
  exact free b o' (TV b o e hx) e1 (I.base.free b o e n hx)
 ·obtain⟨o',e1⟩:=I.base.there b o e hx
  exact there b o' (TV b o e hx) e1
 ·obtain⟨m1,e1⟩:=I.base.t7 b ps e
  obtain⟨m2,e2⟩:=t7 b _ e1
  exact⟨m1++m2,by rw[e2,Array.append_assoc]⟩
 ·obtain⟨m,hn,hl⟩:=I.loc
  refine⟨m,ns m hn,λi x v e1 e2 e3=> ?_⟩
  obtain⟨u,r,l⟩:=hl i x v e1 e2 e3
  refine⟨u,r,?_⟩
  rcases l with l|⟨k,c,e,z⟩
  ·exact .inl l
  ·exact .inr ⟨k,c,e,cellK x c e _ z⟩
 ·obtain⟨v,z⟩:=I.cell x c e
  exact⟨v,cellK x c e v z⟩
 ·obtain⟨m,⟨o,_,_,ho,_⟩,_⟩:=I.loc
  exact free _ o (λz=>(hch _ z).2.1 rfl) ho I.free
 ·obtain⟨v,o,ho,hd⟩:=I.cell x c e
  exact free c o (λz=>(hch c z).2.2.1 x c e rfl) ho (I.nH x c e)
 ·obtain⟨e,n,ne,nf,d⟩:=I.pin p hp
  have Rm:p.1∉ch:=λz=>(hch p.1 z).2.2.2 p hp rfl
  exact⟨keep p.1 p.2 ne nf Rm e n,free p.1 p.2 Rm e n,ne,nf,d⟩
theorem Inv.un{t':Nat}(I:Inv X pins σ H s)(u:Un X.fs [] H H' s.heap h')(hok:uz X.prog X.w H' h'):Inv X pins σ H' {s with heap:=h',toks:=t'}:=by
 obtain⟨m,⟨o,es,ep,ho,r⟩,_⟩:=id I.loc
 obtain⟨sl,hL⟩:=u.any ho I.free (by simp)
 exact I.step (g':=s.gens) (d':=s.drawn) (ch:=[]) (λ_ z=>nomatch z) (λb o _ hb _ e n=>u.keep b o e n hb (by simp)) (λb o _ hb _ e n=>u.slot b o e n hb (by simp)) (λb o _ e n=>u.free b o e n (by simp)) (λb o _ e=>u.there b o e (by simp)) u.tups u.rj u.t7 (λm' hm=>by
  obtain⟨o',es',UC,ho',r'⟩:=hm
  rw[ho]at ho';cases ho'
  exact⟨_,es',UC,hL,r'⟩) hok (.refl I.bare.bare)
theorem Inv.call{g':Array GenState}{t':Nat}{d':Drawn}{ch:List Addr}(I:Inv X pins σ H s)(u:Un (frs X.stack) ch H H' s.heap h')(hok:uz X.prog X.w H' h')(hg:Ie s.gens g')
  (hch:∀b∈ch,(b∈X.ex∨X.s₀.heap.objs.size<=b)/\b≠X.env.locals/\(∀x c,X.env.cells.lookup x=some c->c≠b)/\ ∀p∈X.pn++pins,p.1≠b):
  Inv X pins σ H' {s with heap:=h',gens:=g',drawn:=d',toks:=t'}:=by
 obtain⟨m,⟨o,es,ep,ho,r⟩,_⟩:=id I.loc
 obtain⟨sl,hL⟩:=u.any ho I.free λz=>(hch _ z).2.1 rfl
 exact I.step (ch:=ch) hch (λb o hL hb hc e n=>u.keep b o e n (λz=>(List.mem_cons.mp (I.uO b z)).elim hL hb) hc) (λb o _ _ hc e n=>u.any e n hc) (λb o hc e n=>u.free b o e n hc) (λb o hc e=>u.there b o e hc) u.tups u.rj u.t7 (λm' hm=>by
  obtain⟨o',es',UC,ho',r'⟩:=hm
  rw[ho]at ho';cases ho'
  exact⟨_,es',UC,hL,r'⟩) hok hg
theorem Inv.turned{t':Nat}{it:Addr}(I:Inv X pins σ H s)(k:∀b o,b≠it->s.heap.get? b=some o->h'.get? b=some o)(hn:H it=none)(hL:it≠X.env.locals)
  (h1:it∈X.ex∨X.s₀.heap.objs.size<=it)(h2:∀x c,X.env.cells.lookup x=some c->c≠it)(h3:∀p∈X.pn++pins,p.1≠it):Inv X pins σ H {s with heap:=h',toks:=t'}:=by
 have Rn:∀b u,H b=some u->b≠it:=λb u e z=>by rw[z,hn]at e;cases e
 refine I.step (g':=s.gens) (d':=s.drawn) (ch:=[it]) (λb hb=> ?_) (λb o _ _ hc e _=>k b o (λz=>hc (by simp[z])) e) (λb o _ _ hc e _=>⟨o.slots,k b o (λz=>hc (by simp[z])) e⟩) (λ_ _ _ _ n=>n)
  (λb o hc e=>⟨o,k b o (λz=>hc (by simp[z])) e⟩) (λ_ _ e=>e) (λ_ _ _ e=>e) (λb ps e=>⟨#[],by rw[e];simp⟩) (λm hm=> ?_) (λb u e=> ?_) (.refl I.bare.bare)
 ·have e:b=it:=by simpa using hb
  subst e
  exact⟨h1,hL,h2,h3⟩
 ·obtain⟨o,es,ep,ho,r⟩:=hm
  exact⟨o,es,ep,k _ o (Ne.symm hL) ho,r⟩
 ·refine(I.hok b u e).stay (λc v hc q=>k c v ?_ q) (λ_ q=>q) λ_ _ q=>q
  rcases hc with z|z
  ·rw[z];exact Rn b u e
  ·exact Rn c _ z
theorem Inv.tok(I:Inv X pins σ H s)(t:Nat):Inv X pins σ H {s with toks:=t}:=I.un (h':=s.heap) (t':=t) Un.refl I.hok
theorem Inv.kept{t':Nat}(I:Inv X pins σ H s)(k:∀b u,s.heap.get? b=some u->h'.get? b=some u):Inv X pins σ H {s with heap:=h',toks:=t'}:=I.un (Un.kept k) (I.hok.kept k)
theorem Inv.laid{a:Addr}{o:HO}{t':Nat}(I:Inv X pins σ H s)(k:∀b u,s.heap.get? b=some u->h'.get? b=some u)(hp:s.heap.objs.size<=a)(new:f6 X.prog X.w (upd H a o) h' a o):
  Inv X pins σ (upd H a o) {s with heap:=h',toks:=t'}:=I.un (Un.laid k hp (I.hok.fresh hp)) (I.hok.laid k hp new)
theorem Inv.write{x e:Addr}{o:HO}{t':Nat}(I:Inv X pins σ H s)(mu:TR (H x))(he:e=x∨H e=some (.own x))(k:∀b u,b≠e->s.heap.get? b=some u->h'.get? b=some u)(QL:∃u,h'.get? e=some u)
  (new:f6 X.prog X.w (upd H x o) h' x o):Inv X pins σ (upd H x o) {s with heap:=h',toks:=t'}:=I.un (Un.write mu he k QL) (I.hok.write mu he k QL new)
theorem Inv.jL{qB:List (Addr×Obj)}(I:Inv X pins σ H s)(h:∀p∈qB,s.heap.get? p.1=some p.2/\H p.1=none/\p.1≠X.env.locals/\p.1∉X.fs/\ ∀v,p.2.data≠ .cell v):Inv X qB σ H s:=
 ⟨I.ok,I.os,I.bare,I.base,I.loc,I.cell,I.free,I.nH,λp hp=>(List.mem_append.mp hp).elim (λz=>I.pin p (List.mem_append_left _ z)) (h p),I.hok,I.len⟩
theorem AI{N:List Str}(hN:N.Nodup){i j:Nat}{x:Str}(a:N[i]?=some x)(b:N[j]?=some x):i=j:=by
 obtain⟨h1,e1⟩:=List.getElem?_eq_some_iff.mp a
 obtain⟨h2,e2⟩:=List.getElem?_eq_some_iff.mp b
 exact(List.getElem_inj hN).mp (e1.trans e2.symm)
theorem Gb{M:Model}{A:Around}{E:Value->Shared->Prop}{i:Nat}{x:Str}{v:V}{u:Value}{Q:Unit->Shared->Prop}(I:Inv X pins σ H s)(hN:X.N.Nodup)(hi:X.N[i]?=some x)(hx:Loc X.env.scope x)(r:RelV v u)
  (h:∀s',Inv X pins (σ.set i (some v)) H s'->(∃a,Heap.SameBut a s.heap s'.heap/\(a=X.env.locals∨X.env.cells.lookup x=some a)) ->Q () s')(hf:X.fn x=true∨X.env.scope.names.lookup x=some .local:=by first|exact .inl rfl|exact .inr rfl|assumption):wpAny M A (storeName X.env x u) Q E s:=by
 obtain⟨m,hn,hl⟩:=id I.loc
 have hcls:(X.env.scope.kind== .class||(X.env.scope.kind== .module && X.env.locals !=X.env.globals))=false:=by rw[I.ok.kind];rfl
 have Ro:i<σ.length:=by rw[I.len];exact(List.getElem?_eq_some_iff.mp hi).1
 have OC:=I.OC
 have tracked:∀{a:Addr}{h':Heap},(∃o,s.heap.get? a=some o/\H a=none) ->Heap.SameBut a s.heap h'->uz X.prog X.w H h':=λ {a h'} ha hs b ob e=>by
  obtain⟨_,_,hfree⟩:=ha
  refine(I.hok b ob e).stay (λc w' hc q=>(hs.2 c ?_).trans q) (λ_ q=>q) λ_ _ q=>q
  rintro rfl
  rcases hc with rfl|hc
  ·rw[hfree]at e;cases e
  ·rw[hfree]at hc;cases hc
 rcases hx with hk|hk
 ·refine wpAny_storeName_local hk hn (λh' hn' hs=> ?_) hcls
  obtain⟨oL,_,_,OD,_⟩:=id hn
  refine h _ ⟨I.ok,I.os,I.bare,⟨λb o e n hb hx=> ?_,λb o e n hb hx=> ?_,I.base.free,λb o e hx=> ?_,I.base.tups,I.base.rj,I.base.t7⟩,⟨_,hn',λj y v' e1 e2 e3=> ?_⟩,λy c e=> ?_,I.free,I.nH,λp hp=> ?_,tracked ⟨oL,OD,I.free⟩ hs,by simpa using I.len⟩ ⟨_,hs,.inl rfl⟩
  ·exact(hs.2 b (Nat.ne_of_lt (Nat.lt_of_lt_of_le (Heap.lt_size e) I.ok.above))).trans (I.base.keep b o e n hb hx)
  ·obtain⟨sl,e1⟩:=I.base.slot b o e n hb hx
   exact⟨sl,(hs.2 b (Nat.ne_of_lt (Nat.lt_of_lt_of_le (Heap.lt_size e) I.ok.above))).trans e1⟩
  ·obtain⟨o',e1⟩:=I.base.there b o e hx
   exact⟨o',(hs.2 b (Nat.ne_of_lt (Nat.lt_of_lt_of_le (Heap.lt_size e) I.ok.above))).trans e1⟩
  ·by_cases hj:j=i
   ·subst hj
    rw[hi]at e1;cases e1
    rw[List.getElem?_set_self Ro]at e2
    cases e2
    exact⟨u,r,.inl ⟨hk,by simp⟩⟩
   ·rw[List.getElem?_set_ne (Ne.symm hj)]at e2
    obtain⟨u',r',q⟩:=hl j y v' e1 e2 e3
    refine⟨u',r',?_⟩
    rcases q with⟨k,e⟩|⟨k,c,e,z⟩
    ·refine .inl ⟨k,?_⟩
     have:y≠x:=λe=>hj (AI hN e1 (e▸hi))
     simp[this,e]
    ·exact .inr ⟨k,c,e,z.sameBut hs (OC y c e)⟩
  ·obtain⟨w',z⟩:=I.cell y c e
   exact⟨w',z.sameBut hs (OC y c e)⟩
  ·obtain⟨e,n,ne,nf,d⟩:=I.pin p hp
   exact⟨(hs.2 p.1 ne).trans e,n,ne,nf,d⟩
 ·have hfn:X.fn x=true:=by
   rcases hf with z|z
   ·exact z
   ·rw[z]at hk;cases hk
  obtain⟨c,hc⟩:=I.ok.has x (.inl hk)
  obtain⟨w',z⟩:=I.cell x c hc
  refine wpAny_storeName_cell I.ok.kind hk hc z (λh' hc' hs=> ?_)
  obtain⟨oc,hoc,UD⟩:=id z
  refine h {s with heap:=h'} ⟨I.ok,I.os,I.bare,⟨λb o e n hb hx=> ?_,λb o e n hb hx=> ?_,I.base.free,λb o e hx=> ?_,I.base.tups,I.base.rj,I.base.t7⟩,⟨m,hn.sameBut hs (Ne.symm (OC x c hc)),λj y v' e1 e2 e3=> ?_⟩,λy c' e=> ?_,I.free,I.nH,λp hp=> ?_,tracked ⟨oc,hoc,I.nH x c hc⟩ hs,by simpa using I.len⟩ ⟨c,hs,.inr hc⟩
  ·exact(hs.2 b (Nat.ne_of_lt (Nat.lt_of_lt_of_le (Heap.lt_size e) (I.ok.Rk x c hfn hc)))).trans (I.base.keep b o e n hb hx)
  ·obtain⟨sl,e1⟩:=I.base.slot b o e n hb hx
   exact⟨sl,(hs.2 b (Nat.ne_of_lt (Nat.lt_of_lt_of_le (Heap.lt_size e) (I.ok.Rk x c hfn hc)))).trans e1⟩
  ·obtain⟨o',e1⟩:=I.base.there b o e hx
   exact⟨o',(hs.2 b (Nat.ne_of_lt (Nat.lt_of_lt_of_le (Heap.lt_size e) (I.ok.Rk x c hfn hc)))).trans e1⟩
  ·by_cases hj:j=i
   ·subst hj
    rw[hi]at e1;cases e1
    rw[List.getElem?_set_self Ro]at e2
    cases e2
    exact⟨u,r,.inr ⟨.inl hk,c,hc,hc'⟩⟩
   ·rw[List.getElem?_set_ne (Ne.symm hj)]at e2
    obtain⟨u',r',q⟩:=hl j y v' e1 e2 e3
    refine⟨u',r',?_⟩
    rcases q with q|⟨k,c',e,z'⟩
    ·exact .inl q
    ·refine .inr ⟨k,c',e,z'.sameBut hs ?_⟩
     rintro rfl
     exact hj (AI hN e1 (I.ok.inj _ _ _ e hc▸hi))
  ·by_cases hcc:c'=c
   ·subst hcc;exact⟨_,hc'⟩
   ·obtain⟨w2,z2⟩:=I.cell y c' e
    exact⟨w2,z2.sameBut hs hcc⟩
  ·obtain⟨e,n,ne,nf,d⟩:=I.pin p hp
   refine⟨(hs.2 p.1 ?_).trans e,n,ne,nf,d⟩
   intro q
   rw[q,hoc]at e
   have q':oc=p.2:=Option.some.inj e
   exact d w' (by rw[<-q'];exact UD)
theorem j3{M:Model}{A:Around}{E:Value->Shared->Prop}{i:Nat}{x:Str}{v:V}{u:Value}{Q:Unit->Shared->Prop}(I:Inv X pins σ H s)(hN:X.N.Nodup)(hi:X.N[i]?=some x)(hx:Loc X.env.scope x)(r:RelV v u)
  (h:∀s',Inv X pins (σ.set i (some v)) H s'->Q () s')(hf:X.fn x=true∨X.env.scope.names.lookup x=some .local:=by first|exact .inl rfl|exact .inr rfl|assumption):wpAny M A (storeName X.env x u) Q E s:=
 Gb I hN hi hx r (λs' I' _=>h s' I') hf
theorem Inv.Ig{s':Shared}{ch:List Addr}(I:Inv X pins σ H s)(ho:s'.os=s.os)(u:Un (frs X.stack) ch H H' s.heap s'.heap)(hok:uz X.prog X.w H' s'.heap)(hg:Ie s.gens s'.gens)
  (hch:∀b∈ch,(b∈X.ex∨X.s₀.heap.objs.size<=b)/\b≠X.env.locals/\(∀x c,X.env.cells.lookup x=some c->c≠b)/\ ∀p∈X.pn++pins,p.1≠b):Inv X pins σ H' s':=by
 obtain⟨h',g',d',t',o'⟩:=s'
 have e:o'=s.os:=ho
 subst e
 exact I.call (g':=g') (t':=t') (d':=d') u hok hg hch
end
noncomputable abbrev XK:=Value->Option Addr->Hp->Prop
noncomputable abbrev St:=List (Option V)
noncomputable abbrev VK:=V->Hp->Prop
noncomputable abbrev TE:=St->Hp->VK->Prop
noncomputable abbrev TT:=St->Hp->(Bool->Hp->Prop) ->Prop
noncomputable abbrev TA:=St->Hp->(List V->Hp->Prop) ->Prop
structure Ends where
 nx:St->Hp->Prop
 rt:VK
 bk:St->Hp->Prop:=λ_ _=>False
 ct:St->Hp->Prop:=λ_ _=>False
noncomputable abbrev TS:=Ends->St->Hp->Prop
noncomputable def EP(X:Cx)(pins:List (Addr×Obj))(σ:St)(Q:VK)(u:Value)(s':Shared):Prop:=∃v H',Inv X pins σ H' s'/\RelV v u/\Q v H'
noncomputable def TP(X:Cx)(pins:List (Addr×Obj))(σ:St)(Q:Bool->Hp->Prop)(b:Bool)(s':Shared):Prop:=∃H',Inv X pins σ H' s'/\Q b H'
noncomputable def AP(X:Cx)(pins:List (Addr×Obj))(σ:St)(Q:List V->Hp->Prop)(us:List Value)(s':Shared):Prop:=∃vs H',Inv X pins σ H' s'/\Vals vs us/\Q vs H'
noncomputable def SP(X:Cx)(pins:List (Addr×Obj))(D:Ends)(f:Flow)(s':Shared):Prop:=
 match f with
 | .next=> ∃σ' H',Inv X pins σ' H' s'/\D.nx σ' H'
 | .brk=> ∃σ' H',Inv X pins σ' H' s'/\D.bk σ' H'
 | .cont=> ∃σ' H',Inv X pins σ' H' s'/\D.ct σ' H'
 | .ret u=> ∃v σ' H',Inv X pins σ' H' s'/\RelV v u/\D.rt v H'
noncomputable def PE(X:Cx)(e:Expr)(t:TE):Prop:=
 ∀(pins:List (Addr×Obj))(s:Shared)(σ:St)(H:Hp)(Q:VK),Inv X pins σ H s->t σ H Q->wpAny (model X.prog X.w) X.A (eval e X.env) (EP X pins σ Q) X.xe s
noncomputable def PT(X:Cx)(e:Expr)(t:TT):Prop:=
 ∀(pins:List (Addr×Obj))(s:Shared)(σ:St)(H:Hp)(Q:Bool->Hp->Prop),Inv X pins σ H s->t σ H Q->wpAny (model X.prog X.w) X.A (isTrue e X.env (eval e X.env)) (TP X pins σ Q) X.xe s
noncomputable def PW(X:Cx)(e:Expr)(t:TT):Prop:=
 ∀(whole:Sem Value)(pins:List (Addr×Obj))(s:Shared)(σ:St)(H:Hp)(Q:Bool->Hp->Prop),Inv X pins σ H s->t σ H Q->wpAny (model X.prog X.w) X.A (isTrue e X.env whole) (TP X pins σ Q) X.xe s
theorem PW.pt{X:Cx}{e:Expr}{t:TT}(h:PW X e t):PT X e t:=h _
noncomputable def PA(X:Cx)(es:List Expr)(t:TA):Prop:=
 ∀(pos:Pos)(pins:List (Addr×Obj))(s:Shared)(σ:St)(H:Hp)(Q:List V->Hp->Prop),Inv X pins σ H s->t σ H Q->wpAny (model X.prog X.w) X.A (spliced (backTo pos (starEach es X.env))) (AP X pins σ Q) X.xe s
noncomputable def PS(X:Cx)(st:Stmt)(t:TS):Prop:=
 ∀(pins:List (Addr×Obj))(s:Shared)(σ:St)(H:Hp)(D:Ends),Inv X pins σ H s->t D σ H->wpAny (model X.prog X.w) X.A (exec st X.env) (SP X pins D) X.xe s
noncomputable def yZ(X:Cx)(st:List Stmt)(t:TS):Prop:=
 ∀(pins:List (Addr×Obj))(s:Shared)(σ:St)(H:Hp)(D:Ends),Inv X pins σ H s->t D σ H->wpAny (model X.prog X.w) X.A (execs st X.env) (SP X pins D) X.xe s
theorem fZ{α:Type}{t:Sem α}{Q Q':α->Shared->Prop}{M:Model}{A:Around}{E:Value->Shared->Prop}{s:Shared}(h:wpAny M A t Q E s)(hQ:∀a s,Q a s->Q' a s):wpAny M A t Q' E s:=wpAny_mono h hQ λ_ _ x=>x
section
variable{X:Cx}
inductive UE(σ:St)(i:Nat)(H:Hp)(Q:VK):Prop
 |mk(v:V)(e:σ[i]?=some (some v))(q:Q v H)
noncomputable def bU(i:Nat):TE:=λσ H Q=>UE σ i H Q
noncomputable def tC(v:V):TE:=λ_ H Q=>Q v H
theorem OE{i:Nat}{x:Str}{pos:Pos}(hN:X.N[i]?=some x)(hv:NG X.env.scope x)(hd:(x==("__debug__":Str))=false:=by decide)(hcd:(x==("__classdict__":Str))=false:=by decide):PE X (.Name x pos) (bU i):=by
 intro pins s σ H Q I h
 obtain⟨v,e,h⟩:=h
 obtain⟨m,hn,hl⟩:=I.loc
 obtain⟨u,r,l⟩:=hl i x v hN e hv
 have fin:EP X pins σ Q u s:=⟨v,H,I,r,h⟩
 rcases l with⟨hk,hm⟩|⟨hk,c,hc,hcell⟩
 ·exact wpAny_Name (wpAny_loadName_local I.ok.kind hk hn hm fin) hd
 ·rcases hk with hk|hk
  ·exact wpAny_Name (wpAny_loadName_cell I.ok.kind hk hc hcell fin) hd
  ·exact wpAny_Name (wpAny_loadName_free I.ok.kind hk hc hcell fin hcd) hd
theorem ah{i j pos}:PE X (.Constant (.int i) j pos) (tC (.int i)):=λ_ _ _ H _ I h=>wpAny_Constant_int ⟨.int i,H,I.tok _,⟨_,rfl⟩,h⟩
theorem pC{b j pos}:PE X (.Constant (.bool b) j pos) (tC (.bl b)):=λ_ _ _ H _ I h=>Constant_bool ⟨.bl b,H,I,rfl,h⟩
theorem rm{j pos}:PE X (.Constant .none j pos) (tC .gK):=λ_ _ _ H _ I h=>Constant_none ⟨.gK,H,I,rfl,h⟩
noncomputable def Gl(X:Cx)(x:Str):Prop:=X.env.kindOf x=some .globalImplicit
theorem y9{E:Value->Shared->Prop}{pins:List (Addr×Obj)}{s:Shared}{σ:St}{H:Hp}{x:Str}{u:Value}{pos:Pos}{Q:Value->Shared->Prop}(I:Inv X pins σ H s)(hg:Gl X x)(hm:X.mg x=some u)(h:Q u s)
  (hd:(x==("__debug__":Str))=false:=by decide):wpAny (model X.prog X.w) X.A (eval (.Name x pos) X.env) Q E s:=
 Calls.Name_function_global I.ok.kind hg (Calls.loadGlobal_global (by rw[I.ok.glob];exact I.mod.glob.keeps I.bk) hm h) hd
theorem mh{E:Value->Shared->Prop}{pins:List (Addr×Obj)}{s:Shared}{σ:St}{H:Hp}{x:Str}{u:Value}{pos:Pos}{Q:Value->Shared->Prop}(I:Inv X pins σ H s)(hg:Gl X x)(hm:X.mg x=none)(hv:bootBuiltins x=some u)(h:Q u s)
  (hn:x≠ "__name__":=by decide)(hd:(x==("__debug__":Str))=false:=by decide):wpAny (model X.prog X.w) X.A (eval (.Name x pos) X.env) Q E s:=by
 obtain⟨mb,h1,h2⟩:=I.mod.blt
 exact Calls.Name_function_global I.ok.kind hg (Calls.loadGlobal_builtin (by rw[I.ok.glob];exact I.mod.glob.keeps I.bk) hm (by rw[I.ok.blt];exact h1.keeps I.bk) ((h2 x hn).trans hv) h) hd
theorem LM{x:Str}{v:V}{u:Value}{pos:Pos}(hg:Gl X x)(hm:X.mg x=some u)(r:RelV v u)(hd:(x==("__debug__":Str))=false:=by decide):PE X (.Name x pos) (tC v):=
 λ_ _ _ H _ I h=>y9 I hg hm ⟨v,H,I,r,h⟩ hd
theorem uE{x:Str}{v:V}{u:Value}{pos:Pos}(hg:Gl X x)(hm:X.mg x=none)(hv:bootBuiltins x=some u)(r:RelV v u)(hn:x≠ "__name__":=by decide)(hd:(x==("__debug__":Str))=false:=by decide):PE X (.Name x pos) (tC v):=
 λ_ _ _ H _ I h=>mh I hg hm hv ⟨v,H,I,r,h⟩ hn hd
variable{a b:Expr}{ta tb:TE}{pos:Pos}
inductive WE(x:V)(Q:Bool->Prop):Prop
 |mk(k:Bool)(e:x= .bl k)(q:Q k)
noncomputable def tB(t:TE):TT:=λσ H Q=>t σ H λx H1=>WE x λc=>Q c H1
theorem mj{e:Expr}{t:TE}(h:PE X e t)(he:∀whole,isTrue e X.env whole=(do let v<-whole;standAt e.pos;holding [v] (truthy v)):=by intro _;rfl):PT X e (tB t):=by
 intro pins s σ H Q I hw
 refine isTrue_plain (fZ (h pins s σ H _ I hw) λv s1 ⟨x,H1,I1,r1,q1⟩=> ?_) (he _)
 obtain⟨d,rfl,q⟩:=q1
 cases r1
 exact wpAny_truthy_bool ⟨H1,I1,q⟩
variable{tA TX:TT}{rest:List Expr}
noncomputable def UG(t u:TT):TT:=λσ H Q=>t σ H λc H1=>if c=true then u σ H1 Q else Q false H1
noncomputable def Yi(t u:TT):TT:=λσ H Q=>t σ H λc H1=>if c=true then Q true H1 else u σ H1 Q
noncomputable def UH(t:TT):TT:=λσ H Q=>t σ H λc H1=>Q (!c) H1
theorem zc(ha:PT X a tA):PW X (.BoolOp .And [a] pos) tA:=by
 intro wh pins s σ H Q I h
 refine isTrue_and (fZ (ha pins s σ H Q I h) λc s1 e=> ?_)
 cases c with
 |true=>exact isTrue_and_nil e
 |false=>exact e
theorem CI(ha:PT X a tA):PW X (.BoolOp .Or [a] pos) tA:=by
 intro wh pins s σ H Q I h
 refine isTrue_or (fZ (ha pins s σ H Q I h) λc s1 e=> ?_)
 cases c with
 |false=>exact isTrue_or_nil e
 |true=>exact e
theorem CJ(ha:PT X a tA)(hb:PW X (.BoolOp .And (b::rest) pos) TX):PW X (.BoolOp .And (a::b::rest) pos) (UG tA TX):=by
 intro wh pins s σ H Q I h
 refine isTrue_and (fZ (ha pins s σ H _ I h) λc s1 ⟨H1,I1,q1⟩=> ?_)
 cases c with
 |true=>exact hb wh pins s1 σ H1 Q I1 q1
 |false=>exact⟨H1,I1,q1⟩
theorem Ih(ha:PT X a tA)(hb:PW X (.BoolOp .Or (b::rest) pos) TX):PW X (.BoolOp .Or (a::b::rest) pos) (Yi tA TX):=by
 intro wh pins s σ H Q I h
 refine isTrue_or (fZ (ha pins s σ H _ I h) λc s1 ⟨H1,I1,q1⟩=> ?_)
 cases c with
 |true=>exact⟨H1,I1,q1⟩
 |false=>exact hb wh pins s1 σ H1 Q I1 q1
theorem rq(ha:PT X a tA):PT X (.UnaryOp .Not a pos) (UH tA):=by
 intro pins s σ H Q I h
 exact isTrue_not (ha pins s σ H (λc H1=>Q (!c) H1) I h)
noncomputable def Rp(ta tb:TE):TE:=λσ H Q=>ta σ H λx H1=> ∃c,x= .bl c/\if c=true then tb σ H1 Q else Q (.bl false) H1
noncomputable def Rq(ta:TE):TE:=λσ H Q=>ta σ H λx H1=> ∃c,x= .bl c/\Q (.bl (!c)) H1
theorem zd{op}{t:TE}(h:PE X a t):PE X (.BoolOp op [a] pos) t:=λpins s σ H Q I hw=>BoolOp_one (h pins s σ H Q I hw)
theorem ze(ha:PE X a ta)(hb:PE X (.BoolOp .And (b::rest) pos) tb):PE X (.BoolOp .And (a::b::rest) pos) (Rp ta tb):=by
 intro pins s σ H Q I h
 refine BoolOp_and (fZ (ha pins s σ H _ I h) λv s1 ⟨x,H1,I1,r1,q1⟩=> ?_)
 obtain⟨c,rfl,q1⟩:=q1
 cases r1
 refine wpAny_truthy_bool ?_
 cases c with
 |true=>exact hb pins s1 σ H1 Q I1 q1
 |false=>exact⟨.bl false,H1,I1,rfl,q1⟩
theorem OF(ha:PE X a ta):PE X (.UnaryOp .Not a pos) (Rq ta):=by
 intro pins s σ H Q I h
 refine UnaryOp_ (fZ (ha pins s σ H _ I h) λv s1 ⟨x,H1,I1,r1,q1⟩=> ?_)
 obtain⟨c,rfl,q1⟩:=q1
 cases r1
 exact not_of (wpAny_truthy_bool ⟨.bl (!c),H1,I1,rfl,q1⟩)
noncomputable def Yj(t:TT)(ta tb:TE):TE:=λσ H Q=>t σ H λc H1=>if c=true then ta σ H1 Q else tb σ H1 Q
theorem Ii{c:Expr}(hc:PT X c tA)(ha:PE X a ta)(hb:PE X b tb):PE X (.IfExp c a b pos) (Yj tA ta tb):=by
 intro pins s σ H Q I h
 refine wpAny_IfExp (fZ (hc pins s σ H _ I h) λd s1 ⟨H1,I1,q1⟩=> ?_)
 cases d with
 |true=>exact ha pins s1 σ H1 Q I1 q1
 |false=>exact hb pins s1 σ H1 Q I1 q1
end
noncomputable def aU(K:PySem.W.Frag)(H:Hp)(a:Addr)(xs:List V):Prop:=
 Rd H a (.lst xs)∨
  ∃(o:Obj)(its:Array Value)(n:Nat),K.lookup a=some o/\o.cls= .type "list"/\o.dict=none/\o.data= .seq its n/\its.size<=sizeLine/\Vals xs its.toList
noncomputable def pI(K:PySem.W.Frag)(H:Hp)(a:Addr)(xs:List V):Prop:=
 Rd H a (.tup xs)∨
  ∃(o:Obj)(its:Array Value)(n:Nat),K.lookup a=some o/\o.cls= .type "tuple"/\o.data= .seq its n/\its.size<=sizeLine/\Vals xs its.toList
noncomputable def UI:Value->Option V
 | .none=>some .gK
 | .bool b=>some (.bl b)
 | .int i _=>some (.int i)
 | .str x _=>some (.str x)
 | .bytes b _=>some (.Ib b)
 | .float b _=>some (.QK b)
 | .ref a=>some (.ref a)
 | .type n=>some (.ty n)
 |_=>none
theorem RelV.abs{x:V}{u:Value}(r:RelV x u):UI u=some x:=by
 cases x with
 |gK=>cases r;rfl
 |bl _=>cases r;rfl
 |int _=>obtain⟨t,rfl⟩:=r;rfl
 |str _=>obtain⟨t,rfl⟩:=r;rfl
 |Ib _=>obtain⟨t,rfl⟩:=r;rfl
 |QK _=>obtain⟨t,rfl⟩:=r;rfl
 |ref _=>cases r;rfl
 |ty _=>cases r;rfl
theorem RelV.inj{x y:V}{u:Value}(r:RelV x u)(q:RelV y u):x=y:=Option.some.inj (r.abs.symm.trans q.abs)
theorem Vals.inj:∀{xs ys:List V}{us:List Value},Vals xs us->Vals ys us->xs=ys
 |_,_,_,.nil,.nil=>rfl
 |_,_,_,.cons r t,.cons r' t'=>by rw[r.inj r',Vals.inj t t']
section
variable{X:Cx}{pins:List (Addr×Obj)}{σ:St}{H:Hp}{s:Shared}{a:Addr}{xs ys:List V}
theorem aU.of{K:PySem.W.Frag}(h:H a=some (.lst xs)):aU K H a xs:= .inl (.inl h)
theorem pI.of{K:PySem.W.Frag}(h:H a=some (.tup xs)):pI K H a xs:= .inl (.inl h)
theorem Inv.list(I:Inv X pins σ H s)(h:aU X.K H a xs):∃its:List Value,Vals xs its/\PlainL s.heap a its.toArray/\xs.length<=sizeLine:=by
 rcases h with h|⟨o,its,n,hk,hc,hd,hs,hz,r⟩
 ·obtain⟨z,its,n,r,e⟩:=h.ok I.hok
  exact⟨its,r,⟨_,n,e,rfl,rfl,rfl⟩,z⟩
 ·refine⟨its.toList,r,⟨o,n,I.x8 a o hk,hc,hd,by simpa using hs⟩,?_⟩
  have e:=r.length
  simp only[Array.length_toList]at e
  omega
theorem Inv.tuple(I:Inv X pins σ H s)(h:pI X.K H a xs):∃its:List Value,Vals xs its/\IsTup s.heap a its.toArray/\xs.length<=sizeLine:=by
 rcases h with h|⟨o,its,n,hk,hc,hs,hz,r⟩
 ·obtain⟨z,its,r,p⟩:=h.ok I.hok
  exact⟨its,r,p,z⟩
 ·refine⟨its.toList,r,⟨o,I.x8 a o hk,hc,n,by simpa using hs⟩,?_⟩
  have e:=r.length
  simp only[Array.length_toList]at e
  omega
theorem Inv.uQ(I:Inv X pins σ H s)(h:aU X.K H a xs)(h':aU X.K H a ys):xs=ys:=by
 obtain⟨its,r,⟨o,n,e,_,_,d⟩,_⟩:=I.list h
 obtain⟨its',r',⟨o',n',e',_,_,d'⟩,_⟩:=I.list h'
 rw[e]at e';cases e'
 rw[d]at d'
 injection d' with d1 _
 have:its=its':=by simpa using congrArg Array.toList d1
 subst this
 exact r.inj r'
end
noncomputable abbrev Cx.w5(X:Cx)(E:Value->Shared->Prop):Cx:={X with xe:=E}
noncomputable abbrev Cx.HW(X:Cx):Cx:=X.w5 λ_ _=>False
theorem Cx.Ok.w5{X:Cx}(ok:X.Ok)(E:Value->Shared->Prop):(X.w5 E).Ok:=
 ⟨ok.mod,ok.kind,ok.glob,ok.blt,ok.above,ok.inj,ok.has,ok.Rk,ok.hd,ok.frames,ok.stk,ok.Ls,ok.bs,ok.LL,ok.Ga,ok.AH,ok.t8,ok.QM⟩
theorem Cx.Ok.nL{X:Cx}{E:Value->Shared->Prop}(ok:(X.w5 E).Ok):X.Ok:=
 ⟨ok.mod,ok.kind,ok.glob,ok.blt,ok.above,ok.inj,ok.has,ok.Rk,ok.hd,ok.frames,ok.stk,ok.Ls,ok.bs,ok.LL,ok.Ga,ok.AH,ok.t8,ok.QM⟩
section
variable{X:Cx}{pins:List (Addr×Obj)}{σ:St}{H:Hp}{s:Shared}{E:Value->Shared->Prop}
theorem Inv.w5(I:Inv X pins σ H s)(E:Value->Shared->Prop):Inv (X.w5 E) pins σ H s:=⟨I.ok.w5 E,I.os,I.bare,I.base,I.loc,I.cell,I.free,I.nH,I.pin,I.hok,I.len⟩
theorem Inv.nL(I:Inv (X.w5 E) pins σ H s):Inv X pins σ H s:=⟨I.ok.nL,I.os,I.bare,I.base,I.loc,I.cell,I.free,I.nH,I.pin,I.hok,I.len⟩
theorem SP.nL{D:Ends}{f:Flow}{s':Shared}(h:SP (X.w5 E) pins D f s'):SP X pins D f s':=by
 cases f with
 |next=>obtain⟨σ',H',I,q⟩:=h;exact⟨σ',H',I.nL,q⟩
 |brk=>obtain⟨σ',H',I,q⟩:=h;exact⟨σ',H',I.nL,q⟩
 |cont=>obtain⟨σ',H',I,q⟩:=h;exact⟨σ',H',I.nL,q⟩
 |ret u=>obtain⟨v,σ',H',I,r,q⟩:=h;exact⟨v,σ',H',I.nL,r,q⟩
theorem yZ.HW{st:List Stmt}{t:TS}(h:yZ X.HW st t):yZ X st t:=λpins s σ H D I hw=>
 wpAny_mono (h pins s σ H D (I.w5 _) hw) (λ_ _ q=>q.nL) λ_ _ z=>False.elim z
end
section
variable{X:Cx}{st:Stmt}{rest:List Stmt}{t u:TS}{e:Expr}{te:TE}{pos:Pos}
noncomputable def NH:TS:=λD σ H=>D.nx σ H
noncomputable def CK(t u:TS):TS:=λD σ H=>t {D with nx:=u D} σ H
theorem LN:yZ X [] NH:=λ_ _ σ H _ I h=>wpAny_execs_nil ⟨σ,H,I,h⟩
theorem Ij(h1:PS X st t)(h2:yZ X rest u):yZ X (st::rest) (CK t u):=by
 intro pins s σ H D I h
 refine wpAny_execs_cons (fZ (h1 pins s σ H {D with nx:=u D} I h) λf s1 q=> ?_)
 cases f with
 |next=>
  obtain⟨σ',H',I',q⟩:=q
  exact h2 pins s1 σ' H' D I' q
 |ret v=>exact q
 |brk=>exact q
 |cont=>exact q
theorem cF(h1:PS X st t):yZ X [st] t:=by
 intro pins s σ H D I h
 refine wpAny_execs_cons (fZ (h1 pins s σ H D I h) λf s1 q=> ?_)
 cases f with
 |next=>exact wpAny_execs_nil q
 |ret v=>exact q
 |brk=>exact q
 |cont=>exact q
noncomputable def OG:TS:=λD σ H=>D.bk σ H
theorem Ik:PS X (.Break pos) OG:=λ_ _ σ H _ I h=>wpAny_Break ⟨σ,H,I,h⟩
theorem Inv.quiet{pins:List (Addr×Obj)}{σ:St}{H:Hp}{s:Shared}(I:Inv X pins σ H s):interactive X.env=false:=by simp[interactive,I.ok.kind]
noncomputable def Rt(te:TE):TS:=λD σ H=>te σ H λ_ H1=>D.nx σ H1
theorem uF(he:PE X e te)(hs:swapsWith e none pos.line X.env=pure false:=by rfl):PS X (.Expr e pos) (Rt te):=by
 intro pins s σ H D I h
 exact wpAny_Expr_any (fZ (he pins s σ H _ I h) λv s1 ⟨x,H1,I1,r1,q1⟩=>⟨σ,H1,I1,q1⟩) I.quiet hs
noncomputable def Ru(te:TE):TS:=λD σ H=>te σ H D.rt
theorem aW(he:PE X e te):PS X (.Return (some e) pos) (Ru te):=by
 intro pins s σ H D I h
 exact wpAny_Return_some (fZ (he pins s σ H _ I h) λv s1 ⟨x,H1,I1,r1,q1⟩=>⟨x,σ,H1,I1,r1,q1⟩)
noncomputable def Rv(c:TT)(t u:TS):TS:=λD σ H=>c σ H λb H1=>if b=true then t D σ H1 else u D σ H1
theorem Rw{c:Expr}{a b:List Stmt}{tc:TT}(hc:PT X c tc)(ha:yZ X a t)(hb:yZ X b u):PS X (.If c a b pos) (Rv tc t u):=by
 intro pins s σ H D I h
 refine wpAny_If (fZ (hc pins s σ H _ I h) λd s1 ⟨H1,I1,q1⟩=> ?_)
 cases d with
 |true=>exact ha pins s1 σ H1 D I1 q1
 |false=>exact hb pins s1 σ H1 D I1 q1
noncomputable def OH:TS:=λ_ _ _=>False
theorem AJ:PS X st OH:=λ_ _ _ _ _ _ h=>h.elim
end
noncomputable abbrev TG:=V->St->Hp->(St->Hp->Prop) ->Prop
noncomputable abbrev LP:=List V->St->Hp->(St->Hp->Prop) ->Prop
noncomputable def PG(X:Cx)(target:Expr)(t:TG):Prop:=
 ∀(pins:List (Addr×Obj))(s:Shared)(σ:St)(H:Hp)(v:V)(u:Value)(Q:St->Hp->Prop),Inv X pins σ H s->RelV v u->t v σ H Q->
  wpAny (model X.prog X.w) X.A (assign target X.env u) (λ_ s'=> ∃σ' H',Inv X pins σ' H' s'/\Q σ' H') X.xe s
noncomputable def Rx(X:Cx)(ts:List Expr)(t:LP):Prop:=
 ∀(pins:List (Addr×Obj))(s:Shared)(σ:St)(H:Hp)(vs:List V)(us:List Value)(Q:St->Hp->Prop),Inv X pins σ H s->Vals vs us->t vs σ H Q->
  wpAny (model X.prog X.w) X.A (assignInOrder ((assignEach ts X.env).map (·.2)) us) (λ_ s'=> ∃σ' H',Inv X pins σ' H' s'/\Q σ' H') X.xe s
noncomputable abbrev OI:=V->V->V->Hp->(Hp->Prop) ->Prop
noncomputable def Ry(X:Cx)(t:OI):Prop:=
 ∀(pins:List (Addr×Obj))(s:Shared)(σ:St)(H:Hp)(o i v:V)(ov iv u:Value)(Q:Hp->Prop),Inv X pins σ H s->RelV o ov->RelV i iv->RelV v u->t o i v H Q->
  wpAny (model X.prog X.w) X.A (setItem ov iv u) (λ_ s'=> ∃H',Inv X pins σ H' s'/\Q H') X.xe s
section
variable{X:Cx}{pos:Pos}
noncomputable def dZ(i:Nat):TG:=λv σ H Q=>Q (σ.set i (some v)) H
theorem aI{i:Nat}{x:Str}(hN:X.N.Nodup)(hi:X.N[i]?=some x)(hx:Loc X.env.scope x)(hf:X.fn x=true∨X.env.scope.names.lookup x=some .local:=by first|exact .inl rfl|exact .inr rfl|assumption):PG X (.Name x pos) (dZ i):=by
 intro pins s σ H v u Q I r h
 exact wpAny_assign_Name (j3 I hN hi hx r (λs' I'=>⟨_,H,I',h⟩) hf)
noncomputable def Rz:LP:=λvs σ H Q=>vs=[]/\Q σ H
inductive RA(vs:List V)(Q:V->List V->Prop):Prop
 |mk(v:V)(r:List V)(e:vs=v::r)(q:Q v r)
noncomputable def Il(t:TG)(u:LP):LP:=λvs σ H Q=>RA vs λv r=>t v σ H λσ1 H1=>u r σ1 H1 Q
theorem fj:Rx X [] Rz:=by
 intro pins s σ H vs us Q I r h
 obtain⟨e,h⟩:=h
 subst e
 cases r
 exact assignInOrder_nil ⟨σ,H,I,h⟩
theorem aJ{e:Expr}{es:List Expr}{t:TG}{u:LP}(h1:PG X e t)(h2:Rx X es u)
  (hs:(assignEach (e::es) X.env).map (·.2)=assign e X.env::(assignEach es X.env).map (·.2):=by rfl):Rx X (e::es) (Il t u):=by
 intro pins s σ H vs us Q I r h
 obtain⟨v,vr,e1,h⟩:=h
 subst e1
 cases r with
 |cons r rr=>
  rw[hs]
  refine assignInOrder_cons (fZ (h1 pins s σ H _ _ _ I r h) λ_ s1 ⟨σ1,H1,I1,q1⟩=> ?_)
  exact h2 pins s1 σ1 H1 _ _ Q I1 rr q1
inductive UJ(K:PySem.W.Frag)(n:Nat)(v:V)(H:Hp)(Q:List V->Prop):Prop
 |mk(a:Addr)(xs:List V)(e:v= .ref a)(s:pI K H a xs)(l:xs.length=n)(q:Q xs)
noncomputable def RB(K:PySem.W.Frag)(n:Nat)(t:LP):TG:=λv σ H Q=>UJ K n v H λxs=>t xs σ H Q
theorem nM{es:List Expr}{k:Nat}{t:LP}{n:Nat}(hc:X.calm=true)(h:Rx X es t)
  (hn:(assignEach es X.env).length=n:=by rfl)(hst:(assignEach es X.env).findIdx? (·.1)=none:=by rfl):PG X (.Tuple es k pos) (RB X.K n t):=by
 intro pins s σ H v u Q I r hw
 obtain⟨a,xs,e1,hq,hl,hw⟩:=hw
 subst e1
 cases r
 obtain⟨its,rv,ht,hz⟩:=I.tuple hq
 refine assign_Tuple_tuple (I.ok.hd hc) ht (by simp[hn,<-hl,rv.length]) hst λh' hx=> ?_
 have I1:Inv X pins σ H {s with heap:=h'}:=I.kept (t':=s.toks) λb o e=>hx b o (Nat.ne_of_lt (Heap.lt_size e)) e
 exact h pins _ σ H xs _ Q I1 (by simpa using rv) hw
noncomputable def UK(to ti:TE)(t:OI):TG:=λv σ H Q=>to σ H λo H1=>ti σ H1 λi H2=>t o i v H2 λH3=>Q σ H3
theorem uV{o i:Expr}{to ti:TE}{t:OI}(ho:PE X o to)(hi:PE X i ti)(hs:Ry X t)
  (ha:∀v,assign (.Subscript o i pos) X.env v=(do
   let ov<-holding [v] (eval o X.env)
   let iv<-holding [v,ov] (eval i X.env)
   standAt pos
   holding [v,ov,iv] (setItem ov iv v)
   release [v,ov,iv] []):=by intro _;rfl):PG X (.Subscript o i pos) (UK to ti t):=by
 intro pins s σ H v u Q I r h
 rw[ha]
 refine wpAny_bind (wpAny_holding (fZ (ho pins s σ H _ I h) λov s1 ⟨x,H1,I1,r1,q1⟩=> ?_))
 refine wpAny_bind (wpAny_holding (fZ (hi pins s1 σ H1 _ I1 q1) λiv s2 ⟨y,H2,I2,r2,q2⟩=> ?_))
 refine wpAny_bind (wpAny_standAt (wpAny_bind (wpAny_holding (fZ (hs pins s2 σ H2 x y v ov iv u _ I2 r1 r2 r q2) λ_ s3 ⟨H3,I3,q3⟩=> ?_))))
 exact wpAny_release ⟨σ,H3,I3,q3⟩
noncomputable def Im(te:TE)(g:TG):TS:=λD σ H=>te σ H λx H1=>g x σ H1 D.nx
theorem iO{tg e:Expr}{te:TE}{g:TG}(he:PE X e te)(hg:PG X tg g)(hs:swapsWithSole [tg] e pos.line X.env=pure false:=by rfl)(hw:swappedStores [tg] e X.env=pure none:=by rfl)
  (h1:(assignEach [tg] X.env).map (·.2)=[assign tg X.env]:=by rfl):PS X (.Assign [tg] e pos) (Im te g):=by
 intro pins s σ H D I h
 refine wpAny_Assign_stores (fZ (he pins s σ H _ I h) λv s1 ⟨x,H1,I1,r1,q1⟩=> ?_) hs hw
 rw[h1]
 exact fZ (hg pins s1 σ H1 x v _ I1 r1 q1) λ_ s2 q=>q
theorem aY{i:Nat}{x:Str}{e:Expr}{te:TE}{pos':Pos}(hN:X.N.Nodup)(hi:X.N[i]?=some x)(hx:Loc X.env.scope x)(he:PE X e te)(hs:swapsWith e (some (.Name x pos')) pos.line X.env=pure false:=by rfl)(hf:X.fn x=true∨X.env.scope.names.lookup x=some .local:=by first|exact .inl rfl|exact .inr rfl|assumption):
  PS X (.Assign [.Name x pos'] e pos) (Im te (dZ i)):=by
 intro pins s σ H D I h
 refine wpAny_Assign_Name (fZ (he pins s σ H _ I h) λv s1 ⟨y,H1,I1,r1,q1⟩=> ?_) hs
 exact j3 I1 hN hi hx r1 (λs2 I2=>⟨_,H1,I2,q1⟩) hf
noncomputable def UL(i j:Nat)(ta:TA):TS:=λD σ H=>ta σ H λvs H1=> ∃v w,vs=[v,w]/\D.nx ((σ.set i (some v)).set j (some w)) H1
theorem uW{i j:Nat}{x y:Str}{a b:Expr}{ta:TA}{px py pt:Pos}{kt k2 OJ}(hc:X.calm=true)(hN:X.N.Nodup)(hi:X.N[i]?=some x)(hj:X.N[j]?=some y)(hij:i≠j)
  (hx:X.env.scope.names.lookup x=some .local)(hy:X.env.scope.names.lookup y=some .local)(ha:PA X [a,b] ta)
  (hw:swappedStores [.Tuple [.Name x px,.Name y py] kt pt] (.Tuple [a,b] k2 OJ) X.env=pure (some [x,y]))
  (hs:swapsWithSole [.Tuple [.Name x px,.Name y py] kt pt] (.Tuple [a,b] k2 OJ) pos.line X.env=pure false:=by rfl):
  PS X (.Assign [.Tuple [.Name x px,.Name y py] kt pt] (.Tuple [a,b] k2 OJ) pos) (UL i j ta):=by
 intro pins s σ H D I h
 rw[exec_Assign_arm]
 refine wpAny_bind (wpAny_standAt ?_)
 rw[hs]
 refine wpAny_bind (wpAny_pure ?_)
 rw[if_neg (by decide)]
 refine wpAny_bind (Tuple_ (fZ (ha _ pins s σ H _ I h) λus s1 ⟨vs,H1,I1,r1,q1⟩=> ?_))
 obtain⟨v,w,e1,q1⟩:=q1
 subst e1
 obtain⟨u1,u2,rfl,rv,rw'⟩:∃u1 u2,us=[u1,u2]/\RelV v u1/\RelV w u2:=by
  cases r1 with
  |cons p q=>
   cases q with
   |cons p' q'=>
    cases q'
    exact⟨_,_,rfl,p,p'⟩
 refine wpAny_newObj_type ?_ (by show 2<=sizeLine;decide)
 have I2:Inv X pins σ H1 {s1 with heap:=s1.heap.push {cls:= .type "tuple",data:= .seq [u1,u2].toArray}}:=I1.kept (t':=s1.toks) λb o e=>Heap.get?_push_of_some _ e
 rw[hw]
 refine wpAny_bind (wpAny_pure ?_)
 show wpAny (model X.prog X.w) X.A (do rule "assign.swapped-stores";let items<-unpackItems (.ref s1.heap.objs.size) 2 none;assignInOrder [λv=>bindName X.env y v,λv=>bindName X.env x v] items.reverse;pure Flow.next) _ _ _
 refine wpAny_bind (wpAny_rule (wpAny_bind (unpackItems_tuple (items:= #[u1,u2]) (I.ok.hd hc) (IsTup.new s1.heap _) λh' hx'=> ?_)))
 have I3:=I2.kept (h':=h') (t':=s1.toks) λb o e=>hx' b o (Nat.ne_of_lt (Heap.lt_size e)) e
 show wpAny _ _ (assignInOrder [λv=>bindName X.env y v,λv=>bindName X.env x v] [u2,u1]>>=λ_=>pure Flow.next) _ _ _
 refine wpAny_bind (assignInOrder_cons (wpAny_bindName (j3 I3 hN hj (.inl hy) rw' (λs2 I4=> ?_) (.inr hy))))
 refine assignInOrder_cons (wpAny_bindName (j3 I4 hN hi (.inl hx) rv (λs3 I5=>assignInOrder_nil (wpAny_pure ?_)) (.inr hx)))
 rw[List.set_comm _ _ (Ne.symm hij)]at I5
 exact⟨_,H1,I5,q1⟩
end
section
variable{X:Cx}{pos:Pos}
noncomputable def Io(c:TT)(tb:TS):TS:=λD σ H=> ∃W:Nat->St->Hp->Prop,(∃m,W m σ H)/\ ∀m σ H,W m σ H->
 c σ H λb H1=>if b=true then ∃N:St->Hp->Prop,(∀σ' H',N σ' H'-> ∃m',m'<m/\W m' σ' H')/\tb {D with nx:=N,ct:=N,bk:=D.nx} σ H1 else D.nx σ H1
theorem uX{c:Expr}{body:List Stmt}{tc:TT}{tb:TS}(hp:PassesOwn (model X.prog X.w) X.A X.env X.xe)(hc:PT X c tc)(hb:yZ X body tb):PS X (.While c body [] pos) (Io tc tb):=by
 intro pins s σ H D I h
 obtain⟨W,⟨m0,w0⟩,turn⟩:=h
 refine wpAny_While (codeAny_whileLoop (λn s'=> ∃σ' H',Inv X pins σ' H' s'/\W n σ' H') ?_ m0 ⟨σ,H,I,w0⟩)
 rintro n s1 ⟨σ1,H1,I1,w1⟩
 refine wpAny_passesOwn hp (fZ (hc pins s1 σ1 H1 _ I1 (turn n σ1 H1 w1)) λb s2 ⟨H2,I2,q2⟩=> ?_)
 cases b with
 |true=>
  obtain⟨N,hN,q2⟩:=q2
  rw[if_pos rfl]
  refine wpAny_passesOwn hp (fZ (hb pins s2 σ1 H2 _ I2 q2) λf s3 q3=> ?_)
  cases f with
  |next=>
   obtain⟨σ3,H3,I3,n3⟩:=q3
   obtain⟨m',hm,w3⟩:=hN σ3 H3 n3
   exact⟨m',hm,σ3,H3,I3,w3⟩
  |cont=>
   obtain⟨σ3,H3,I3,n3⟩:=q3
   obtain⟨m',hm,w3⟩:=hN σ3 H3 n3
   exact⟨m',hm,σ3,H3,I3,w3⟩
  |brk=>exact q3
  |ret v=>exact q3
 |false=>
  rw[if_neg Bool.false_ne_true]
  exact wpAny_execs_nil ⟨σ1,H2,I2,q2⟩
end
structure It where
 go:Nat->Hp->Prop
 AD:Nat->Hp->V->Hp->Prop
 stop:Nat->Hp->Prop
noncomputable def fW(X:Cx)(pins:List (Addr×Obj))(H:Hp)(b:Addr):Prop:=
 H b=none/\b≠X.env.locals/\b∉X.fs/\(b∈X.ex∨X.s₀.heap.objs.size<=b)/\(∀x c,X.env.cells.lookup x=some c->c≠b)/\ ∀p∈X.pn++pins,p.1≠b
theorem Inv.Gd{X:Cx}{pins:List (Addr×Obj)}{σ:St}{H H':Hp}{s:Shared}{b:Addr}(I:Inv X pins σ H s)(hb:s.heap.objs.size<=b)(hn:H' b=none):fW X pins H' b:=by
 refine⟨hn,Nat.ne_of_gt (Nat.lt_of_lt_of_le I.lt hb),I.Rl hb,.inr (Nat.le_trans I.sz hb),λx c e z=> ?_,λp hp z=> ?_⟩
 ·obtain⟨v,q⟩:=I.cell x c e
  exact absurd (Nat.lt_of_lt_of_le q.lt (by rw[z];exact hb)) (Nat.lt_irrefl _)
 ·exact absurd (Nat.lt_of_lt_of_le (Heap.lt_size (I.pin p hp).1) (by rw[z];exact hb)) (Nat.lt_irrefl _)
structure Turn(P:Program)(w:World)(K:PySem.W.Frag)(tg:Expr)(J:It)(fp:List Addr)(it:Addr)(tn:Nat->Heap->Prop):Prop where
 mem:it∈fp
 obj:∀i h,tn i h-> ∀b∈fp,∃o,h.get? b=some o/\ ∀v,o.data≠ .cell v
 keep:∀i h h',tn i h->(∀b∈fp,∀o,h.get? b=some o->h'.get? b=some o) ->tn i h'
 item:∀(X:Cx),X.prog=P->X.w=w->X.K=K->X.calm=true-> ∀(i:Nat)(pins:List (Addr×Obj))(s:Shared)(σ:St)(H:Hp)(E:Value->Shared->Prop),Inv X pins σ H s->(∀b∈fp,fW X pins H b) ->tn i s.heap->J.go i H->
  wpAny (model P w) X.A (pyNext (.ref it)) (λr s1=> ∃u,r=some u/\
   wpAny (model P w) X.A (letOwnedTupleGo tg (.ref it) u) (λ_ s2=> ∃x H',Inv X pins σ H' s2/\RelV x u/\J.AD i H x H'/\tn (i+1) s2.heap/\ ∀b∈fp,H' b=none) E s1) E s
 done:∀(X:Cx),X.prog=P->X.w=w->X.K=K->X.calm=true-> ∀(i:Nat)(pins:List (Addr×Obj))(s:Shared)(σ:St)(H:Hp)(E:Value->Shared->Prop),Inv X pins σ H s->(∀b∈fp,fW X pins H b) ->tn i s.heap->J.stop i H->
  wpAny (model P w) X.A (pyNext (.ref it)) (λr s1=>r=none/\Inv X pins σ H s1) E s
 self:∀(A:Around)(i:Nat)(s:Shared)(Q:Value->Shared->Prop)(E:Value->Shared->Prop),tn i s.heap->Q (.ref it) s->wpAny (model P w) A (pyIter (.ref it)) Q E s
noncomputable abbrev TI:=St->Hp->(It->Hp->Prop) ->Prop
noncomputable def WG(X:Cx)(pins:List (Addr×Obj))(σ:St)(tg:Expr)(R:It->Hp->Prop)(itv:Value)(s2:Shared):Prop:=
 ∃(it:Addr)(fp:List Addr)(tn:Nat->Heap->Prop)(J:It)(H':Hp),itv= .ref it/\Inv X pins σ H' s2/\Turn X.prog X.w X.K tg J fp it tn/\tn 0 s2.heap/\(∀b∈fp,fW X pins H' b)/\R J H'
noncomputable def PI(X:Cx)(tg iter:Expr)(wi:TI):Prop:=
 ∀(pins:List (Addr×Obj))(s:Shared)(σ:St)(H:Hp)(R:It->Hp->Prop),Inv X pins σ H s->wi σ H R->
  wpAny (model X.prog X.w) X.A (eval iter X.env) (λv s1=>wpAny (model X.prog X.w) X.A (pyIter v) (WG X pins σ tg R) X.xe s1) X.xe s
theorem NI{M:Model}{A:Around}{E:Value->Shared->Prop}{s:Shared}{tg:Expr}{it:Addr}{u:Value}{o:Obj}{n:String}{vs:Array Value}{Q:Unit->Shared->Prop}(ho:s.heap.get? it=some o)(hc:o.cls= .type n)(hd:o.data= .fields vs)
  (hn: ["enumerate","zip","dict_itemiterator","dict_reverseitemiterator","odict_iterator","itertools.zip_longest","itertools.pairwise"].contains n=false)(hQ:Q () s):wpAny M A (letOwnedTupleGo tg (.ref it) u) Q E s:=by
 unfold letOwnedTupleGo
 cases tg<;>first
  |exact wpAny_pure hQ
  |(cases u<;>first
    |exact wpAny_pure hQ
    |(refine wpAny_bind (wpAny_load ho ?_)
      rw[hc,hd]
      show wpAny M A (if(["enumerate","zip","dict_itemiterator","dict_reverseitemiterator","odict_iterator","itertools.zip_longest","itertools.pairwise"].contains n && vs[0]?==some (rawInt _))=true then _ else _) Q E s
      rw[if_neg (by intro h;rw[hn,Bool.false_and]at h;cases h)]
      exact wpAny_pure hQ))
noncomputable def NJ(K:PySem.W.Frag)(a:Addr):It:=
 ⟨λi H=> ∃xs x,aU K H a xs/\xs[i]?=some x,λi H x H'=>H'=H/\ ∀xs,aU K H a xs->xs[i]?=some x,λi H=> ∃xs,aU K H a xs/\xs.length<=i⟩
noncomputable def Lu(lo:Int)(n:Nat):It:=⟨λi _=>i<n,λi H x H'=>H'=H/\x= .int (lo+i),λi _=>n<=i⟩
theorem Ge{P:Program}{w:World}{K:PySem.W.Frag}{tg:Expr}(a it:Addr):Turn P w K tg (NJ K a) [it] it (λi h=>h.IsListIter it a i) where
 mem:=by simp
 obj:=λi h st b hb=>by
  have e:b=it:=by simpa using hb
  subst e
  obtain⟨o,e,c,d⟩:=st
  exact⟨o,e,λv z=>by rw[d]at z;cases z⟩
 keep:=λi h h' st k=>st.at λo e=>k it (by simp) o e
 item:=by
  intro X hP hw hK hc i pins s σ H E I hf st hg
  subst hP hw hK
  obtain⟨xs,x,hq,hx⟩:=hg
  obtain⟨its,rv,p,hz⟩:=I.list hq
  obtain⟨u,hu,ru⟩:=rv.get hx
  obtain⟨f0,f1,f2,f3,f4,f5⟩:=hf it (by simp)
  refine wpAny_pyNext_list_item st p.isList (x:=u) (by simpa using hu) λh' st' sb=> ?_
  have I1:Inv X pins σ H {s with heap:=h'}:=I.turned (t':=s.toks) (λb o hb e=>(sb.2 b hb).trans e) f0 f1 f3 f4 f5
  obtain⟨o,e,c,d⟩:=id st'
  exact⟨u,rfl,NI (s:={s with heap:=h'}) e c d (by decide) ⟨x,H,I1,ru,⟨rfl,λys hy=>by rw[I.uQ hy hq];exact hx⟩,st',λb hb=>(hf b hb).1⟩⟩
 done:=by
  intro X hP hw hK hc i pins s σ H E I hf st hg
  subst hP hw hK
  obtain⟨xs,hq,hx⟩:=hg
  obtain⟨its,rv,p,hz⟩:=I.list hq
  obtain⟨f0,f1,f2,f3,f4,f5⟩:=hf it (by simp)
  have hl:=rv.length
  exact wpAny_pyNext_list_end (I.ok.hd hc) st p.isList (by simp;omega) λh' eb=>⟨rfl,I.turned (t':=s.toks) (λb o hb e=>eb b o hb e) f0 f1 f3 f4 f5⟩
 self:=λ_ _ _ _ _ st h=>wpAny_pyIter_listiter st h
theorem CL{P:Program}{w:World}{K:PySem.W.Frag}{tg:Expr}(it:Addr)(lo:Int)(n:Nat):Turn P w K tg (Lu lo n) [it] it (λi h=>IsRangeIter h it (lo+(i:Nat)*1) ((n:Int) - (i:Nat)) 1) where
 mem:=by simp
 obj:=λi h st b hb=>by
  have e:b=it:=by simpa using hb
  subst e
  exact⟨_,st,λv z=>by
   have z':Data.fields _=Data.cell v:=z
   cases z'⟩
 keep:=λi h h' st k=>k it (by simp) _ st
 item:=by
  intro X hP hw hK hc i pins s σ H E I hf st hg
  subst hP hw hK
  obtain⟨f0,f1,f2,f3,f4,f5⟩:=hf it (by simp)
  have W:=Walks.range (prog:=X.prog) (w:=X.w) (I.ok.hd hc) it lo 1 n
  refine W.item i s _ _ hg st λv h' tk hv st' kk=> ?_
  obtain⟨t,rfl⟩:=hv
  have I1:Inv X pins σ H {s with heap:=h',toks:=tk}:=I.turned (λb o hb e=>kk b o (by simpa using hb) e) f0 f1 f3 f4 f5
  refine⟨_,rfl,NI (s:={s with heap:=h',toks:=tk}) (n:= "range_iterator") st' rfl rfl (by decide) ⟨.int (lo+i),H,I1,⟨t,?_⟩,⟨rfl,rfl⟩,st',λb hb=>(hf b hb).1⟩⟩
  rw[Int.mul_one]
 done:=by
  intro X hP hw hK hc i pins s σ H E I hf st hg
  subst hP hw hK
  obtain⟨f0,f1,f2,f3,f4,f5⟩:=hf it (by simp)
  exact wpAny_pyNext_range_end (I.ok.hd hc) st (by have:n<=i:=hg;omega) λh' eb=>⟨rfl,I.turned (t':=s.toks) (λb o hb e=>eb b o hb e) f0 f1 f3 f4 f5⟩
 self:=λ_ _ _ _ _ st h=>wpAny_pyIter_rangeiter st h
section
variable{X:Cx}{tg:Expr}
noncomputable def Ip(K:PySem.W.Frag)(tl:TE):TI:=λσ H R=>tl σ H λx H1=> ∃a,x= .ref a/\(∃xs,aU K H1 a xs)/\R (NJ K a) H1
theorem gv{l:Expr}{tl:TE}(hl:PE X l tl):PI X tg l (Ip X.K tl):=by
 intro pins s σ H R I h
 refine fZ (hl pins s σ H _ I h) λv s1 ⟨x,H1,I1,r1,q1⟩=> ?_
 obtain⟨a,e,⟨xs,hq⟩,q⟩:=q1
 subst e
 cases r1
 obtain⟨its,rv,p,hz⟩:=I1.list hq
 refine wpAny_pyIter_list p.isList ?_
 refine⟨s1.heap.objs.size,[s1.heap.objs.size],_,_,H1,rfl,I1.kept (t':=s1.toks) λb o e=>Heap.get?_push_of_some _ e,Ge a _,⟨_,Heap.get?_push_size _ rfl,rfl,rfl⟩,λb hb=> ?_,q⟩
 have e:b=s1.heap.objs.size:=by simpa using hb
 subst e
 exact I1.Gd (Nat.le_refl _) (I1.hok.fresh (Nat.le_refl _))
theorem AK{pins:List (Addr×Obj)}{σ:St}{H:Hp}{s:Shared}{R:It->Hp->Prop}{E:Value->Shared->Prop}{lo hi:Int}{t u v:Tok}{tk:Nat}(I:Inv X pins σ H s)(h1: -(2^62)<=lo)(h2:lo<2^62)(h3: -(2^62)<=hi)(h4:hi<2^62)
  (q:R (Lu lo (hi-lo).toNat) H):wpAny (model X.prog X.w) X.A (pyIter (.ref s.heap.objs.size)) (WG X pins σ tg R) E {s with heap:=s.heap.push {cls:= .type "range",data:= .fields #[.int lo t,.int hi u,.int 1 v]},toks:=tk}:=by
 refine wpAny_pyIter_range (IsRange.new ..) (small_one h1 h2 h3 h4) ?_
 have I1:Inv X pins σ H {s with heap:=s.heap.push {cls:= .type "range",data:= .fields #[.int lo t,.int hi u,.int 1 v]},toks:=tk}:=I.kept λb o e=>Heap.get?_push_of_some _ e
 refine⟨(s.heap.push {cls:= .type "range",data:= .fields #[.int lo t,.int hi u,.int 1 v]}).objs.size,[(s.heap.push {cls:= .type "range",data:= .fields #[.int lo t,.int hi u,.int 1 v]}).objs.size],_,_,H,rfl,
  I1.kept (t':=tk) λb o e=>Heap.get?_push_of_some _ e,CL _ lo (hi-lo).toNat,?_,λb hb=> ?_,q⟩
 ·have e1:lo+((0:Nat):Int)*1=lo:=by simp
  have e2:(((hi-lo).toNat:Nat):Int) - ((0:Nat):Int)=Builtin.Range.rangeSize lo hi 1:=by rw[rangeSize_one];split<;>omega
  show IsRangeIter _ _ (lo+((0:Nat):Int)*1) ((((hi-lo).toNat:Nat):Int) - ((0:Nat):Int)) 1
  rw[e1,e2]
  exact Heap.get?_push_size _ rfl
 ·have e:b=(s.heap.push {cls:= .type "range",data:= .fields #[.int lo t,.int hi u,.int 1 v]}).objs.size:=by simpa using hb
  subst e
  exact I1.Gd (Nat.le_refl _) (I1.hok.fresh (Nat.le_refl _))
noncomputable def x9(ta:TA):TI:=λσ H R=>ta σ H λvs H1=> ∃j:Int,vs=[.int j]/\ -(2^62)<=j/\j<2^62/\R (Lu 0 j.toNat) H1
noncomputable def RC(ta:TA):TI:=λσ H R=>ta σ H λvs H1=> ∃i j:Int,vs=[.int i,.int j]/\(-(2^62)<=i/\i<2^62/\ -(2^62)<=j/\j<2^62)/\R (Lu i (j-i).toNat) H1
theorem cN{a:Expr}{ta:TA}{p pos:Pos}(hg:Gl X "range")(hm:X.mg "range"=none)(ha:PA X [a] ta)(hs:starEach [a] X.env=[(false,eval a X.env)]:=by rfl):PI X tg (.Call (.Name "range" p) [a] [] pos) (x9 ta):=by
 intro pins s σ H R I h
 refine Call_ (mh I hg hm boot_range (PyProof.Rows.callWith_type1 (fZ (ha pos pins s σ H _ I h) λus s1 ⟨vs,H1,I1,r1,q1⟩=> ?_) hs rfl))
 obtain⟨j,e,q1,q2,q⟩:=q1
 subst e
 cases r1 with
 |cons r rr=>
  cases rr
  obtain⟨t,rfl⟩:=r
  exact call_range_1 (AK I1 (by omega) (by omega) q1 q2 (by simpa using q))
theorem yc{a b:Expr}{ta:TA}{p pos:Pos}(hg:Gl X "range")(hm:X.mg "range"=none)(ha:PA X [a,b] ta)(hs:starEach [a,b] X.env=[(false,eval a X.env),(false,eval b X.env)]:=by rfl)(hs2:starEach [b] X.env=[(false,eval b X.env)]:=by rfl):
  PI X tg (.Call (.Name "range" p) [a,b] [] pos) (RC ta):=by
 intro pins s σ H R I h
 refine Call_ (mh I hg hm boot_range (PyProof.Rows.callWith_type1 (fZ (ha pos pins s σ H _ I h) λus s1 ⟨vs,H1,I1,r1,q1⟩=> ?_) (by rw[hs,hs2]) (by rw[hs2];rfl)))
 obtain⟨i,j,e,⟨q1,q2,q3,q4⟩,q⟩:=q1
 subst e
 cases r1 with
 |cons r rr=>
  cases rr with
  |cons r' rr=>
   cases rr
   obtain⟨t,rfl⟩:=r
   obtain⟨t',rfl⟩:=r'
   exact call_range_2 (AK I1 q1 q2 q3 q4 q)
noncomputable def UM(wi:TI)(g:TG)(tb:TS):TS:=λD σ H=>wi σ H λJ H1=> ∃W:Nat->Nat->St->Hp->Prop,(∃m,W 0 m σ H1)/\ ∀i m σ H,W i m σ H->
 (J.stop i H/\D.nx σ H)∨(J.go i H/\ ∃N:St->Hp->Prop,(∀σ' H',N σ' H'-> ∃m',m'<m/\W (i+1) m' σ' H')/\ ∀x H',J.AD i H x H'->g x σ H' λσ2 H2=>tb {D with nx:=N,ct:=N,bk:=D.nx} σ2 H2)
noncomputable def dh(fp:List Addr)(h:Heap):List (Addr×Obj):=fp.filterMap λb=>(h.get? b).map λo=>(b,o)
theorem cG{fp:List Addr}{h:Heap}{b:Addr}{o:Obj}(hb:b∈fp)(e:h.get? b=some o):(b,o)∈dh fp h:=List.mem_filterMap.mpr ⟨b,hb,by rw[e];rfl⟩
theorem jT{fp:List Addr}{h:Heap}{p:Addr×Obj}(hp:p∈dh fp h):p.1∈fp/\h.get? p.1=some p.2:=by
 obtain⟨b,hb,e⟩:=List.mem_filterMap.mp hp
 cases q:h.get? b with
 |none=>rw[q]at e;cases e
 |some o=>
  rw[q]at e
  have e':(b,o)=p:=Option.some.inj e
  subst e'
  exact⟨hb,q⟩
theorem Inv.pinned{pins:List (Addr×Obj)}{σ:St}{H:Hp}{s:Shared}{fp:List Addr}(I:Inv X pins σ H s)(hf:∀b∈fp,fW X pins H b)(ho:∀b∈fp,∃o,s.heap.get? b=some o/\ ∀v,o.data≠ .cell v):Inv X (pins++dh fp s.heap) σ H s:=
 I.jL λp hp=>(List.mem_append.mp hp).elim (λz=>I.pin p (List.mem_append_right _ z)) λz=>by
  obtain⟨hb,e⟩:=jT z
  obtain⟨f0,f1,f2,_⟩:=hf p.1 hb
  obtain⟨o,e',d⟩:=ho p.1 hb
  rw[e]at e';cases e'
  exact⟨e,f0,f1,f2,d⟩
theorem Inv.jf{pins pl:List (Addr×Obj)}{σ:St}{H:Hp}{s:Shared}(I:Inv X (pins++pl) σ H s):Inv X pins σ H s:=I.jL λp hp=>I.pin p (List.mem_append_right _ (List.mem_append_left _ hp))
theorem gO{iter:Expr}{body:List Stmt}{wi:TI}{g:TG}{tb:TS}{pos:Pos}(hp:PassesOwn (model X.prog X.w) X.A X.env X.xe)(hc:X.calm=true)(hi:PI X tg iter wi)(hg:PG X tg g)(hb:yZ X body tb)
  (hs:∀x,foldedSetIterable iter X.env x=pure x:=by intro _;rfl):PS X (.For tg iter body [] pos) (UM wi g tb):=by
 intro pins s σ H D I h
 refine wpAny_For (fZ (hi pins s σ H _ I h) λv s1 h1=>fZ h1 λitv s2 h2=> ?_) hs
 obtain⟨it,fp,tn,J,H2,e,I2,T,st2,f2,W,⟨m0,w0⟩,turn⟩:=h2
 subst e
 have zf:∀{H':Hp},(∀b∈fp,H' b=none) -> ∀b∈fp,fW X pins H' b:=λhn b hb=>⟨hn b hb,(f2 b hb).2⟩
 refine codeAny_forLoop_any (λn s'=> ∃i σ' H',Inv X pins σ' H' s'/\tn i s'.heap/\(∀b∈fp,H' b=none)/\W i n σ' H') ?_ m0 ⟨0,σ,H2,I2,st2,λb hb=>(f2 b hb).1,w0⟩
 rintro n s3 ⟨i,σ3,H3,I3,st3,yd,w3⟩
 rcases turn i n σ3 H3 w3 with⟨stop,qn⟩|⟨go,N,hN,step⟩
 ·refine wpAny_passesOwn hp (fZ (T.done X rfl rfl rfl hc i pins s3 σ3 H3 X.xe I3 (zf yd) st3 stop) λr s4 ⟨hr,I4⟩=> ?_)
  subst hr
  exact wpAny_execs_nil ⟨σ3,H3,I4,qn⟩
 ·refine wpAny_passesOwn hp (fZ (T.item X rfl rfl rfl hc i pins s3 σ3 H3 X.xe I3 (zf yd) st3 go) λr s4 ⟨u,hr,h4⟩=> ?_)
  subst hr
  refine wpAny_passesOwn hp (fZ h4 λ_ s5 ⟨x,H5,I5,r5,y5,AL,OL⟩=> ?_)
  have OM:=I5.pinned (zf OL) (T.obj _ _ AL)
  refine wpAny_passesOwn hp (fZ (hg _ s5 σ3 H5 x u _ OM r5 (step x H5 y5)) λ_ s6 ⟨EI,H6,I6,q6⟩=> ?_)
  refine wpAny_passesOwn hp (fZ (hb _ s6 EI H6 _ I6 q6) λf s7 q7=> ?_)
  have again:∀{AE:St}{H7:Hp},Inv X (pins++dh fp s5.heap) AE H7 s7->N AE H7-> ∃m,m<n/\ ∃i σ' H',Inv X pins σ' H' s7/\tn i s7.heap/\(∀b∈fp,H' b=none)/\W i m σ' H':=λ {AE H7} I7 n7=>by
   obtain⟨m',hm,w7⟩:=hN AE H7 n7
   refine⟨m',hm,i+1,AE,H7,I7.jf,T.keep _ _ _ AL λb hb o e=>(I7.pin (b,o) (List.mem_append_right _ (List.mem_append_right _ (cG hb e)))).1,λb hb=> ?_,w7⟩
   obtain⟨o,e,d⟩:=T.obj _ _ AL b hb
   exact(I7.pin (b,o) (List.mem_append_right _ (List.mem_append_right _ (cG hb e)))).2.1
  cases f with
  |next=>obtain⟨AE,H7,I7,n7⟩:=q7;exact again I7 n7
  |cont=>obtain⟨AE,H7,I7,n7⟩:=q7;exact again I7 n7
  |brk=>obtain⟨AE,H7,I7,q7⟩:=q7;exact⟨AE,H7,I7.jf,q7⟩
  |ret v=>obtain⟨x7,AE,H7,I7,r7,q7⟩:=q7;exact⟨x7,AE,H7,I7.jf,r7,q7⟩
end
theorem lR{K:PySem.W.Frag}{a:Addr}{xs:List V}{g:TG}{tb:TS}{D:Ends}{σ:St}{H:Hp}(Pv:Nat->St->Hp->Prop)(h0:Pv 0 σ H)(hl:∀i σ H,i<=xs.length->Pv i σ H->aU K H a xs)
  (hs:∀i x σ H,xs[i]?=some x->Pv i σ H->g x σ H λσ2 H2=>tb {D with nx:=Pv (i+1),ct:=Pv (i+1),bk:=D.nx} σ2 H2)(hd:∀σ H,Pv xs.length σ H->D.nx σ H):
  ∃W:Nat->Nat->St->Hp->Prop,(∃m,W 0 m σ H)/\ ∀i m σ H,W i m σ H->
   ((NJ K a).stop i H/\D.nx σ H)∨((NJ K a).go i H/\ ∃N:St->Hp->Prop,(∀σ' H',N σ' H'-> ∃m',m'<m/\W (i+1) m' σ' H')/\ ∀x H',(NJ K a).AD i H x H'->g x σ H' λσ2 H2=>tb {D with nx:=N,ct:=N,bk:=D.nx} σ2 H2):=by
 refine⟨λi m σ H=>m=xs.length-i/\i<=xs.length/\Pv i σ H,⟨xs.length,by simp,Nat.zero_le _,h0⟩,?_⟩
 rintro i m σ H ⟨rfl,hi,p⟩
 have q:=hl i σ H hi p
 by_cases hlt:i<xs.length
 ·refine .inr ⟨⟨xs,xs[i],q,by simp[hlt]⟩,Pv (i+1),λσ' H' p'=>⟨xs.length- (i+1),by omega,rfl,hlt,p'⟩,λx H' y=> ?_⟩
  obtain⟨e,y⟩:=y
  subst e
  exact hs i x σ _ (y xs q) p
 ·have e:i=xs.length:=by omega
  subst e
  exact .inl ⟨⟨xs,q,Nat.le_refl _⟩,hd σ H p⟩
theorem gh{lo:Int}{n:Nat}{g:TG}{tb:TS}{D:Ends}{σ:St}{H:Hp}(Pv:Nat->St->Hp->Prop)(h0:Pv 0 σ H)
  (hs:∀i σ H,i<n->Pv i σ H->g (.int (lo+i)) σ H λσ2 H2=>tb {D with nx:=Pv (i+1),ct:=Pv (i+1),bk:=D.nx} σ2 H2)(hd:∀σ H,Pv n σ H->D.nx σ H):
  ∃W:Nat->Nat->St->Hp->Prop,(∃m,W 0 m σ H)/\ ∀i m σ H,W i m σ H->
   ((Lu lo n).stop i H/\D.nx σ H)∨((Lu lo n).go i H/\ ∃N:St->Hp->Prop,(∀σ' H',N σ' H'-> ∃m',m'<m/\W (i+1) m' σ' H')/\ ∀x H',(Lu lo n).AD i H x H'->g x σ H' λσ2 H2=>tb {D with nx:=N,ct:=N,bk:=D.nx} σ2 H2):=by
 refine⟨λi m σ H=>m=n-i/\i<=n/\Pv i σ H,⟨n,by simp,Nat.zero_le _,h0⟩,?_⟩
 rintro i m σ H ⟨rfl,hi,p⟩
 by_cases hlt:i<n
 ·refine .inr ⟨hlt,Pv (i+1),λσ' H' p'=>⟨n- (i+1),by omega,rfl,hlt,p'⟩,λx H' y=> ?_⟩
  obtain⟨e,y⟩:=y
  subst e y
  exact hs i σ _ hlt p
 ·have e:i=n:=by omega
  subst e
  exact .inl ⟨Nat.le_refl _,hd σ H p⟩
theorem uY{c:TT}{tb:TS}{D:Ends}{σ:St}{H:Hp}(Pv:St->Hp->Prop)(μ:St->Hp->Nat)(h0:Pv σ H)
  (hs:∀σ H,Pv σ H->c σ H λb H1=>if b=true then tb {D with nx:=λσ' H'=>Pv σ' H'/\μ σ' H'<μ σ H,ct:=λσ' H'=>Pv σ' H'/\μ σ' H'<μ σ H,bk:=D.nx} σ H1 else D.nx σ H1)
  (mono:∀σ H Q Q',(∀b H1,Q b H1->Q' b H1) ->c σ H Q->c σ H Q'):Io c tb D σ H:=by
 refine⟨λm σ H=>m=μ σ H/\Pv σ H,⟨_,rfl,h0⟩,?_⟩
 rintro m σ H ⟨rfl,p⟩
 refine mono σ H _ _ (λb H1 q=> ?_) (hs σ H p)
 cases b with
 |true=>exact⟨_,λσ' H' ⟨p',l⟩=>⟨_,l,rfl,p'⟩,q⟩
 |false=>exact q
noncomputable abbrev R2:=V->V->Hp->VK->Prop
noncomputable def qz(X:Cx)(f:Value->Value->Sem Value)(r:R2):Prop:=
 ∀(pins:List (Addr×Obj))(s:Shared)(σ:St)(H:Hp)(x y:V)(v u:Value)(Q:VK),Inv X pins σ H s->RelV x v->RelV y u->r x y H Q->
  wpAny (model X.prog X.w) X.A (f v u) (EP X pins σ Q) X.xe s
noncomputable def UN(X:Cx)(f:Value->Sem Value)(r:V->Hp->VK->Prop):Prop:=
 ∀(pins:List (Addr×Obj))(s:Shared)(σ:St)(H:Hp)(x:V)(v:Value)(Q:VK),Inv X pins σ H s->RelV x v->r x H Q->
  wpAny (model X.prog X.w) X.A (f v) (EP X pins σ Q) X.xe s
noncomputable def qC(X:Cx)(f:Value)(r:List V->Hp->VK->Prop):Prop:=
 ∀(pins:List (Addr×Obj))(s:Shared)(σ:St)(H:Hp)(xs:List V)(us:List Value)(Q:VK),Inv X pins σ H s->Vals xs us->r xs H Q->
  wpAny (model X.prog X.w) X.A (call f us) (EP X pins σ Q) X.xe s
noncomputable def jq(r:R2)(ta tb:TE):TE:=λσ H Q=>ta σ H λx H1=>tb σ H1 λy H2=>r x y H2 Q
noncomputable def Yk(r:V->Hp->VK->Prop)(ta:TE):TE:=λσ H Q=>ta σ H λx H1=>r x H1 Q
inductive ZI(C:Int->Int->Prop)(g:Int->Int->V)(x y:V)(H:Hp)(Q:VK):Prop
 |mk(i j:Int)(ex:x= .int i)(ey:y= .int j)(c:C i j)(q:Q (g i j) H)
noncomputable def rI(C:Int->Int->Prop)(g:Int->Int->V):R2:=ZI C g
inductive Yl(g:Int->Int->V)(x y:V)(H:Hp)(Q:VK):Prop
 |mk(i j:Int)(ex:x= .int i)(ey:y= .int j)(q:Q (g i j) H)
noncomputable def CD(g:Int->Int->V):R2:=Yl g
inductive ZU(g:Int->V)(x:V)(H:Hp)(Q:VK):Prop
 |mk(i:Int)(ex:x= .int i)(q:Q (g i) H)
noncomputable def rU(g:Int->V):V->Hp->VK->Prop:=ZU g
section
variable{X:Cx}{a b c:Expr}{ta tb tc:TE}{pos:Pos}
theorem ON(ha:PE X a ta)(hb:PE X b tb){pins:List (Addr×Obj)}{s:Shared}{σ:St}{H:Hp}{R:V->V->Hp->Prop}(I:Inv X pins σ H s)
  (h:ta σ H λx H1=>tb σ H1 λy H2=>R x y H2){Q:Value->Shared->Prop}{f:Value->Value->Sem Value}
  (hf:∀v u s2 x y H2,Inv X pins σ H2 s2->RelV x v->RelV y u->R x y H2->wpAny (model X.prog X.w) X.A (f v u) Q X.xe s2):
  wpAny (model X.prog X.w) X.A (eval a X.env) (λv s₁=>wpAny (model X.prog X.w) X.A (eval b X.env) (λu s₂=>wpAny (model X.prog X.w) X.A (f v u) Q X.xe s₂) X.xe s₁) X.xe s:=by
 refine fZ (ha pins s σ H _ I h) λv s1 ⟨x,H1,I1,r1,q1⟩=> ?_
 refine fZ (hb pins s1 σ H1 _ I1 q1) λu s2 ⟨y,H2,I2,r2,q2⟩=> ?_
 exact hf v u s2 x y H2 I2 r1 r2 q2
theorem aq{op:Operator}{r:R2}(ho:qz X (binaryOp op) r)(ha:PE X a ta)(hb:PE X b tb):PE X (.BinOp a op b pos) (jq r ta tb):=by
 intro pins s σ H Q I h
 exact wpAny_BinOp (ON ha hb I h λv u s2 x y H2 I2 rx ry q=>ho pins s2 σ H2 x y v u Q I2 rx ry q)
theorem AM{op:UnaryOp}{r:V->Hp->VK->Prop}(ho:UN X (unaryOp op) r)(ha:PE X a ta):PE X (.UnaryOp op a pos) (Yk r ta):=by
 intro pins s σ H Q I h
 exact UnaryOp_ (fZ (ha pins s σ H _ I h) λv s1 ⟨x,H1,I1,r1,q1⟩=>ho pins s1 σ H1 x v Q I1 r1 q1)
theorem OO{f:Value->Value->Sem Value}{C:Int->Int->Prop}{g:Int->Int->Int}
  (rule:∀(i j:Int)(t u:Tok)(s:Shared)(Q:Value->Shared->Prop)(E:Value->Shared->Prop),C i j->Q (.int (g i j) s.toks) {s with toks:=s.toks+1} ->wpAny (model X.prog X.w) X.A (f (.int i t) (.int j u)) Q E s):
  qz X f (rI C λi j=> .int (g i j)):=by
 intro pins s σ H x y v u Q I rx ry h
 obtain⟨i,j,rfl,rfl,hc,q⟩:=h
 obtain⟨t,rfl⟩:=rx
 obtain⟨t',rfl⟩:=ry
 exact rule i j t t' s _ _ hc ⟨.int (g i j),H,I.tok _,⟨_,rfl⟩,q⟩
theorem RD{f:Value->Value->Sem Value}{g:Int->Int->Int}
  (rule:∀(i j:Int)(t u:Tok)(s:Shared)(Q:Value->Shared->Prop)(E:Value->Shared->Prop),Q (.int (g i j) s.toks) {s with toks:=s.toks+1} ->wpAny (model X.prog X.w) X.A (f (.int i t) (.int j u)) Q E s):
  qz X f (CD λi j=> .int (g i j)):=by
 intro pins s σ H x y v u Q I rx ry h
 obtain⟨i,j,rfl,rfl,q⟩:=h
 obtain⟨t,rfl⟩:=rx
 obtain⟨t',rfl⟩:=ry
 exact rule i j t t' s _ _ ⟨.int (g i j),H,I.tok _,⟨_,rfl⟩,q⟩
theorem LQ{f:Value->Value->Sem Value}{g:Int->Int->Bool}
  (rule:∀(i j:Int)(t u:Tok)(s:Shared)(Q:Value->Shared->Prop)(E:Value->Shared->Prop),Q (.bool (g i j)) s->wpAny (model X.prog X.w) X.A (f (.int i t) (.int j u)) Q E s):
  qz X f (CD λi j=> .bl (g i j)):=by
 intro pins s σ H x y v u Q I rx ry h
 obtain⟨i,j,rfl,rfl,q⟩:=h
 obtain⟨t,rfl⟩:=rx
 obtain⟨t',rfl⟩:=ry
 exact rule i j t t' s _ _ ⟨.bl (g i j),H,I,rfl,q⟩
noncomputable def LR(i j:Int):Prop:=0<j/\j<1073741824
noncomputable def RE(i j:Int):Prop:=0<=j/\j<=1000000/\i.natAbs<2^64
noncomputable def OP(i j:Int):Prop:=(-(2^64)<i/\i<2^64)∨(-(2^64)<j/\j<2^64)
theorem OP.ok{i j:Int}(h:OP i j):IntMulOk i j:=by
 rcases h with⟨h1,h2⟩|⟨h1,h2⟩
 ·exact .of_left (intBits_le_64 h1 h2)
 ·exact .of_right (intBits_le_64 h1 h2)
theorem bV:qz X (binaryOp .Add) (CD λi j=> .int (i+j)):=RD λ_ _ _ _ _ _ _ q=>add_int q
theorem dG:qz X (binaryOp .Sub) (CD λi j=> .int (i-j)):=RD λ_ _ _ _ _ _ _ q=>sub_int q
theorem g7:qz X (binaryOp .Mult) (rI OP λi j=> .int (i*j)):=OO λ_ _ _ _ _ _ _ hc q=>mul_int q hc.ok
theorem fm:qz X (binaryOp .FloorDiv) (rI LR λi j=> .int (i/j)):=OO λi j _ _ _ _ _ hc q=>by
 have h1:(0:Int)<j:=hc.1
 have h2:j<1073741824:=hc.2
 exact floordiv_int (by omega) (by rw[Int.fdiv_eq_ediv_of_nonneg i (by omega)];exact q) (.inl (PyProof.noPylong_small (by omega)))
theorem g8:qz X (binaryOp .Mod) (rI (λ_ j=>0<j) λi j=> .int (i%j)):=OO λi j _ _ _ _ _ hc q=>by
 have h1:(0:Int)<j:=hc
 exact mod_int' (by omega) (by rw[Int.fmod_eq_emod_of_nonneg i (by omega)];exact q)
theorem Iq:qz X (binaryOp .Pow) (rI RE λi j=> .int (i^j.toNat)):=OO λ_ _ _ _ _ _ _ hc q=>pow_int_small hc.1 hc.2.1 hc.2.2 q
theorem OQ:qz X (binaryOp .LShift) (rI RE λi j=> .int (i*2^j.toNat)):=OO λ_ _ _ _ _ _ _ hc q=>lshift_int_small hc.1 hc.2.1 hc.2.2 q
theorem Ym{f:Value->Sem Value}{g:Int->Int}
  (rule:∀(i:Int)(t:Tok)(s:Shared)(Q:Value->Shared->Prop)(E:Value->Shared->Prop),Q (.int (g i) s.toks) {s with toks:=s.toks+1} ->wpAny (model X.prog X.w) X.A (f (.int i t)) Q E s):
  UN X f (rU λi=> .int (g i)):=by
 intro pins s σ H x v Q I rx h
 obtain⟨i,rfl,q⟩:=h
 obtain⟨t,rfl⟩:=rx
 exact rule i t s _ _ ⟨.int (g i),H,I.tok _,⟨_,rfl⟩,q⟩
theorem uZ:UN X (unaryOp .USub) (rU λi=> .int (-i)):=Ym λ_ _ _ _ _ q=>neg_int q
end
noncomputable def RG:V->V->Bool
 | .gK,.gK=>true| .gK,.int _=>true| .int _,.gK=>true| .gK,.bl _=>true| .bl _,.gK=>true| .gK,.str _=>true| .str _,.gK=>true
 | .int _,.int _=>true| .bl _,.bl _=>true| .str _,.str _=>true| .Ib _,.Ib _=>true
 | .int _,.str _=>true| .str _,.int _=>true| .bl _,.str _=>true| .str _,.bl _=>true
 |_,_=>false
noncomputable def WH:R2:=λx y H Q=>RG x y=true/\Q (.bl (decide (x=y))) H
noncomputable def WI:R2:=λx y H Q=>RG x y=true/\Q (.bl (!decide (x=y))) H
theorem EJ{i j:Int}:decide (V.int i=V.int j)=(i==j):=by
 rw[Bool.eq_iff_iff]
 simp
theorem Ir{i j:Bool}:decide (V.bl i=V.bl j)=(i==j):=by
 rw[Bool.eq_iff_iff]
 simp
theorem EK{i j:Str}:decide (V.str i=V.str j)=(i==j):=by
 rw[Bool.eq_iff_iff]
 simp
theorem EL{i j:Array UInt8}:decide (V.Ib i=V.Ib j)=(i.toList==j.toList):=by
 rw[Bool.eq_iff_iff]
 cases i
 cases j
 simp
section
variable{X:Cx}{a b c:Expr}{ta tb tc:TE}{pos:Pos}
theorem cO{pins:List (Addr×Obj)}{σ:St}{H:Hp}{s:Shared}{Q:VK}{k k':Bool}(I:Inv X pins σ H s)(q:Q (.bl k) H)(e:k=k'):EP X pins σ Q (.bool k') s:=by
 subst e
 exact⟨.bl k,H,I,rfl,q⟩
theorem EM:qz X (compareOp .Eq) WH:=by
 intro pins s σ H x y v u Q I rx ry h
 obtain⟨hs,q⟩:=h
 cases x with
 |gK=>
  cases rx
  cases y with
  |gK=>cases ry;exact PySem.EqNone.eq_none_none (cO I q (by simp))
  |bl j=>cases ry;exact PySem.EqNone.eq_none_bool (cO I q (by simp))
  |int j=>obtain⟨t',rfl⟩:=ry;exact PySem.EqNone.eq_none_int (cO I q (by simp))
  |str j=>obtain⟨t',rfl⟩:=ry;exact PySem.EqNone.eq_none_str (cO I q (by simp))
  |_=>exact absurd (show false=true from hs) Bool.false_ne_true
 |bl i=>
  cases rx
  cases y with
  |gK=>cases ry;exact PySem.EqNone.eq_bool_none (cO I q (by simp))
  |bl j=>cases ry;exact eq_bool (cO I q Ir)
  |str j=>obtain⟨t',rfl⟩:=ry;exact PySem.EqMixed.eq_bool_str (cO I q (by simp))
  |_=>exact absurd (show false=true from hs) Bool.false_ne_true
 |int i=>
  obtain⟨t,rfl⟩:=rx
  cases y with
  |gK=>cases ry;exact PySem.EqNone.eq_int_none (cO I q (by simp))
  |int j=>obtain⟨t',rfl⟩:=ry;exact eq_int (cO I q EJ)
  |str j=>obtain⟨t',rfl⟩:=ry;exact PySem.EqMixed.eq_int_str (cO I q (by simp))
  |_=>exact absurd (show false=true from hs) Bool.false_ne_true
 |str i=>
  obtain⟨t,rfl⟩:=rx
  cases y with
  |gK=>cases ry;exact PySem.EqNone.eq_str_none (cO I q (by simp))
  |bl j=>cases ry;exact PySem.EqMixed.eq_str_bool (cO I q (by simp))
  |int j=>obtain⟨t',rfl⟩:=ry;exact PySem.EqMixed.eq_str_int (cO I q (by simp))
  |str j=>obtain⟨t',rfl⟩:=ry;exact eq_str (cO I q EK)
  |_=>exact absurd (show false=true from hs) Bool.false_ne_true
 |Ib i=>
  obtain⟨t,rfl⟩:=rx
  cases y with
  |Ib j=>obtain⟨t',rfl⟩:=ry;exact PySem.W.eq_bytes (cO I q EL)
  |_=>exact absurd (show false=true from hs) Bool.false_ne_true
 |_=>cases y<;>exact absurd (show false=true from hs) Bool.false_ne_true
theorem AN:qz X (compareOp .NotEq) WI:=by
 intro pins s σ H x y v u Q I rx ry h
 obtain⟨hs,q⟩:=h
 cases x with
 |gK=>
  cases rx
  cases y with
  |gK=>cases ry;exact PySem.EqNone.ne_none_none (cO I q (by simp))
  |bl j=>cases ry;exact PySem.EqNone.ne_none_bool (cO I q (by simp))
  |int j=>obtain⟨t',rfl⟩:=ry;exact PySem.EqNone.ne_none_int (cO I q (by simp))
  |str j=>obtain⟨t',rfl⟩:=ry;exact PySem.EqNone.ne_none_str (cO I q (by simp))
  |_=>exact absurd (show false=true from hs) Bool.false_ne_true
 |bl i=>
  cases rx
  cases y with
  |gK=>cases ry;exact PySem.EqNone.ne_bool_none (cO I q (by simp))
  |bl j=>cases ry;exact ne_bool (cO I q (congrArg not Ir))
  |str j=>obtain⟨t',rfl⟩:=ry;exact PySem.EqMixed.ne_bool_str (cO I q (by simp))
  |_=>exact absurd (show false=true from hs) Bool.false_ne_true
 |int i=>
  obtain⟨t,rfl⟩:=rx
  cases y with
  |gK=>cases ry;exact PySem.EqNone.ne_int_none (cO I q (by simp))
  |int j=>obtain⟨t',rfl⟩:=ry;exact ne_int (cO I q (congrArg not EJ))
  |str j=>obtain⟨t',rfl⟩:=ry;exact PySem.EqMixed.ne_int_str (cO I q (by simp))
  |_=>exact absurd (show false=true from hs) Bool.false_ne_true
 |str i=>
  obtain⟨t,rfl⟩:=rx
  cases y with
  |gK=>cases ry;exact PySem.EqNone.ne_str_none (cO I q (by simp))
  |bl j=>cases ry;exact PySem.EqMixed.ne_str_bool (cO I q (by simp))
  |int j=>obtain⟨t',rfl⟩:=ry;exact PySem.EqMixed.ne_str_int (cO I q (by simp))
  |str j=>obtain⟨t',rfl⟩:=ry;exact ne_str (cO I q (congrArg not EK))
  |_=>exact absurd (show false=true from hs) Bool.false_ne_true
 |Ib i=>
  obtain⟨t,rfl⟩:=rx
  cases y with
  |Ib j=>obtain⟨t',rfl⟩:=ry;exact PySem.W.ne_bytes (cO I q (congrArg not EL))
  |_=>exact absurd (show false=true from hs) Bool.false_ne_true
 |_=>cases y<;>exact absurd (show false=true from hs) Bool.false_ne_true
theorem RH:qz X (compareOp .Lt) (CD λi j=> .bl (decide (i<j))):=LQ λ_ _ _ _ _ _ _ q=>lt_int q
theorem vc:qz X (compareOp .LtE) (CD λi j=> .bl (decide (i<=j))):=LQ λ_ _ _ _ _ _ _ q=>le_int q
theorem qD:qz X (compareOp .Gt) (CD λi j=> .bl (decide (j<i))):=LQ λ_ _ _ _ _ _ _ q=>gt_int q
theorem Iu:qz X (compareOp .GtE) (CD λi j=> .bl (decide (j<=i))):=LQ λ_ _ _ _ _ _ _ q=>ge_int q
theorem Iv:qz X (compareOp .Is) (λx y H Q=>y= .gK/\Q (.bl (decide (x= .gK))) H):=by
 intro pins s σ H x y v u Q I rx ry h
 obtain⟨rfl,q⟩:=h
 cases ry
 refine is_none_gen (cO I q ?_)
 cases x<;>first
  |(cases rx;rfl)
  |(obtain⟨t,rfl⟩:=rx;rfl)
theorem LS:qz X (compareOp .IsNot) (λx y H Q=>y= .gK/\Q (.bl (!decide (x= .gK))) H):=by
 intro pins s σ H x y v u Q I rx ry h
 obtain⟨rfl,q⟩:=h
 cases ry
 refine isnot_none_gen (cO I q ?_)
 cases x<;>first
  |(cases rx;rfl)
  |(obtain⟨t,rfl⟩:=rx;rfl)
theorem cK(b:Expr){op:CmpOp}(h:op≠ .In:=by decide)(h2:op≠ .NotIn:=by decide):behindInMarks op b=false:=by
 have e1:(op==CmpOp.In)=false:=by cases op<;>first|rfl|exact absurd rfl h
 have e2:(op==CmpOp.NotIn)=false:=by cases op<;>first|rfl|exact absurd rfl h2
 cases b<;>simp[behindInMarks,e1,e2]
theorem kO{op:CmpOp}{r:R2}(ho:qz X (compareOp op) r)(ha:PE X a ta)(hb:PE X b tb)(hm:behindInMarks op b=false):PE X (.Compare a [op] [b] pos) (jq r ta tb):=by
 intro pins s σ H Q I h
 exact wpAny_Compare1 (ON ha hb I h λv u s2 x y H2 I2 rx ry q=>ho pins s2 σ H2 x y v u Q I2 rx ry q) hm
noncomputable def Iw(t:TE):TT:=λσ H Q=>t σ H λx H1=>WE x λc=>Q c H1
theorem cL{op:CmpOp}{r:R2}(ho:qz X (compareOp op) r)(ha:PE X a ta)(hb:PE X b tb)(hm:behindInMarks op b=false):PT X (.Compare a [op] [b] pos) (Iw (jq r ta tb)):=by
 intro pins s σ H Q I h
 refine wpAny_isTrue_Compare1 (fZ (ha pins s σ H _ I h) λv s1 ⟨x,H1,I1,r1,q1⟩=>fZ (hb pins s1 σ H1 _ I1 q1) λu s2 ⟨y,H2,I2,r2,q2⟩=>
  fZ (ho pins s2 σ H2 x y v u _ I2 r1 r2 q2) λc s3 ⟨z,H3,I3,r3,k,e,q3⟩=> ?_) hm
 subst e
 cases r3
 exact wpAny_truthy_bool ⟨H3,I3,q3⟩
noncomputable def OR(r r':R2)(ta tb tc:TE):TE:=λσ H Q=>ta σ H λx H1=>tb σ H1 λy H2=>r x y H2 λz H3=> ∃k,z= .bl k/\
 (if k=true then tc σ H3 λw' H4=>r' y w' H4 Q else Q (.bl false) H3)
theorem Iz{op op':CmpOp}{r r':R2}(ho:qz X (compareOp op) r)(ho':qz X (compareOp op') r')(ha:PE X a ta)(hb:PE X b tb)(hc:PE X c tc)
  (hm:lastMarks [op,op'] [b,c]=false:=by with_unfolding_all rfl):PT X (.Compare a [op,op'] [b,c] pos) (Iw (OR r r' ta tb tc)):=by
 intro pins s σ H Q I h
 refine isTrue_chain (fZ (ha pins s σ H _ I h) λv s1 ⟨x,H1,I1,r1,q1⟩=>test_link (fZ (hb pins s1 σ H1 _ I1 q1) λu s2 ⟨y,H2,I2,r2,q2⟩=>
  fZ (ho pins s2 σ H2 x y v u _ I2 r1 r2 q2) λd s3 ⟨z,H3,I3,r3,k,e,q3⟩=> ?_)) hm
 subst e
 cases r3
 refine wpAny_truthy_bool ?_
 cases k with
 |false=>
  obtain⟨k',e',q'⟩:=q3
  cases e'
  exact ite_ff ⟨H3,I3,q'⟩
 |true=>
  refine ite_tt (test_last (fZ (hc pins s3 σ H3 _ I3 q3) λw' s4 ⟨z',H4,I4,r4,q4⟩=>fZ (ho' pins s4 σ H4 y z' u w' _ I4 r2 r4 q4) λd' s5 ⟨z2,H5,I5,r5,k2,e2,q5⟩=> ?_))
  subst e2
  cases r5
  exact wpAny_truthy_bool ⟨H5,I5,q5⟩
theorem zg:(sizeLine:Nat)<2^63:=by rw[sizeLine_eq];decide
theorem vals1{x:V}{us:List Value}(r:Vals [x] us):∃u,us=[u]/\RelV x u:=by
 cases r with
 |cons r1 r2=>cases r2;exact⟨_,rfl,r1⟩
theorem vals2{x y:V}{us:List Value}(r:Vals [x,y] us):∃u w',us=[u,w']/\RelV x u/\RelV y w':=by
 cases r with
 |cons r1 r2=>
  cases r2 with
  |cons r3 r4=>cases r4;exact⟨_,_,rfl,r1,r3⟩
theorem vd:qC X (.builtin "abs") (λxs H Q=> ∃i,xs=[.int i]/\Q (.int (if i<0 then-i else i)) H):=by
 intro pins s σ H xs us Q I r h
 obtain⟨i,rfl,q⟩:=h
 obtain⟨u,rfl,t,rfl⟩:=vals1 r
 exact call_abs_int λu tk=>⟨.int (if i<0 then-i else i),H,I.tok _,⟨_,rfl⟩,q⟩
theorem Gf(hc:X.calm=true):qC X (.builtin "max") (λxs H Q=> ∃i j,xs=[.int i,.int j]/\Q (.int (if j>i then j else i)) H):=by
 intro pins s σ H xs us Q I r h
 obtain⟨i,j,rfl,q⟩:=h
 obtain⟨u,w',rfl,⟨t,rfl⟩,⟨t',rfl⟩⟩:=vals2 r
 refine max_two_ints (I.ok.hd hc) λh' tk k=>⟨_,H,I.kept k,?_,q⟩
 by_cases hj:j>i
 ·rw[if_pos hj,if_pos hj];exact⟨_,rfl⟩
 ·rw[if_neg hj,if_neg hj];exact⟨_,rfl⟩
theorem Gg(hc:X.calm=true):qC X (.builtin "min") (λxs H Q=> ∃i j,xs=[.int i,.int j]/\Q (.int (if j<i then j else i)) H):=by
 intro pins s σ H xs us Q I r h
 obtain⟨i,j,rfl,q⟩:=h
 obtain⟨u,w',rfl,⟨t,rfl⟩,⟨t',rfl⟩⟩:=vals2 r
 refine min_two_ints (I.ok.hd hc) λh' tk k=>⟨_,H,I.kept k,?_,q⟩
 by_cases hj:j<i
 ·rw[if_pos hj,if_pos hj];exact⟨_,rfl⟩
 ·rw[if_neg hj,if_neg hj];exact⟨_,rfl⟩
theorem Gh:qC X (.type "int") (λxs H Q=>(∃i,xs=[.int i]/\Q (.int i) H)∨ ∃k,xs=[.bl k]/\Q (.int (if k then 1 else 0)) H):=by
 intro pins s σ H xs us Q I r h
 rcases h with⟨i,rfl,q⟩|⟨k,rfl,q⟩
 ·obtain⟨u,rfl,t,rfl⟩:=vals1 r
  exact call_int_int ⟨.int i,H,I,⟨_,rfl⟩,q⟩
 ·obtain⟨u,rfl,r1⟩:=vals1 r
  cases r1
  exact call_int_bool ⟨.int (if k then 1 else 0),H,I.tok _,⟨_,rfl⟩,q⟩
end
structure OS(h:Heap)(x dx C:Addr)(mA:Str->Option Value):Prop where
 obj:h.get? x=some (PySem.W.instObj C dx)
 ns:h.Ns1 dx mA
 ne:dx≠x
theorem Gi{h:Heap}{dx:Addr}{mA:Str->Option Value}(n:h.Ns1 dx mA):∃od,h.get? dx=some od/\ ∀name,PySem.W.lookIn name od=some (mA name):=by
 obtain⟨o,es,ep,ho,hd,hk,_,hm⟩:=n
 refine⟨o,ho,λname=> ?_⟩
 have e:=hm name
 unfold nsFind findBy at e
 rw[<-Array.find?_toList]at e
 unfold PySem.W.lookIn
 rw[hd]
 dsimp only
 split
 ·rename_i y q
  rw[q]at e
  exact congrArg some e
 ·rename_i q
  rw[q]at e
  have a:es.toList.any (·.refKey)=false:=by
   rw[List.any_eq_false]
   intro y hy
   obtain⟨z,t,hkey⟩:=hk y (Array.mem_toList_iff.mp hy)
   simp[DictEntry.refKey,hkey]
  have a':¬es.toList.any (·.refKey)=true:=by rw[a];exact Bool.false_ne_true
  rw[if_neg a']
  exact congrArg some e
theorem OS.look{h:Heap}{x dx C:Addr}{mA:Str->Option Value}(I:OS h x dx C mA):∃od,PySem.W.InstAt h x (PySem.W.instObj C dx) C (some od)/\ ∀name,PySem.W.lookIn name od=some (mA name):=
 let⟨od,ho,hl⟩:=Gi I.ns
 ⟨od,⟨I.obj,rfl,rfl,ho⟩,hl⟩
section
variable{prog:Program}{w:World}{A:Around}{E:Value->Shared->Prop}{s:Shared}{K:PySem.W.Frag}{x dx C f:Addr}{mA:Str->Option Value}{name:Str}{v:Value}
end
section
variable{P:Program}{w:World}{H H':Hp}{h h':Heap}{a C dx:Addr}{fs fs':List (Str×V)}
theorem LU(hok:uz P w H h)(e:H a=some (.ins C dx fs)):∃mA,OS h a dx C mA/\(∀f,Oz (fs.lookup f) (mA f))/\PySem.Within mA (fs.map (·.1))/\fs.length<=1000/\H dx=some (.own a):=by
 obtain⟨d,z,ne,ob,mA,n,r,q⟩:=(show f6 P w H h a (.ins C dx fs)from hok a _ e)
 exact⟨mA,⟨ob,n,ne⟩,r,q,z,d⟩
end
structure UO(K:PySem.W.Frag)(C:Addr):Prop where
 pg:PySem.W.plainGet K C Str.empty=true
 hd:PySem.W.hasDictIn K C=true
 po:PySem.W.plainOver K C=true
 sa:PySem.W.findIn K (.ref C) "__setattr__"=some (some (.builtin "object.__setattr__"))
theorem UO.get{K:PySem.W.Frag}{C:Addr}(c:UO K C)(f:Str):PySem.W.plainGet K C f=true:=c.pg
section
variable{X:Cx}{pins:List (Addr×Obj)}{σ:St}{H:Hp}{s:Shared}{a C dx:Addr}{fs:List (Str×V)}{f:Str}{v:V}{A:Around}{E:Value->Shared->Prop}
end
section
variable{X:Cx}{o e value:Expr}{f:Str}{pos pos' tpos:Pos}{ta tv:TE}
end
section
variable{X:Cx}{pins:List (Addr×Obj)}{σ:St}{H:Hp}{s:Shared}{A:Around}{E:Value->Shared->Prop}{Q:Value->Shared->Prop}{c:Value}{b:Bool}
inductive rA(K:PySem.W.Frag)(H:Hp):V->Value->Prop where
 |gK:rA K H .gK (.type "NoneType")
 |bl(x:Bool):rA K H (.bl x) (.type "bool")
 |int(i:Int):rA K H (.int i) (.type "int")
 |str(x:Str):rA K H (.str x) (.type "str")
 |QK(x:UInt64):rA K H (.QK x) (.type "float")
 |lst{a:Addr}{xs:List V}(e:H a=some (.lst xs)):rA K H (.ref a) (.type "list")
 |yY{a:Addr}{o:Obj}{xs:List V}(e:H a=some (.yY o (.lst xs))):rA K H (.ref a) (.type "list")
 |tup{a:Addr}{xs:List V}(e:H a=some (.tup xs)):rA K H (.ref a) (.type "tuple")
 |dK{a:Addr}{kvs:List (Key×V)}(e:H a=some (.dK kvs)):rA K H (.ref a) (.type "dict")
 |dT{a:Addr}{kvs:List (List Key×V)}(e:H a=some (.dT kvs)):rA K H (.ref a) (.type "dict")
 |ins{a C dx:Addr}{fs:List (Str×V)}(e:H a=some (.ins C dx fs))(cl:UO K C)(ha:PySem.W.findIn K (.ref C) "__class__"=some (some (.builtin "object.__class__")))
   (hn:PySem.W.specialIn K (.builtin "object.__class__") "__get__"=some (some (.builtin "getset_descriptor.__get__"))) (htk:PySem.W.takesIn K (.builtin "object.__class__")=some true)
   (hm:PySem.W.mroIn K C (.type "object")=some true):rA K H (.ref a) (.ref C)
theorem Gj{x:V}{u t:Value}(I:Inv X pins σ H s)(rx:RelV x u)(ty:rA X.K H x t)(e:PySem.W.kitOne X.K t c=some b)(h:∀tk,Q (.bool b) {s with toks:=tk}):
  wpAny (model X.prog X.w) A (call (.builtin "isinstance") [u,c]) Q E s:=by
 cases ty with
 |gK=>cases(show u=Value.none from rx);exact PySem.W.kia_one PySem.W.kitx_none I.x8 True.intro e (λz=>nomatch z) h
 |bl y=>cases(show u=Value.bool y from rx);exact PySem.W.kia_one PySem.W.kitx_bool I.x8 True.intro e (λz=>nomatch z) h
 |int i=>obtain⟨t,q⟩:=(show ∃t,u=Value.int i t from rx);cases q;exact PySem.W.kia_one PySem.W.kitx_int I.x8 True.intro e (λz=>nomatch z) h
 |str y=>obtain⟨t,q⟩:=(show ∃t,u=Value.str y t from rx);cases q;exact PySem.W.kia_one PySem.W.kitx_str I.x8 True.intro e (λz=>nomatch z) h
 |QK y=>obtain⟨t,q⟩:=(show ∃t,u=Value.float y t from rx);cases q;exact PySem.W.kia_one PySem.W.kitx_float I.x8 True.intro e (λz=>nomatch z) h
 | @lst a xs ea=>
  cases(show u=Value.ref a from rx)
  obtain⟨_,_,n,_,h1⟩:=(show f6 X.prog X.w H s.heap a (.lst xs)from I.hok a _ ea)
  exact PySem.W.kia_one PySem.W.kitx_list I.x8 ⟨_,h1,rfl⟩ e (λz=>nomatch z) h
 | @yY a ob xs ea=>
  cases(show u=Value.ref a from rx)
  obtain⟨_,_,_,n,_,h1⟩:=(show f6 X.prog X.w H s.heap a (.yY ob (.lst xs))from I.hok a _ ea)
  exact PySem.W.kia_one PySem.W.kitx_list I.x8 ⟨_,h1,rfl⟩ e (λz=>nomatch z) h
 | @tup a xs ea=>
  cases(show u=Value.ref a from rx)
  obtain⟨_,_,_,p⟩:=(show f6 X.prog X.w H s.heap a (.tup xs)from I.hok a _ ea)
  obtain⟨o,h1,h2,_⟩:=p
  exact PySem.W.kia_one PySem.W.kitx_tuple I.x8 ⟨o,h1,h2⟩ e (λz=>nomatch z) h
 | @dK a kvs ea=>
  cases(show u=Value.ref a from rx)
  obtain⟨_,_,vs,_,p⟩:=(show f6 X.prog X.w H s.heap a (.dK kvs)from I.hok a _ ea)
  obtain⟨o,es,ep,h1,h2,_⟩:=p
  exact PySem.W.kia_one PySem.W.kitx_dict I.x8 ⟨o,h1,h2.1⟩ e (λz=>nomatch z) h
 | @dT a kvs ea=>
  cases(show u=Value.ref a from rx)
  obtain⟨_,_,xs,_,o,es,ep,h1,h2,_⟩:=(show f6 X.prog X.w H s.heap a (.dT kvs)from I.hok a _ ea)
  exact PySem.W.kia_one PySem.W.kitx_dict I.x8 ⟨o,h1,h2.1⟩ e (λz=>nomatch z) h
 | @ins a C dx fs ea cl ha hn htk hm=>
  cases(show u=Value.ref a from rx)
  obtain⟨mA,O,_⟩:=LU I.hok ea
  obtain⟨od,J,_⟩:=O.look
  exact PySem.W.kia_one (PySem.W.kitx_own (cl.get _) cl.hd ha hn htk hm) I.x8 J e (λz=>nomatch z) h
end
structure fS(k:Nat)(A:Around):Prop where
 hd:A.handled=none
 dp:A.depth+3*k+5<recursionLimit
 un:A.units+16*k+200<cLine
theorem fS.mono{j k:Nat}{A:Around}(r:fS k A)(h:j<=k):fS j A:=⟨r.hd,by have:=r.dp;omega,by have:=r.un;omega⟩
theorem fS.deeper{k:Nat}{A:Around}(r:fS (k+1) A)(env:Env):fS k (A.deeper env):=
 ⟨r.hd,by have:=r.dp;show A.depth+1+3*k+5<_;omega,by have:=r.un;show A.units+3+16*k+200<_;omega⟩
theorem fS.in1{k:Nat}{A:Around}(r:fS (k+1) A):fS k A.in1:=
 ⟨r.hd,by have:=r.dp;show A.depth+3*k+5<_;omega,by have:=r.un;show A.units+1+16*k+200<_;omega⟩
theorem fS.depth{k:Nat}{A:Around}(r:fS k A):A.depth<recursionLimit:=by have:=r.dp;omega
theorem fS.units{k:Nat}{A:Around}(r:fS k A):A.units+64<cLine:=by have:=r.un;omega
noncomputable def j4:TA:=λ_ H Q=>Q [] H
noncomputable def dw(ta:TE)(tr:TA):TA:=λσ H Q=>ta σ H λx H1=>tr σ H1 λxs H2=>Q (x::xs) H2
section
variable{X:Cx}{e:Expr}{es:List Expr}{te:TE}{t:TA}{pos:Pos}
theorem ak:PA X [] j4:=λ_ _ _ _ H Q I h=>Calls.spliced_nil ⟨[],H,I,.nil,h⟩
theorem af(ha:PE X e te)(hr:PA X es t)(hs:starEach (e::es) X.env=(false,eval e X.env)::starEach es X.env:=by rfl):PA X (e::es) (dw te t):=by
 intro pos pins s σ H Q I h
 rw[hs]
 show wpAny _ _ (spliced ((false,eval e X.env)::backTo pos (starEach es X.env))) _ _ s
 refine Calls.spliced_cons (fZ (ha pins s σ H _ I h) λu s1 ⟨x,H1,I1,r1,q1⟩=> ?_)
 exact fZ (hr pos pins s1 σ H1 _ I1 q1) λus s2 ⟨xs,H2,I2,r2,q2⟩=>⟨x::xs,H2,I2,.cons r1 r2,q2⟩
noncomputable def RJ(t:TA):TE:=λσ H Q=>t σ H λxs H1=>xs.length<=sizeLine/\ ∀p,H1 p=none->Q (.ref p) (upd H1 p (.tup xs))
noncomputable def OT(t:TA):TE:=λσ H Q=>t σ H λxs H1=>xs.length<=sizeLine/\ ∀p,H1 p=none->Q (.ref p) (upd H1 p (.lst xs))
theorem iP{x1}(h:PA X es t):PE X (.Tuple es x1 pos) (RJ t):=by
 intro pins s σ H Q I hq
 refine wpAny_Tuple_spliced (fZ (h pos pins s σ H _ I hq) λus s1 ⟨xs,H1,I1,r,z,q⟩=>⟨by rw[<-r.length];exact z,?_⟩)
 have hf:H1 s1.heap.objs.size=none:=I1.hok.fresh (Nat.le_refl _)
 refine⟨.ref s1.heap.objs.size,upd H1 s1.heap.objs.size (.tup xs),I1.laid (t':=s1.toks) (λb u e=>Heap.get?_push_of_some _ e) (Nat.le_refl _) ?_,rfl,q _ hf⟩
 exact⟨z,us,r,⟨_,Heap.get?_push_size _ rfl,rfl,_,rfl⟩⟩
theorem dR(h:PA X es t):PE X (.List es pos) (OT t):=by
 intro pins s σ H Q I hq
 refine wpAny_List_spliced (fZ (h pos pins s σ H _ I hq) λus s1 ⟨xs,H1,I1,r,z,q⟩=>⟨by rw[<-r.length];exact z,?_⟩)
 have hf:H1 s1.heap.objs.size=none:=I1.hok.fresh (Nat.le_refl _)
 refine⟨.ref s1.heap.objs.size,upd H1 s1.heap.objs.size (.lst xs),I1.laid (t':=s1.toks) (λb u e=>Heap.get?_push_of_some _ e) (Nat.le_refl _) ?_,rfl,q _ hf⟩
 exact⟨z,us,0,r,Heap.get?_push_size _ rfl⟩
end
noncomputable abbrev Sp:=List V->Hp->VK->XK->Prop
noncomputable abbrev EN:=List Env->Hp->Shared->XK->Value->Shared->Prop
structure LV(P:Program)(w:World)(K:PySem.W.Frag)(mg:Str->Option Value)(base:Heap)(A:Around)(outer:List Env)(s:Shared)(H:Hp):Prop where
 frames:A.frames=some outer
 mod:Mod K mg base
 bs:∀b o,base.get? b=some o->s.heap.get? b=some o/\H b=none
 LL:base.objs.size<=s.heap.objs.size
 t8:s.heap.FunFrames base outer
 QM:∀b∈frs outer,H b=none
 hok:uz P w H s.heap
 bare:AllBare s.gens
noncomputable def CE(outer:List Env)(P:Program)(w:World)(H:Hp)(s:Shared)(Q:VK)(u:Value)(s':Shared):Prop:=
 ∃v H',s'.os=s.os/\Ie s.gens s'.gens/\Un (frs outer) [] H H' s.heap s'.heap/\uz P w H' s'.heap/\RelV v u/\Q v H'
noncomputable def CR(CX:EN)(outer:List Env)(P:Program)(w:World)(H:Hp)(s:Shared)(Q:VK)(E:XK)(r:Result)(s':Shared):Prop:=
 match r with
 | .ok (.ret u)=>CE outer P w H s Q u s'
 | .ok _=>False
 | .error e=>CX outer H s E e s'
structure pJ(P:Program)(w:World)(K:PySem.W.Frag)(mg:Str->Option Value)(base:Heap)(CX:EN)(k:Nat)(f:Addr)(fd:FuncData)(ps:List Str)(sp:Sp):Prop where
 len:∀vs H Q E,sp vs H Q E->vs.length=ps.length
 run:∀(A:Around)(outer:List Env)(s:Shared)(H:Hp)(args:Args)(us:List Value)(vs:List V)(Q:VK)(E:XK),fS k A->LV P w K mg base A outer s H->BindsTo s fd args (ps.zip us) ->Vals vs us->sp vs H Q E->
  codeAny (model P w) A (.call (.ref f) args) (CR CX outer P w H s Q E) s
theorem pJ.mono{P:Program}{w:World}{K:PySem.W.Frag}{mg:Str->Option Value}{base:Heap}{CX:EN}{j k:Nat}{f:Addr}{fd:FuncData}{ps:List Str}{sp:Sp}(F:pJ P w K mg base CX j f fd ps sp)(h:j<=k):
  pJ P w K mg base CX k f fd ps sp:=⟨F.len,λA outer s H args us vs Q E hr=>F.run A outer s H args us vs Q E (hr.mono h)⟩
section
variable{X:Cx}{pins:List (Addr×Obj)}{σ:St}{H:Hp}{s s':Shared}
theorem Inv.UP(I:Inv X pins σ H s):LV X.prog X.w X.K X.mg X.base X.A X.stack s H:=
 ⟨I.ok.frames,I.ok.mod,I.bs,Nat.le_trans I.ok.LL I.sz,I.stack,I.uA,I.hok,I.bare.bare⟩
theorem Inv.after{Q:VK}{u:Value}(I:Inv X pins σ H s)(h:CE X.stack X.prog X.w H s Q u s'):EP X pins σ Q u s':=by
 obtain⟨v,H',os,bare,un,hok,r,q⟩:=h
 obtain⟨hh,g,d,t,os'⟩:=s'
 obtain rfl:os'=s.os:=os
 exact⟨v,H',I.call (h':=hh) (g':=g) (d':=d) (t':=t) (ch:=[]) un hok bare (λb z=>absurd z (by simp)),r,q⟩
end
noncomputable def j5(sp:Sp)(Lv:List V)(E:XK)(t:TA):TE:=λσ H Q=>t σ H λvs H1=>sp (vs++Lv) H1 Q E
noncomputable def Binds(K:PySem.W.Frag)(fd:FuncData)(ps:List Str)(ds:List Value):Prop:=
 ∀(s:Shared)(us:List Value),K.In s.heap->(us++ds).length=ps.length->BindsTo s fd ⟨us,[]⟩ (ps.zip (us++ds))
theorem Binds.all{K:PySem.W.Frag}{fd:FuncData}{ps:List Str}(h:∀us:List Value,us.length=ps.length->bindArgs fd ⟨us,[]⟩=pure (ps.zip us)):Binds K fd ps []:=λs us _ hl=>by
 rw[List.append_nil]at hl ⊢
 exact .of_eq (h us hl)
noncomputable def Passes(CX:EN)(X:Cx)(E:XK):Prop:=∀(pins:List (Addr×Obj))(σ:St)(H:Hp)(s:Shared)(e:Value)(s':Shared),Inv X pins σ H s->CX X.stack H s E e s'->X.xe e s'
section
variable{X:Cx}{CX:EN}{k:Nat}{f C:Addr}{fd:FuncData}{ps:List Str}{sp:Sp}{Lv:List V}{ds:List Value}{E:XK}{x m:Str}{p pos apos:Pos}{e o:Expr}{es:List Expr}{ta:TE}{t:TA}
theorem IA{pins:List (Addr×Obj)}{σ:St}{H:Hp}{s:Shared}{Q:VK}{us:List Value}{vs:List V}(F:pJ X.prog X.w X.K X.mg X.base CX k f fd ps sp)(hr:fS k X.A)(hb:Binds X.K fd ps ds)(hd:Vals Lv ds)(hx:Passes CX X E)
  (I:Inv X pins σ H s)(r:Vals vs us)(h:sp (vs++Lv) H Q E):wpAny (model X.prog X.w) X.A (call (.ref f) us) (EP X pins σ Q) X.xe s:=by
 have r2:Vals (vs++Lv) (us++ds):=r.append hd
 have hl:(us++ds).length=ps.length:=by rw[<-r2.length];exact F.len _ _ _ _ h
 refine wpAny_call (codeAny_mono (F.run X.A X.stack s H ⟨us,[]⟩ (us++ds) (vs++Lv) Q E hr I.UP (hb s us I.x8 hl) r2 h) λr s' hq=> ?_)
 cases r with
 |error e=>exact hx pins σ H s e s' I hq
 |ok fl=>
  cases fl with
  |ret u=>exact I.after hq
  |next=>exact False.elim hq
  |brk=>exact False.elim hq
  |cont=>exact False.elim hq
theorem LW(F:pJ X.prog X.w X.K X.mg X.base CX k f fd ps sp)(hr:fS k X.A)(hg:Gl X x)(hm:X.mg x=some (.ref f))(hk:PySem.W.keepIn X.K (.ref f)=true)(hb:Binds X.K fd ps ds)(hd:Vals Lv ds)(hx:Passes CX X E)
  (ha:PA X (e::es) t)(hdb:(x==("__debug__":Str))=false:=by decide)(he:starEach (e::es) X.env=(false,eval e X.env)::starEach es X.env:=by rfl)(hpl:(backTo pos (starEach es X.env)).any (·.1)=false:=by rfl):
  PE X (.Call (.Name x p) (e::es) [] pos) (j5 sp Lv E t):=by
 intro pins s σ H Q I h
 refine wpAny_Call_Name_kw (y9 I hg hm ?_ hdb)
 refine PySem.W.callWith_K (h₀:=X.base) I.ok.mod.LK hk (fZ (ha pos pins s σ H _ I h) λus s1 ⟨vs,H1,I1,r,q⟩=>⟨I1.x8,?_⟩) he hpl
 exact IA F hr hb hd hx I1 r q
theorem ID(F:pJ X.prog X.w X.K X.mg X.base CX k f fd ps sp)(hr:fS k X.A)(hg:Gl X x)(hm:X.mg x=some (.ref f))(hk:PySem.W.keepIn X.K (.ref f)=true)(hb:Binds X.K fd ps ds)(hd:Vals Lv ds)(hx:Passes CX X E)
  (hdb:(x==("__debug__":Str))=false:=by decide):PE X (.Call (.Name x p) [] [] pos) (j5 sp Lv E j4):=by
 intro pins s σ H Q I h
 refine wpAny_Call_Name_kw (y9 I hg hm ?_ hdb)
 exact PySem.W.callWith_K0 I.x8 hk (IA (us:=[]) F hr hb hd hx I .nil h)
end
section
variable{X:Cx}{CX:EN}{k:Nat}{f C:Addr}{fd:FuncData}{ps ks:List Str}{sp:Sp}{E:XK}{x m:Str}{p pos apos kpos:Pos}{e o:Expr}{es:List Expr}{kws:List Keyword}{te ta:TE}{t tk:TA}{nm:Option Str}
variable{g:List Value->List Value->List Value}{gV:List V->List V->List V}
end
structure aR(N P:List Str)(sc:Scope):Prop where
 kind:sc.kind= .function
 co:sc.isCoroutine=false
 gen:sc.isGenerator=false
 nd:N.Nodup
 pre:N.take P.length=P
 par:∀x∈P,sc.names.lookup x=some .local∨sc.names.lookup x=some .cell
 OU:∀y∈sc.names,y.2≠ .free
theorem ye{kindOf:Str->Option NameKind}{x:Str}:∀{binds:List (Str×Value)}{m:Str->Option Value},(∀v,(x,v)∉binds) ->bindL kindOf binds m x=m x
 | [],_,_=>rfl
 |(n,v)::r,m,h=>by
  unfold bindL
  rw[ye λw hw=>h w (List.mem_cons_of_mem _ hw)]
  split
  ·have:x≠n:=by rintro rfl;exact h v List.mem_cons_self
   simp[this]
  ·rfl
theorem yf{kindOf:Str->Option NameKind}{x:Str}:∀{binds:List (Str×Value)}{m:Str->Option Value},(∀v,(x,v)∉binds) ->bindC kindOf binds m x=m x
 | [],_,_=>rfl
 |(n,v)::r,m,h=>by
  unfold bindC
  rw[yf λw hw=>h w (List.mem_cons_of_mem _ hw)]
  split
  ·rfl
  ·have:x≠n:=by rintro rfl;exact h v List.mem_cons_self
   simp[this]
theorem yg{kindOf:Str->Option NameKind}{x:Str}{v:Value}:∀{P:List Str}{vs:List Value}{i:Nat}{m:Str->Option Value},P.Nodup->P[i]?=some x->vs[i]?=some v->kindOf x=some .local->
  bindL kindOf (P.zip vs) m x=some v
 | [],_,_,_,_,h,_,_=>by simp at h
 |_::_,[],_,_,_,_,h,_=>by simp at h
 |p::P,w::vs,0,m,nd,h1,h2,hk=>by
  simp at h1 h2;subst h1;subst h2
  show bindL kindOf ((p,w)::P.zip vs) m p=_
  unfold bindL
  rw[ye λv hv=>(List.nodup_cons.mp nd).1 (List.of_mem_zip hv).1,if_pos hk]
  simp
 |p::P,w::vs,i+1,m,nd,h1,h2,hk=>by
  show bindL kindOf ((p,w)::P.zip vs) m x=_
  unfold bindL
  exact yg (i:=i) (List.nodup_cons.mp nd).2 (by simpa using h1) (by simpa using h2) hk
theorem yh{kindOf:Str->Option NameKind}{x:Str}{v:Value}:∀{P:List Str}{vs:List Value}{i:Nat}{m:Str->Option Value},P.Nodup->P[i]?=some x->vs[i]?=some v->kindOf x≠some .local->
  bindC kindOf (P.zip vs) m x=some v
 | [],_,_,_,_,h,_,_=>by simp at h
 |_::_,[],_,_,_,_,h,_=>by simp at h
 |p::P,w::vs,0,m,nd,h1,h2,hk=>by
  simp at h1 h2;subst h1;subst h2
  show bindC kindOf ((p,w)::P.zip vs) m p=_
  unfold bindC
  rw[yf λv hv=>(List.nodup_cons.mp nd).1 (List.of_mem_zip hv).1,if_neg hk]
  simp
 |p::P,w::vs,i+1,m,nd,h1,h2,hk=>by
  show bindC kindOf ((p,w)::P.zip vs) m x=_
  unfold bindC
  exact yh (i:=i) (List.nodup_cons.mp nd).2 (by simpa using h1) (by simpa using h2) hk
noncomputable def start(N:List Str)(vs:List V):St:=vs.map some++List.replicate (N.length-vs.length) none
noncomputable def zh(CX:EN)(P:Program)(w:World)(K:PySem.W.Frag)(mg:Str->Option Value)(base:Heap)(N:List Str)(qual:Str)(scope:Scope)(f:Addr)(cd:Value)(A:Around)(outer:List Env)(s:Shared)(H:Hp)(E:XK):Cx where
 prog:=P
 w:=w
 K:=K
 mg:=mg
 base:=base
 A:=A.deeper (envOfC qual scope s.heap.objs.size f cd)
 N:=N
 s₀:=s
 H₀:=H
 env:=envOfC qual scope s.heap.objs.size f cd
 outer:=outer
 stack:=envOfC qual scope s.heap.objs.size f cd::outer
 ex:=[]
 calm:=true
 fn:=λ_=>true
 pn:=[]
 xe:=λe s'=>wpAny (model P w) (A.deeper (envOfC qual scope s.heap.objs.size f cd)) (leaving (envOfC qual scope s.heap.objs.size f cd) e) (λ_ s''=>CX outer H s E e s'') (λe' s''=>CX outer H s E e' s'') s'
theorem AO{sc:Scope}{n:Nat}{x:Str}(h:sc.names.lookup x=some .cell):∃c,(cellsFrom n sc.names []).lookup x=some c:=by
 have q:=PySem.W.cellsFrom_some sc.names n [] (.inl h)
 exact Option.isSome_iff_exists.mp q
theorem Gk{CX:EN}{P:Program}{w:World}{K:PySem.W.Frag}{mg:Str->Option Value}{base:Heap}{N ps:List Str}{qual:Str}{scope:Scope}{f:Addr}{cd:Value}{A:Around}{outer:List Env}{s s1:Shared}{H:Hp}{E:XK}{us:List Value}{vs:List V}
  (S:aR N ps scope)(hd:A.handled=none)(e0:LV P w K mg base A outer s H)(hl:vs.length=ps.length)(r:Vals vs us)
  (x:InCallC s s.heap.objs.size (bindL (envOfC qual scope s.heap.objs.size f cd).kindOf (ps.zip us) λ_=>none) (cellsFrom (s.heap.objs.size+1) scope.names []) (bindC (envOfC qual scope s.heap.objs.size f cd).kindOf (ps.zip us) λ_=>none) s1):
  Inv (zh CX P w K mg base N qual scope f cd A outer s H E) [] (start N vs) H s1:=by
 have hpl:ps.length<=N.length:=by have:=congrArg List.length S.pre;rw[List.length_take]at this;omega
 obtain⟨h1,tk,rfl,hk⟩:=x.done
 have UQ:∀b:Addr,b∉(zh CX P w K mg base N qual scope f cd A outer s H E).ex:=λb z=>absurd (show b∈([]:List Addr)from z) (by simp)
 refine⟨⟨e0.mod,S.kind,rfl,rfl,Nat.le_refl _,λy z c h1 h2=> ?_,λy hy=> ?_,λy c _ h=> ?_,λ_=>hd,Around.frames_deeper e0.frames,.inr ⟨rfl,rfl⟩,λb z=>absurd z (UQ b),e0.bs,e0.LL,λb _ _=>UQ b,λb z=>absurd z (UQ b),e0.t8,e0.QM⟩,
  rfl,.refl e0.bare,Un.kept hk,⟨_,x.toInCall.ns,λi y v h1 h2 h3=> ?_⟩,λy c h=>⟨_,x.cell y c h⟩,e0.hok.fresh (Nat.le_refl _),λy c h=> ?_,λp hp=>absurd (show p∈([]:List (Addr×Obj))from hp) (by simp),e0.hok.kept hk,?_⟩
 ·exact name_of_addr x.apart (PySem.mem_of_lookup h1) (PySem.mem_of_lookup h2)
 ·have hy:scope.names.lookup y=some .cell∨scope.names.lookup y=some .free:=hy
  rcases hy with hy|hy
  ·exact AO hy
  ·exact absurd rfl (S.OU _ (PySem.mem_of_lookup hy))
 ·exact Nat.le_of_lt (x.above y c (PySem.mem_of_lookup h))
 ·have hi:i<vs.length:=by
   unfold start at h2
   by_cases hi:i<vs.length
   ·exact hi
   ·rw[List.getElem?_append_right (by simpa using hi)]at h2
    rw[List.getElem?_replicate]at h2
    split at h2<;>cases h2
  have ha:vs[i]?=some v:=by
   unfold start at h2
   rw[List.getElem?_append_left (by simpa using hi),List.getElem?_map]at h2
   cases e:vs[i]? with
   |none=>rw[e]at h2;cases h2
   |some a=>rw[e]at h2;cases h2;rfl
  obtain⟨u,hu,rv⟩:=r.get ha
  have hp:ps[i]?=some y:=by
   rw[<-S.pre,List.getElem?_take_of_lt (by omega)];exact h1
  have WJ:ps.Nodup:=by rw[<-S.pre];exact S.nd.sublist (List.take_sublist _ _)
  refine⟨u,rv,?_⟩
  rcases S.par y (List.mem_of_getElem? hp)with k|k
  ·exact .inl ⟨k,yg WJ hp hu k⟩
  ·obtain⟨c,e⟩:=AO (n:=s.heap.objs.size+1) k
   refine .inr ⟨.inl k,c,e,?_⟩
   have q:=x.cell y c e
   rw[yh WJ hp hu (by show scope.names.lookup y≠_;rw[k];decide)]at q
   exact q
 ·exact e0.hok.fresh (Nat.le_of_lt (x.above y c (PySem.mem_of_lookup h)))
 ·unfold start
  show _=N.length
  rw[List.length_append,List.length_map,List.length_replicate]
  omega
theorem NK{CX:EN}{P:Program}{w:World}{K:PySem.W.Frag}{mg:Str->Option Value}{base:Heap}{k:Nat}{f:Addr}{name qual:Str}{params:Arguments}{body:List Stmt}{scope:Scope}{dV kV doc pm cdv ct oc:Value}{an od:Option Addr}
  {osl:Array (Option Value)}{N ps:List Str}{sp:Sp}(lk:K.lookup f=some ⟨oc,od,.func (PySem.W.fnOf name qual params body scope dV kV doc pm an cdv ct),osl⟩)(hcd:PySem.W.codeIn K cdv qual=true)(S:aR N ps scope)
  (len:∀vs H Q E,sp vs H Q E->vs.length=ps.length)
  (hbody:∀(A:Around)(outer:List Env)(s:Shared)(H:Hp)(vs:List V)(Q:VK)(E:XK),fS k (A.deeper (envOfC qual scope s.heap.objs.size f cdv)) ->sp vs H Q E->
   ∃t,yZ (zh CX P w K mg base N qual scope f cdv A outer s H E) body t/\t {nx:=λ_ H'=>Q .gK H',rt:=Q} (start N vs) H):
  pJ P w K mg base CX (k+1) f (PySem.W.fnOf name qual params body scope dV kV doc pm an cdv ct) ps sp:=by
 refine⟨len,λA outer s H args us vs Q E hr e0 hb r Lw=> ?_⟩
 have hl:=len _ _ _ _ Lw
 have KX:K.In s.heap:=e0.mod.LK.keeps λb o e=>(e0.bs b o e).1
 have lim:s.heap.NoLimit:=e0.mod.nolimit.keeps λb o e=>(e0.bs b o e).1
 have hkind:∀y∈ps.zip us,scope.names.lookup y.1=some .local∨(scope.names.lookup y.1=some .cell/\((cellsFrom (s.heap.objs.size+1) scope.names []).lookup y.1).isSome=true):=λ ⟨n,v⟩ hy=>by
  rcases S.par n (List.of_mem_zip hy).1 with q|q
  ·exact .inl q
  ·exact .inr ⟨q,PySem.W.cellsFrom_some _ _ _ (.inl q)⟩
 refine codeAny_call_function hr.depth (KX _ _ lk) rfl S.co S.gen rfl (PySem.W.codeRec_of KX hcd) (hb _ _ _ _ ?_)
 refine wpAny_newFunctionEnv_cells S.kind hkind λenv he s1 x=> ?_
 subst he
 refine⟨lim.keeps x.toInCall.keep,codeAny_func ?_⟩
 obtain⟨t,ht,hq⟩:=hbody A outer s H vs Q E (hr.deeper _) Lw
 have I:Inv (zh CX P w K mg base N qual scope f cdv A outer s H E) [] (start N vs) H s1:=Gk S hr.hd e0 hl r x
 refine wpAny_mono (ht [] s1 (start N vs) H _ I hq) (λfl s' hs=> ?_) λe s' hs=>hs
 have fin:∀{σ':St}{H':Hp}{v:V}{u:Value},Inv (zh CX P w K mg base N qual scope f cdv A outer s H E) [] σ' H' s'->RelV v u->Q v H'->CE outer P w H s Q u s':=
  λ {σ' H' v u} J rv q=>⟨v,H',J.os,J.bare,J.base,J.hok,rv,q⟩
 cases fl with
 |ret u=>
  obtain⟨v,σ',H',J,rv,q⟩:=hs
  exact fin J rv q
 |next=>
  obtain⟨σ',H',J,q⟩:=hs
  exact fin (v:=V.gK) (u:=Value.none) J rfl q
 |brk=>
  obtain⟨_,_,_,q⟩:=hs
  exact False.elim q
 |cont=>
  obtain⟨_,_,_,q⟩:=hs
  exact False.elim q
section
variable{X:Cx}{x:Str}{p pos:Pos}{e:Expr}{es:List Expr}{t:TA}{id T:String}{r:List V->Hp->VK->Prop}
noncomputable def WK(r:List V->Hp->VK->Prop)(t:TA):TE:=λσ H Q=>t σ H λvs H1=>r vs H1 Q
theorem eG(hc:qC X (.builtin id) r)(hg:Gl X x)(hm:X.mg x=none)(hv:bootBuiltins x=some (.builtin id))(ha:PA X (e::es) t)(hn:x≠ "__name__":=by decide)(hdb:(x==("__debug__":Str))=false:=by decide)
  (he:starEach (e::es) X.env=(false,eval e X.env)::starEach es X.env:=by rfl)(hpl:(backTo pos (starEach es X.env)).any (·.1)=false:=by rfl):PE X (.Call (.Name x p) (e::es) [] pos) (WK r t):=by
 intro pins s σ H Q I h
 refine wpAny_Call_Name_kw (mh I hg hm hv ?_ hn hdb)
 exact PyProof.Rows.callWith_builtin1 (fZ (ha pos pins s σ H _ I h) λus s1 ⟨vs,H1,I1,r1,q1⟩=>hc pins s1 σ H1 vs us Q I1 r1 q1) he hpl
theorem Gm(hc:qC X (.type T) r)(hg:Gl X x)(hm:X.mg x=none)(hv:bootBuiltins x=some (.type T))(ha:PA X (e::es) t)(hn:x≠ "__name__":=by decide)(hdb:(x==("__debug__":Str))=false:=by decide)
  (he:starEach (e::es) X.env=(false,eval e X.env)::starEach es X.env:=by rfl)(hpl:(backTo pos (starEach es X.env)).any (·.1)=false:=by rfl):PE X (.Call (.Name x p) (e::es) [] pos) (WK r t):=by
 intro pins s σ H Q I h
 refine wpAny_Call_Name_kw (mh I hg hm hv ?_ hn hdb)
 exact PyProof.Rows.callWith_type1 (fZ (ha pos pins s σ H _ I h) λus s1 ⟨vs,H1,I1,r1,q1⟩=>hc pins s1 σ H1 vs us Q I1 r1 q1) he hpl
end
end L2
namespace HT
open PySem PyProof.Rows
noncomputable def lexLt:List Int->List Int->Bool
 | [],[]=>false
 | [],_::_=>true
 |_::_,[]=>false
 |x::xs,y::ys=>if x=y then lexLt xs ys else decide (x<y)
theorem mq(x y:Int)(xs ys:List Int):lexLt (x::xs) (y::ys)=if x=y then lexLt xs ys else decide (x<y):=rfl
theorem pD:lexLt [] []=false:=rfl
theorem ve(y:Int)(ys:List Int):lexLt [] (y::ys)=true:=rfl
theorem vf(x:Int)(xs:List Int):lexLt (x::xs) []=false:=rfl
theorem IE(A:Around)(s:Shared)(a:Int)(t:Tok)(c:Int)(u:Tok):∃e,SeqAt.EqAt A s (.int a t) (.int c u) e/\(e=true↔a=c):=
 ⟨(a==c),SeqAt.EqAt.int_int a t c u,by simp⟩
theorem IF(A:Around)(s:Shared)(a:Int)(t:Tok)(c:Int)(u:Tok)(prog:Program)(w:World)(E:Value->Shared->Prop)(Q:Value->Shared->Prop)(h:Q (.bool (decide (a<c))) s):
  wpAny (model prog w) A (richCompare .Lt (.int a t) (.int c u)) Q E s:=
 (PyProof.Rows.lt_int h:wpAny (model prog w) A (compareOp .Lt (.int a t) (.int c u)) Q E s)
section
open PySem.SeqAt
open PySem.AutoSeq1 (wpAny_loadPart')
open PySem.MeetsSeq PySem.MeetsSeq2 PySem.MeetsSeq3
theorem w9(l b:Addr)(items items2:Array Value)(n n2:Nat)(dd dd2:Option Addr)(sl sl2:Array (Option Value))(ns ms:List Int)(hi:IntsAre items.toList ns)(hj:IntsAre items2.toList ms):
  Meets (Builtin.«tuple.__lt__» ⟨[.ref l,.ref b],[]⟩)
   (λ_ R s=>s.heap.get? l=some {cls:= .type "tuple",dict:=dd,data:= .seq items n,slots:=sl}/\s.heap.get? b=some {cls:= .type "tuple",dict:=dd2,data:= .seq items2 n2,slots:=sl2}/\
    R (.ok (.ret (.bool (lexLt ns ms)))) s):=
 .of_wp λprog w A R s h=>by
  obtain⟨hp,g,d,tk,os⟩:=s;obtain⟨hl,hb,h⟩:=h
  have f2:=AutoSeq1.sub_tuple_tuple
  have z1:items.size=ns.length:=by rw[<-hi.length];simp
  have z2:items2.size=ms.length:=by rw[<-hj.length];simp
  wp_walk using wpAny_loadPart' hl,wpAny_loadPart' hb,wpAny_forIn_list _ (λrest b s'=>b.1=none/\s'=⟨hp,g,d,tk,os⟩/\ ∃(vs ws:List Value)(ns' ms':List Int),rest=vs.zip ws/\
   IntsAre vs ns'/\IntsAre ws ms'/\ns'.length+items2.size=ms'.length+items.size/\R (.ok (.ret (.bool (lexLt ns' ms')))) ⟨hp,g,d,tk,os⟩) _
  case turn=>
   rintro⟨y,x⟩ rest b s' ⟨hb',rfl,vs,ws,ns',ms',hz,UR,hwi,hlen,hR⟩
   cases UR with
   |nil=>rw[List.zip_nil_left]at hz;cases hz
   |cons a t US=>
    cases hwi with
    |nil=>rw[List.zip_nil_right]at hz;cases hz
    |cons c u UT=>
     rw[List.zip_cons_cons]at hz
     injection hz with hyx hrest
     injection hyx with hy hx
     subst hy hx
     rw[mq]at hR
     simp only[List.length_cons]at hlen
     obtain⟨e,he,hiff⟩:=IE A.in1 ⟨hp,g,d,tk,os⟩ a t c u
     refine wpAny_bind (he prog w _ _ ?_)
     cases e with
     |true=>
      rw[if_pos (hiff.mp rfl)]at hR
      wp_walk
      exact⟨rfl,rfl,_,_,_,_,hrest,US,UT,by omega,hR⟩
     |false=>
      rw[if_neg (λq=>absurd (hiff.mpr q) Bool.false_ne_true)]at hR
      have Yn:=IF A.in1 ⟨hp,g,d,tk,os⟩ a t c u prog w
      wp_walk using Yn
      exact⟨_,rfl,by simpa using hR⟩
  case fin=>
   rintro⟨b1,b2⟩ s' ⟨hb',rfl,vs,ws,ns',ms',hz,UR,hwi,hlen,hR⟩
   simp only at hb'
   subst hb'
   have hv:lexLt ns' ms'=decide (items.size<items2.size):=by
    cases UR with
    |nil=>
     cases hwi with
     |nil=>
      simp only[List.length_nil]at hlen
      rw[pD]
      exact(decide_eq_false (by omega)).symm
     |cons c u hw=>
      simp only[List.length_nil,List.length_cons]at hlen
      rw[ve]
      exact(decide_eq_true (by omega)).symm
    |cons a t hv=>
     cases hwi with
     |nil=>
      simp only[List.length_nil,List.length_cons]at hlen
      rw[vf]
      exact(decide_eq_false (by omega)).symm
     |cons c u hw=>
      rw[List.zip_cons_cons]at hz
      cases hz
   rw[hv]at hR
   wp_walk
   exact⟨_,rfl,by simpa [Builtin.Tuple.tupleCompareSizes]using hR⟩
  case h=>
   exact⟨rfl,rfl,items.toList,items2.toList,ns,ms,rfl,hi,hj,by omega,h⟩
end
section
variable{prog:Program}{w:World}{A:Around}{E:Value->Shared->Prop}{s:Shared}
theorem CM{l b:Addr}{items items2:Array Value}{ns ms:List Int}{Q:Value->Shared->Prop}(hl:IsTup s.heap l items)(hb:IsTup s.heap b items2)(hi:IntsAre items.toList ns)(hj:IntsAre items2.toList ms)
  (hu:A.units<cLine)(h:Q (.bool (lexLt ns ms)) s):wpAny (model prog w) A (compareOp .Lt (.ref l) (.ref b)) Q E s:=by
 obtain⟨⟨cls,dd,data,sl⟩,ho,hc,n,hd⟩:=id hl
 obtain⟨⟨RK,dd2,data2,sl2⟩,ho2,hc2,n2,hd2⟩:=id hb
 simp only at hc hd hc2 hd2
 subst hc hd hc2 hd2
 exact richCompare_meets_room (op:= .Lt) ⟨_,ho,rfl⟩ ⟨_,ho2,rfl⟩ PySem.F.slot_tuple_lt PySem.F.entry_tuple_lt (PySem.F.args_tuple_lt_2 _ _) (w9 l b items items2 n n2 dd dd2 sl sl2 ns ms hi hj)
  ⟨ho,ho2,show Value.bool (lexLt ns ms)≠Value.notImplemented/\Q (.bool (lexLt ns ms)) s from⟨(λx=>nomatch x),h⟩⟩ hu
noncomputable def zj(n d:Nat):Option Int->Nat
 |none=>d
 |some v=>if v<0 then(v+(n:Int)).toNat else min v.toNat n
end
end HT
namespace L2
open PySem PySem.Spec PyProof.Rows
noncomputable abbrev TO:=St->Hp->(Option Int->Hp->Prop) ->Prop
noncomputable def PO(X:Cx)(e:Option Expr)(t:TO):Prop:=
 ∀(pins:List (Addr×Obj))(s:Shared)(σ:St)(H:Hp)(Q:Option Int->Hp->Prop),Inv X pins σ H s->t σ H Q->
  wpAny (model X.prog X.w) X.A (evalPart e X.env) (λu s'=> ∃o H',Inv X pins σ H' s'/\IsPart u o/\Q o H') X.xe s
noncomputable def LX:TO:=λ_ H Q=>Q none H
noncomputable def RL(t:TE):TO:=λσ H Q=>t σ H λx H1=> ∃i,x= .int i/\Q (some i) H1
theorem intsAre_of{ns:List Int}:∀{us:List Value},Vals (ns.map V.int) us->IntsAre us ns:=by
 induction ns with
 |nil=>intro us r;rw[List.map_nil]at r;cases r;exact .nil
 |cons n ns ih=>
  intro us r
  rw[List.map_cons]at r
  cases r with
  |cons r1 r2=>
   obtain⟨t,e⟩:=r1
   subst e
   exact .cons n t (ih r2)
section
variable{X:Cx}{e:Expr}{te:TE}{lo hi:Option Expr}{tl th:TO}{pos p2:Pos}
theorem zk:PO X none LX:=by
 intro pins s σ H Q I h
 rw[evalPart_none]
 exact wpAny_pure ⟨none,H,I,.none,h⟩
theorem zm(h:PE X e te):PO X (some e) (RL te):=by
 intro pins s σ H Q I hw
 rw[evalPart_some]
 refine fZ (h pins s σ H _ I hw) λu s1 ⟨x,H1,I1,r1,q1⟩=> ?_
 obtain⟨i,rfl,q⟩:=q1
 obtain⟨t,rfl⟩:=r1
 exact⟨some i,H1,I1,.int i t,q⟩
noncomputable def WL(X:Cx)(r:V->Option Int->Option Int->Hp->VK->Prop):Prop:=
 ∀(pins:List (Addr×Obj))(s:Shared)(σ:St)(H:Hp)(x:V)(v vl vu:Value)(lo hi:Option Int)(sl:Addr)(Q:VK),Inv X pins σ H s->RelV x v->s.heap.IsSliceOf sl vl vu .none->IsPart vl lo->IsPart vu hi->r x lo hi H Q->
  ∃T id,typeLookup (.type T) "__getitem__"=pure (some (.builtin id))/\s.TypeIs v T/\wpAny (model X.prog X.w) X.A (getItem v (.ref sl)) (EP X pins σ Q) X.xe s
noncomputable def Yo(r:V->Option Int->Option Int->Hp->VK->Prop)(te:TE)(tl th:TO):TE:=λσ H Q=>te σ H λx H1=>tl σ H1 λl H2=>th σ H2 λu H3=>r x l u H3 Q
theorem vg{r:V->Option Int->Option Int->Hp->VK->Prop}(hr:WL X r)(he:PE X e te)(hl:PO X lo tl)(hu:PO X hi th):PE X (.Subscript e (.Slice lo hi none p2) pos) (Yo r te tl th):=by
 intro pins s σ H Q I h
 refine Subscript_ (fZ (he pins s σ H _ I h) λv s1 ⟨x,H1,I1,r1,q1⟩=> ?_)
 refine wpAny_Slice (fZ (hl pins s1 σ H1 _ I1 q1) λvl s2 ⟨l,H2,I2,pl,q2⟩=>fZ (hu pins s2 σ H2 _ I2 q2) λvu s3 ⟨u,H3,I3,pu,q3⟩=> ?_)
 rw[evalPart_none]
 refine wpAny_pure ?_
 have I4:Inv X pins σ H3 {s3 with heap:=s3.heap.push {cls:= .type "slice",data:= .fields #[vl,vu,.none]}}:=I3.kept (t':=s3.toks) λb ob q=>Heap.get?_push_of_some _ q
 obtain⟨T,id,hT,ht,hg⟩:=hr pins {s3 with heap:=s3.heap.push {cls:= .type "slice",data:= .fields #[vl,vu,.none]}} σ H3 x v vl vu l u s3.heap.objs.size Q I4 r1 (Heap.IsSliceOf.new ..) pl pu q3
 show wpAny (model X.prog X.w) X.A (subscriptTail e (.Slice lo hi none p2) v (.ref s3.heap.objs.size)) (EP X pins σ Q) X.xe {s3 with heap:=s3.heap.push {cls:= .type "slice",data:= .fields #[vl,vu,.none]}}
 exact tail_any (ops:=[.ref s3.heap.objs.size,v]) ht hT hg (by with_unfolding_all rfl)
noncomputable def vh(xs:List V)(lo hi:Option Int):List V:=(xs.drop (HT.zj xs.length 0 lo)).take (HT.zj xs.length xs.length hi-HT.zj xs.length 0 lo)
theorem AQ(xs:List V)(lo hi:Option Int):(vh xs lo hi).length<=xs.length:=by
 unfold vh
 rw[List.length_take,List.length_drop]
 omega
noncomputable def UU(K:PySem.W.Frag):R2:=λx y H Q=> ∃a b ns ms,x= .ref a/\y= .ref b/\pI K H a (ns.map V.int)/\pI K H b (ms.map V.int)/\Q (.bl (HT.lexLt ns ms)) H
theorem OV(hu:X.A.units<cLine):qz X (compareOp .Lt) (UU X.K):=by
 intro pins s σ H x y v u Q I rx ry h
 obtain⟨a,b,ns,ms,rfl,rfl,ha,hb,q⟩:=h
 cases rx
 cases ry
 obtain⟨its,r1,p1,_⟩:=I.tuple ha
 obtain⟨its2,r2,p2,_⟩:=I.tuple hb
 have i1:IntsAre its.toArray.toList ns:=intsAre_of r1
 have i2:IntsAre its2.toArray.toList ms:=intsAre_of r2
 exact HT.CM p1 p2 i1 i2 hu ⟨.bl (HT.lexLt ns ms),H,I,rfl,q⟩
end
noncomputable def NL(n:Nat)(i:Int):Option Nat:=if 0<=i then(if i<n then some i.toNat else none)else if-(n:Int)<=i then some (i+n).toNat else none
noncomputable def zo{α:Type}(xs:List α)(i:Int):Option α:=(NL xs.length i).bind λj=>xs[j]?
theorem EO{n:Nat}{i:Int}{j:Nat}(h:NL n i=some j):seqIndex? i n=some j/\j<n/\ -(n:Int)<=i/\i<n:=by
 unfold NL at h
 by_cases h0:0<=i
 ·rw[if_pos h0]at h
  by_cases h1:i<n
  ·rw[if_pos h1]at h
   have e:i.toNat=j:=Option.some.inj h
   exact⟨by rw[seqIndex_of h0 h1,e],by omega,by omega,h1⟩
  ·rw[if_neg h1]at h;cases h
 ·rw[if_neg h0]at h
  by_cases h1: -(n:Int)<=i
  ·rw[if_pos h1]at h
   have e:(i+n).toNat=j:=Option.some.inj h
   exact⟨by rw[seqIndex_neg (by omega) h1,e],by omega,h1,by omega⟩
  ·rw[if_neg h1]at h;cases h
theorem ER{α:Type}{xs:List α}{i:Int}{v:α}(h:zo xs i=some v):∃j,seqIndex? i xs.length=some j/\xs[j]?=some v/\j<xs.length/\ -(xs.length:Int)<=i/\i<xs.length:=by
 unfold zo at h
 cases e:NL xs.length i with
 |none=>rw[e]at h;cases h
 |some j=>
  rw[e]at h
  obtain⟨h1,h2,h3,h4⟩:=EO e
  exact⟨j,h1,h,h2,h3,h4⟩
theorem ES{α:Type}{xs:List α}{j:Nat}{v:α}(h:xs[j]?=some v):zo xs (j:Int)=some v:=by
 have hj:j<xs.length:=(List.getElem?_eq_some_iff.mp h).1
 have e:NL xs.length (j:Int)=some j:=by
  unfold NL
  rw[if_pos (by omega),if_pos (by omega)];simp
 unfold zo;rw[e];exact h
noncomputable def LY(b:Expr):Prop:=∀o i,subscripted b false o i=operate [o,i] (getItem o i)
noncomputable def UW(X:Cx)(r:R2):Prop:=
 ∀(value slice:Expr)(pins:List (Addr×Obj))(s:Shared)(σ:St)(H:Hp)(x y:V)(v u:Value)(Q:VK),Inv X pins σ H s->RelV x v->RelV y u->r x y H Q->
  subscripted slice false v u=operate [v,u] (getItem v u) ->wpAny (model X.prog X.w) X.A (subscriptTail value slice v u) (EP X pins σ Q) X.xe s
noncomputable def UX(X:Cx)(id:String)(r:V->List V->Hp->VK->Prop):Prop:=
 ∀(pins:List (Addr×Obj))(s:Shared)(σ:St)(H:Hp)(x:V)(xs:List V)(v:Value)(us:List Value)(Q:VK),Inv X pins σ H s->RelV x v->Vals xs us->r x xs H Q->
  wpAny (model X.prog X.w) X.A (call (.builtin id) (v::us)) (EP X pins σ Q) X.xe s
section
variable{X:Cx}{a b:Expr}{ta tb:TE}{pos:Pos}
theorem aD{r:R2}(hr:UW X r)(ha:PE X a ta)(hb:PE X b tb)(hs:LY b):PE X (.Subscript a b pos) (jq r ta tb):=by
 intro pins s σ H Q I h
 exact Subscript_ (ON ha hb I h λv u s2 x y H2 I2 rx ry q=>hr a b pins s2 σ H2 x y v u Q I2 rx ry q (hs _ _))
inductive UY(K:PySem.W.Frag)(x y:V)(H:Hp)(Q:VK):Prop
 |mk(p:Addr)(xs:List V)(i:Int)(v:V)(ex:x= .ref p)(ey:y= .int i)(s:aU K H p xs)(a:zo xs i=some v)(q:Q v H)
noncomputable def jM(K:PySem.W.Frag):R2:=UY K
inductive UZ(K:PySem.W.Frag)(x y:V)(H:Hp)(Q:VK):Prop
 |mk(p:Addr)(xs:List V)(i:Int)(v:V)(ex:x= .ref p)(ey:y= .int i)(s:pI K H p xs)(a:zo xs i=some v)(q:Q v H)
noncomputable def Va(K:PySem.W.Frag):R2:=UZ K
theorem au:UW X (jM X.K):=by
 intro value slice pins s σ H x y v u Q I rx ry h hs
 obtain⟨p,xs,i,z,rfl,rfl,hq,he,q⟩:=h
 cases rx
 obtain⟨t,rfl⟩:=ry
 obtain⟨its,r,pl,hz⟩:=I.list hq
 obtain⟨j,h1,h2,h3,h4,h5⟩:=ER he
 obtain⟨w,ew,rw'⟩:=r.get h2
 have hl:=r.length
 have hn:=zg
 have fin:EP X pins σ Q w s:=⟨z,H,I,rw',q⟩
 by_cases h0:0<=i
 ·have hj:i.toNat=j:=by
   rw[seqIndex_of h0 h5]at h1
   exact Option.some.inj h1
  exact item_listR pl.isList h0 (by omega) (by rw[hj];simpa using ew) fin hs
 ·have hj:(i+(its.toArray.size:Int)).toNat=j:=by
   rw[seqIndex_neg (by omega) h4]at h1
   rw[List.size_toArray,<-hl]
   exact Option.some.inj h1
  exact subscriptTail_builtinR (x:=w) pl.isList.typeIs slot_list_getitem.lookup
   (wpAny_getItem_list_neg (Q:=λr s'=>r=w/\EP X pins σ Q r s') pl.isList (by omega) (by rw[List.size_toArray]<;>omega) (by omega) (by rw[hj];simpa using ew) ⟨rfl,fin⟩) hs
theorem II:UW X (Va X.K):=by
 intro value slice pins s σ H x y v u Q I rx ry h hs
 obtain⟨p,xs,i,z,rfl,rfl,hq,he,q⟩:=h
 cases rx
 obtain⟨t,rfl⟩:=ry
 obtain⟨its,r,pl,hz⟩:=I.tuple hq
 obtain⟨j,h1,h2,h3,h4,h5⟩:=ER he
 obtain⟨w,ew,rw'⟩:=r.get h2
 have hl:=r.length
 have hn:=zg
 have fin:EP X pins σ Q w s:=⟨z,H,I,rw',q⟩
 exact subscriptTail_builtinR (x:=w) pl.typeIs slot_tuple_getitem.lookup
  (getItem_tuple (j:=j) (Q:=λr s'=>r=w/\EP X pins σ Q r s') pl (by omega) (by omega) (by rw[List.size_toArray,<-hl];exact h1) (by simpa using ew) ⟨rfl,fin⟩) hs
theorem CN(its:List Value)(n j:Nat)(u:Value):Obj.mapSeq (·.setIfInBounds j u) {cls:= .type "list",data:= .seq its.toArray n}={cls:= .type "list",data:= .seq (its.set j u).toArray n}:=by
 simp[Obj.mapSeq]
theorem Inv.lst{pins:List (Addr×Obj)}{σ:St}{H:Hp}{s:Shared}{p:Addr}{xs:List V}(I:Inv X pins σ H s)(h:H p=some (.lst xs)):
  ∃(its:List Value)(n:Nat),Vals xs its/\s.heap.get? p=some {cls:= .type "list",data:= .seq its.toArray n}/\xs.length<=sizeLine:=by
 obtain⟨z,its,n,r,e⟩:=I.hok p _ h
 exact⟨its,n,r,e,z⟩
theorem Inv.OW{pins:List (Addr×Obj)}{σ:St}{H:Hp}{s:Shared}{p:Addr}{xs ys:List V}{its its':List Value}{n n':Nat}{f:Obj->Obj}(I:Inv X pins σ H s)(h:H p=some (.lst xs))
  (ho:s.heap.get? p=some {cls:= .type "list",data:= .seq its.toArray n})(hf:f {cls:= .type "list",data:= .seq its.toArray n}={cls:= .type "list",data:= .seq its'.toArray n'})(r:Vals ys its')(hz:ys.length<=sizeLine)(t:Nat):
  Inv X pins σ (upd H p (.lst ys)) {s with heap:=s.heap.update p f,toks:=t}:=by
 have e:(s.heap.update p f).get? p=some {cls:= .type "list",data:= .seq its'.toArray n'}:=by
  rw[Heap.get?_update_self f ho (by rw[hf]<;>rfl),hf]
 refine I.write (x:=p) (e:=p) (by rw[h];trivial) (.inl rfl) (λb u hb q=>(Heap.get?_update_other _ _ (Ne.symm hb)).trans q) ⟨_,e⟩ ?_
 exact⟨hz,its',n',r,e⟩
noncomputable def RM:V->V->V->Hp->(Hp->Prop) ->Prop:=λo i v H Q=> ∃p xs k j,o= .ref p/\i= .int k/\H p=some (.lst xs)/\NL xs.length k=some j/\Q (upd H p (.lst (xs.set j v)))
theorem set_list:Ry X RM:=by
 intro pins s σ H o i v ov iv u Q I ro ri rv h
 obtain⟨p,xs,k,j,rfl,rfl,hp,hj,q⟩:=h
 cases ro
 obtain⟨t,rfl⟩:=ri
 obtain⟨its,n,r,ho,hz⟩:=I.lst hp
 obtain⟨h1,h2,h3,h4⟩:=EO hj
 have hl:=r.length
 have hn:=zg
 have I':Inv X pins σ (upd H p (.lst (xs.set j v))) {s with heap:=s.heap.update p (Obj.mapSeq (·.setIfInBounds j u))}:=
  I.OW hp ho (CN its n j u) (r.set rv j) (by rw[List.length_set];exact hz) s.toks
 by_cases h0:0<=k
 ·have hk:k.toNat=j:=by
   rw[seqIndex_of h0 h4]at h1
   exact Option.some.inj h1
  exact PySem.W.ki_setAt ho h0 (by omega) (by rw[List.size_toArray,<-hl];exact h4) (by rw[hk];exact⟨_,I',q⟩)
 ·have hk:(k+(its.toArray.size:Int)).toNat=j:=by
   rw[seqIndex_neg (by omega) h3]at h1
   rw[List.size_toArray,<-hl]
   exact Option.some.inj h1
  exact PySem.W.ki_setBack ho (by omega) (by rw[List.size_toArray,<-hl];exact h3) (by omega) (by rw[hk];exact⟨_,I',q⟩)
theorem zp(lo hi:Option Int)(n:Nat):(sliceBounds lo hi none n).1=((HT.zj n 0 lo:Nat):Int)/\(sliceBounds lo hi none n).2.1=((HT.zj n n hi:Nat):Int)/\(sliceBounds lo hi none n).2.2=1:=by
 refine⟨?_,?_,rfl⟩
 ·cases lo with
  |none=>simp[sliceBounds,HT.zj]
  |some i=>
   simp only[sliceBounds,HT.zj,Option.getD_none,show(1:Int)>0 by decide,if_true]
   by_cases h:i<0
   ·simp only[h,if_true]<;>omega
   ·simp only[h,if_false]<;>omega
 ·cases hi with
  |none=>simp[sliceBounds,HT.zj]
  |some i=>
   simp only[sliceBounds,HT.zj,Option.getD_none,show(1:Int)>0 by decide,if_true]
   by_cases h:i<0
   ·simp only[h,if_true]<;>omega
   ·simp only[h,if_false]<;>omega
theorem xg(its:List Value)(lo hi:Option Int):slicePick its.toArray lo hi none=((its.drop (HT.zj its.length 0 lo)).take (HT.zj its.length its.length hi-HT.zj its.length 0 lo)).toArray:=by
 obtain⟨h1,h2,h3⟩:=zp lo hi its.toArray.size
 unfold slicePick
 rw[h1,h2,h3]
 simp only[sliceRange_one,pick_run,List.size_toArray]<;>rfl
noncomputable def Vb(K:PySem.W.Frag):V->Option Int->Option Int->Hp->VK->Prop:=λx lo hi H Q=> ∃a xs,x= .ref a/\aU K H a xs/\ ∀p,H p=none->Q (.ref p) (upd H p (.lst (vh xs lo hi)))
theorem zq:WL X (Vb X.K):=by
 intro pins s σ H x v vl vu lo hi sl Q I rx hs pl pu h
 obtain⟨a,xs,rfl,hx,q⟩:=h
 cases rx
 obtain⟨its,r,ht,hz⟩:=I.list hx
 have hlen:=r.length
 refine⟨"list",_,slot_list_getitem.lookup,ht.isList.typeIs,?_⟩
 refine wpAny_getItem_list_slice ht.isList hs pl pu .none (by simp) ?_ (by rw[List.size_toArray]<;>omega)
 rw[xg,<-hlen]
 refine⟨.ref s.heap.objs.size,_,I.laid (t':=s.toks) (o:= .lst (vh xs lo hi)) (λb ob q=>Heap.get?_push_of_some _ q) (Nat.le_refl _) ?_,rfl,q _ (I.hok.fresh (Nat.le_refl _))⟩
 exact⟨Nat.le_trans (AQ xs lo hi) hz,_,0,(r.drop (HT.zj xs.length 0 lo)).take (HT.zj xs.length xs.length hi-HT.zj xs.length 0 lo),Heap.get?_push_size _ rfl⟩
noncomputable def tO:V->Bool
 | .gK=>true
 | .bl _=>true
 | .int _=>true
 | .str _=>true
 |_=>false
noncomputable def LZ:V->V->Bool
 | .gK,.gK=>true
 | .bl a,.bl b=>a==b
 | .bl a,.int b=>(if a then 1 else 0)==b
 | .int a,.bl b=>a==(if b then 1 else 0)
 | .int a,.int b=>a==b
 | .str a,.str b=>a==b
 |_,_=>false
theorem OX{A:Around}{s:Shared}{y x:V}{u v:Value}(ry:RelV y u)(rx:RelV x v)(fy:tO y=true)(fx:tO x=true):SeqAt.EqAt A s u v (LZ y x):=by
 cases y with
 |gK=>
  cases ry
  cases x with
  |gK=>cases rx;exact SeqAt.EqAt.same _
  |bl b=>cases rx;exact SeqAt.EqAt.none_bool b
  |int b=>obtain⟨t,rfl⟩:=rx;exact SeqAt.EqAt.none_int b t
  |str b=>obtain⟨t,rfl⟩:=rx;exact SeqAt.EqAt.none_str b t
  |_=>exact absurd (show false=true from fx) Bool.false_ne_true
 |bl a=>
  cases ry
  cases x with
  |gK=>cases rx;exact SeqAt.EqAt.bool_none a
  |bl b=>cases rx;exact SeqAt.EqAt.bool_bool a b
  |int b=>obtain⟨t,rfl⟩:=rx;exact SeqAt.EqAt.bool_int a b t
  |str b=>obtain⟨t,rfl⟩:=rx;exact SeqAt.EqAt.bool_str a b t
  |_=>exact absurd (show false=true from fx) Bool.false_ne_true
 |int a=>
  obtain⟨t',rfl⟩:=ry
  cases x with
  |gK=>cases rx;exact SeqAt.EqAt.int_none a t'
  |bl b=>cases rx;exact SeqAt.EqAt.int_bool a t' b
  |int b=>obtain⟨t,rfl⟩:=rx;exact SeqAt.EqAt.int_int a t' b t
  |str b=>obtain⟨t,rfl⟩:=rx;exact SeqAt.EqAt.int_str a t' b t
  |_=>exact absurd (show false=true from fx) Bool.false_ne_true
 |str a=>
  obtain⟨t',rfl⟩:=ry
  cases x with
  |gK=>cases rx;exact SeqAt.EqAt.str_none a t'
  |bl b=>cases rx;exact SeqAt.EqAt.str_bool a t' b
  |int b=>obtain⟨t,rfl⟩:=rx;exact SeqAt.EqAt.str_int a t' b t
  |str b=>obtain⟨t,rfl⟩:=rx;exact SeqAt.EqAt.str_str a t' b t
  |_=>exact absurd (show false=true from fx) Bool.false_ne_true
 |_=>exact absurd (show false=true from fy) Bool.false_ne_true
noncomputable def Ma(x:V)(u:Value):Bool:=match u with
 | .none=>LZ .gK x
 | .bool b=>LZ (.bl b) x
 | .int i _=>LZ (.int i) x
 | .str z _=>LZ (.str z) x
 |_=>false
theorem IJ{x y:V}{u:Value}(r:RelV y u)(f:tO y=true):Ma x u=LZ y x:=by
 cases y with
 |gK=>cases r;rfl
 |bl b=>cases r;rfl
 |int i=>obtain⟨t,rfl⟩:=r;rfl
 |str z=>obtain⟨t,rfl⟩:=r;rfl
 |_=>exact absurd (show false=true from f) Bool.false_ne_true
theorem zu{x:V}:∀{xs:List V}{us:List Value},Vals xs us->xs.all tO=true->us.any (Ma x)=xs.any λy=>LZ y x
 |_,_,.nil,_=>rfl
 |y::xs,u::us,.cons r t,f=>by
  rw[List.all_cons,Bool.and_eq_true]at f
  rw[List.any_cons,List.any_cons,IJ r f.1,zu t f.2]
theorem vj{A:Around}{s:Shared}{x:V}{v:Value}(rx:RelV x v)(fx:tO x=true):∀{xs:List V}{us:List Value},Vals xs us->xs.all tO=true-> ∀u∈us,SeqAt.EqAt A s u v (Ma x u)
 |_,_,.nil,_=>λu hu=>by cases hu
 |y::xs,u::us,.cons r t,f=>λu' hu=>by
  rw[List.all_cons,Bool.and_eq_true]at f
  rcases List.mem_cons.mp hu with rfl|hu
  ·rw[IJ r f.1];exact OX r rx f.1 fx
  ·exact vj rx fx t f.2 u' hu
noncomputable def RN(x:V)(xs:List V):Bool:=xs.any λy=>LZ y x
noncomputable def Yp(K:PySem.W.Frag)(neg:Bool):R2:=λx y H Q=> ∃p xs,y= .ref p/\(aU K H p xs∨pI K H p xs)/\tO x=true/\xs.all tO=true/\Q (.bl (if neg then !RN x xs else RN x xs)) H
theorem Gn:qz X (compareOp .In) (Yp X.K false):=by
 intro pins s σ H x y v u Q I rx ry h
 obtain⟨p,xs,rfl,hq,fx,fs,q⟩:=h
 cases ry
 rcases hq with hq|hq
 ·obtain⟨its,r,pl,hz⟩:=I.list hq
  refine SeqAt.in_listAt (Ma x) pl.isList (λw hw=>vj rx fx r fs w (by simpa using hw)) ⟨.bl _,H,I,rfl,?_⟩
  rw[show its.toArray.any (Ma x)=its.any (Ma x)by simp,zu r fs]
  exact q
 ·obtain⟨its,r,pl,hz⟩:=I.tuple hq
  refine SeqAt.in_tupleAt (Ma x) pl (λw hw=>vj rx fx r fs w (by simpa using hw)) ⟨.bl _,H,I,rfl,?_⟩
  rw[show its.toArray.any (Ma x)=its.any (Ma x)by simp,zu r fs]
  exact q
theorem iw:qC X (.builtin "len") (λxs H Q=> ∃p ys,xs=[.ref p]/\(aU X.K H p ys∨pI X.K H p ys)/\Q (.int ys.length) H):=by
 intro pins s σ H xs us Q I r h
 obtain⟨p,ys,rfl,hq,q⟩:=h
 obtain⟨u,rfl,rx⟩:=vals1 r
 cases rx
 have hn:=zg
 rcases hq with hq|hq
 ·obtain⟨its,r',pl,hz⟩:=I.list hq
  have hlen:=r'.length
  exact Calls.call_len_list pl.isList (by simp only[List.size_toArray]<;>omega) ⟨.int ys.length,H,I.tok _,⟨s.toks+1,by rw[List.size_toArray,hlen]⟩,q⟩
 ·obtain⟨its,r',pl,hz⟩:=I.tuple hq
  have hlen:=r'.length
  exact len_tuple pl (by simp only[List.size_toArray]<;>omega) ⟨.int ys.length,H,I.tok _,⟨s.toks+1,by rw[List.size_toArray,hlen]⟩,q⟩
noncomputable def Vc(K:PySem.W.Frag)(T:String)(x:V)(H:Hp):Prop:=match x with
 | .str _=>T= "str"
 | .int _=>T= "int"
 | .ref p=>(T= "list"/\ ∃xs,aU K H p xs)∨(T= "tuple"/\ ∃o,K.lookup p=some o/\o.cls= .type "tuple"/\o.dict=none)∨
   (T= "dict"/\((∃kvs,H p=some (.dK kvs))∨ ∃kvs,H p=some (.dT kvs)))∨(T= "set"/\ ∃S n,H p=some (.set S n))
 |_=>False
theorem IK{pins:List (Addr×Obj)}{σ:St}{H:Hp}{s:Shared}{T:String}{x:V}{v:Value}(I:Inv X pins σ H s)(r:RelV x v)(ty:Vc X.K T x H):
  s.TypeIs v T/\ ∀a,v= .ref a-> ∃ob,s.heap.get? a=some ob/\ob.dict=none:=by
 cases x with
 |str z=>
  obtain⟨t,rfl⟩:=r
  cases(show T= "str" from ty)
  exact⟨typeIs_str s z t,λ_ e=>nomatch e⟩
 |int i=>
  obtain⟨t,rfl⟩:=r
  cases(show T= "int" from ty)
  exact⟨typeIs_int s i t,λ_ e=>nomatch e⟩
 |ref p=>
  cases r
  rcases ty with⟨rfl,xs,hq⟩|⟨rfl,o,hk,hc,hd⟩|⟨rfl,hk⟩|⟨rfl,S,n,hk⟩
  ·obtain⟨its,_,pl,_⟩:=I.list hq
   refine⟨pl.isList.typeIs,λa e=> ?_⟩
   cases e
   obtain⟨o,n,e,c,hd,_⟩:=pl
   exact⟨o,e,hd⟩
  ·refine⟨⟨o,I.x8 p o hk,hc⟩,λa e=> ?_⟩
   cases e
   exact⟨o,I.x8 _ o hk,hd⟩
  ·have z:∃o,s.heap.get? p=some o/\o.ExactDict:=by
    rcases hk with⟨kvs,hk⟩|⟨kvs,hk⟩
    ·obtain⟨_,_,_,_,o,_,_,e,ex,_⟩:=I.hok p _ hk
     exact⟨o,e,ex⟩
    ·obtain⟨_,_,_,_,o,_,_,e,ex,_⟩:=I.hok p _ hk
     exact⟨o,e,ex⟩
   obtain⟨o,e,ex⟩:=z
   refine⟨⟨o,e,ex.1⟩,λa e2=> ?_⟩
   cases e2
   exact⟨o,e,ex.2.1⟩
  ·obtain⟨o,_,_,_,e,ex,_⟩:=I.hok p _ hk
   refine⟨⟨o,e,ex.1⟩,λa e2=> ?_⟩
   cases e2
   exact⟨o,e,ex.2.1⟩
 |_=>exact False.elim ty
noncomputable def Vd(K:PySem.W.Frag)(T:String)(r:V->List V->Hp->VK->Prop)(to:TE):TE:=λσ H Q=>to σ H λx H1=>Vc K T x H1/\r x [] H1 Q
noncomputable def Yq(K:PySem.W.Frag)(T:String)(r:V->List V->Hp->VK->Prop)(to:TE)(t:TA):TE:=λσ H Q=>to σ H λx H1=>Vc K T x H1/\t σ H1 λxs H2=>r x xs H2 Q
variable{o e:Expr}{es:List Expr}{to:TE}{t:TA}{name:Str}{apos cpos:Pos}{T id:String}{r:V->List V->Hp->VK->Prop}
theorem OY(pa:PlainAttrs T)(slot:Slot T name id)(hty:typeOf (.builtin id)=pure (.type "method_descriptor"))(hm:UX X id r)(ho:PE X o to)
  (hbase:attributeBase o name X.env (eval o X.env)=eval o X.env:=by rfl)(hline:(apos.endLine==cpos.line)=true:=by rfl):PE X (.Call (.Attribute o name apos) [] [] cpos) (Vd X.K T r to):=by
 intro pins s σ H Q I h
 refine wpAny_Call_method0_late hbase hline (fZ (ho pins s σ H _ I h) λv s1 ⟨x,H1,I1,r1,ty,q1⟩=> ?_)
 obtain⟨h1,h2⟩:=IK I1 r1 ty
 exact⟨T,id,pa,slot,hty,h1,h2,Calls.callWith_builtin rfl (PySem.evalArgs_none (hm pins s1 σ H1 x [] v [] Q I1 r1 .nil q1))⟩
theorem IL(pa:PlainAttrs T)(slot:Slot T name id)(hty:typeOf (.builtin id)=pure (.type "method_descriptor"))(hm:UX X id r)(ho:PE X o to)(ha:PA X (e::es) t)
  (hbase:attributeBase o name X.env (eval o X.env)=eval o X.env:=by rfl)
  (hfew:((backTo cpos (starEach (e::es) X.env)).all (λx=> !x.1) && (backToKw cpos (keywordEach [] X.env)).all (λx=>x.1.isSome)
   && decide ((e::es).length+([]:List Keyword).length+(if([]:List Keyword).isEmpty then 0 else 1)<30))=true:=by rfl)
  (hline:(apos.endLine==cpos.line)=true:=by rfl)(hs:starEach (e::es) X.env=(false,eval e X.env)::starEach es X.env:=by rfl)(hplain:(backTo cpos (starEach es X.env)).any (·.1)=false:=by rfl):
  PE X (.Call (.Attribute o name apos) (e::es) [] cpos) (Yq X.K T r to t):=by
 intro pins s σ H Q I h
 refine wpAny_Call_method_late hbase hfew hline rfl (fZ (ho pins s σ H _ I h) λv s1 ⟨x,H1,I1,r1,ty,q1⟩=> ?_)
 obtain⟨h1,h2⟩:=IK I1 r1 ty
 refine⟨T,id,pa,slot,hty,h1,h2,?_⟩
 have hA:=ha cpos pins s1 σ H1 _ I1 q1
 rw[hs]at hA ⊢
 refine Calls.callWith_builtin (by show(false||(backTo cpos (starEach es X.env)).any (·.1))=false;rw[hplain]<;>rfl) (Calls.evalArgs_plain ?_)
 exact fZ hA λus s2 ⟨vs,H2,I2,r2,q2⟩=>hm pins s2 σ H2 x vs v us Q I2 r1 r2 q2
end
noncomputable def Yr(X:Cx)(id:String)(r:V->List V->Hp->VK->Prop):Prop:=
 ∀(pins:List (Addr×Obj))(s:Shared)(σ:St)(H:Hp)(x:V)(xs:List V)(v:Value)(us:List Value)(Q:VK),Inv X pins σ H s->RelV x v->Vals xs us->r x xs H Q->
  wpAny (model X.prog X.w) X.A (call (.builtin id) (v::us)) (EP X pins σ Q) X.xe s
theorem Vals.one:∀{x:V}{us:List Value},Vals [x] us-> ∃u,us=[u]/\RelV x u
 |_,_,.cons r .nil=>⟨_,rfl,r⟩
theorem Vals.two:∀{x y:V}{us:List Value},Vals [x,y] us-> ∃u v,us=[u,v]/\RelV x u/\RelV y v
 |_,_,_,.cons r (.cons q .nil)=>⟨_,_,rfl,r,q⟩
theorem Vals.zero:∀{us:List Value},Vals [] us->us=[]
 |_,.nil=>rfl
section
variable{X:Cx}{pins:List (Addr×Obj)}{σ:St}{H:Hp}{s:Shared}{l b:Addr}{xs ys zs:List V}
theorem Inv.Ve{its its':List Value}{n:Nat}{f:Array Value->Array Value}{t':Nat}(I:Inv X pins σ H s)(hH:H l=some (.lst xs))
  (e:s.heap.get? l=some {cls:= .type "list",data:= .seq its.toArray n})(hf:f its.toArray=its'.toArray)(hv:Vals ys its')(hz:ys.length<=sizeLine):
  Inv X pins σ (upd H l (.lst ys)) {s with heap:=s.heap.update l (Obj.mapSeq f),toks:=t'}:=by
 have q:=PySem.IsL.update e f
 rw[hf]at q
 refine I.write (x:=l) (e:=l) (by rw[hH];exact trivial) (.inl rfl) (λb' u hb hu=>(Heap.get?_update_other s.heap (Obj.mapSeq f) (Ne.symm hb)).trans hu) ⟨_,q⟩ ?_
 exact⟨hz,its',_,hv,q⟩
theorem Inv.Vf{its:List Value}{t':Nat}(I:Inv X pins σ H s)(hv:Vals ys its)(hz:ys.length<=sizeLine):
  Inv X pins σ (upd H s.heap.objs.size (.lst ys)) {s with heap:=s.heap.push {cls:= .type "list",data:= .seq its.toArray},toks:=t'}:=
 I.laid (λ_ _ q=>Heap.get?_push_of_some _ q) (Nat.le_refl _) ⟨hz,its,0,hv,Heap.get?_push_size _ rfl⟩
theorem Inv.fresh(I:Inv X pins σ H s):H s.heap.objs.size=none:=I.hok.fresh (Nat.le_refl _)
theorem Inv.OZ(I:Inv X pins σ H s)(hH:H l=some (.lst xs)):xs.length<=sizeLine/\ ∃(its:List Value)(n:Nat),Vals xs its/\xs.length=its.length/\s.heap.get? l=some {cls:= .type "list",data:= .seq its.toArray n}:=by
 obtain⟨z,its,n,r,e⟩:=I.hok l _ hH
 exact⟨z,its,n,r,r.length,e⟩
end
section
variable{X:Cx}
noncomputable def Mb:V->List V->Hp->VK->Prop:=λx vs H Q=> ∃l xs y,x= .ref l/\vs=[y]/\H l=some (.lst xs)/\xs.length<sizeLine/\Q .gK (upd H l (.lst (xs++ [y])))
theorem jU:Yr X "list.append" Mb:=by
 intro pins s σ H x vs v us Q I rx rv h
 obtain⟨l,xs,y,rfl,rfl,hH,hz,q⟩:=h
 cases rx
 obtain⟨u,rfl,ru⟩:=rv.one
 obtain⟨z,its,n,r,hl,e⟩:=I.OZ hH
 refine call_meets F.slot_list_append ⟨_,e,rfl⟩ F.entry_list_append (F.args_list_append_2 _ _) (PySem.list_append l its.toArray n u (by rw[List.size_toArray];omega)) ⟨e,?_⟩
 refine⟨.gK,_,I.Ve (its':=its++ [u]) hH e (by simp) (r.append (.cons ru .nil)) ?_,rfl,q⟩
 rw[List.length_append,List.length_singleton]
 omega
noncomputable def Vg:R2:=λx y H Q=> ∃l b xs zs,x= .ref l/\y= .ref b/\H l=some (.lst xs)/\H b=some (.lst zs)/\xs.length+zs.length<=sizeLine/\ ∀p,H p=none->Q (.ref p) (upd H p (.lst (xs++zs)))
theorem IM:qz X (binaryOp .Add) Vg:=by
 intro pins s σ H x y v u Q I rx ry h
 obtain⟨l,b,xs,zs,rfl,rfl,hH,hB,hz,q⟩:=h
 cases rx
 cases ry
 obtain⟨z,its,n,r,hl,e⟩:=I.OZ hH
 obtain⟨z2,its2,n2,r2,hl2,e2⟩:=I.OZ hB
 refine PySem.P.add_list e e2 ?_ (by rw[List.size_toArray,List.size_toArray];omega)
 have ea:its.toArray++its2.toArray=(its++its2).toArray:=by simp
 rw[ea]
 exact⟨.ref _,_,I.Vf (t':=s.toks) (r.append r2) (by rw[List.length_append];omega),rfl,q _ I.fresh⟩
end
section
variable{prog:Program}{w:World}{A:Around}{E:Value->Shared->Prop}{s:Shared}
end
section
variable{X:Cx}
end
end L2
namespace WM
open PySem PySem.W PySem.Calls PyProof.Rows
theorem t9{P:Params}{h:Heap}:∀(ns:List Int)(vs:List Value),WellAll P h vs (ns.map WData.int) ->IntsAre vs ns:=by
 intro ns
 induction ns with
 |nil=>
  intro vs w
  rw[List.map_nil]at w
  cases w
  exact .nil
 |cons n ns ih=>
  intro vs w
  rw[List.map_cons]at w
  cases w with
  |cons a b=>
   cases a
   exact .cons _ _ (ih _ b)
theorem Gp{l:OpenLaw}{n:Nat}(hn:l.most=some n){P:Params}{h:Heap}{args:List WData}{vals:List Value}
  (hpre:l.row.toRowW.claim.pre args=true)(hwl:WellAll P h vals args):
  ∃a vs ns,vals=[Value.ref a]/\args=[WData.list (ns.map WData.int)]/\h.get? a=some {cls:= .type "list",data:= .seq vs.toArray}/\IntsAre vs ns/\ns.length<=n:=by
 have hsh:WShape.hasAll [] args [.list .int]=true:=(pre_splitW hpre).1
 have hc:l.pre.holds [] {args:=args}=true:=(pre_splitW hpre).2
 obtain⟨d,r,rfl,h1,h2⟩:=hasAllW_cons hsh
 obtain rfl:=hasAllW_nil h2
 obtain⟨xs,rfl,h3⟩:=hasW_list h1
 obtain⟨ns,rfl⟩:=items_int h3
 have hlen:ns.length<=n:=by
  unfold OpenLaw.pre at hc
  have h4:(WTm.not (.lt (.lit (.int (n:Int))) (.len (.arg 0)))).holds [] {args:=[.list (ns.map .int)]}=true:=by
   have h4:=(holds_andW hc).1
   rw[hn]at h4
   exact h4
  have h5:=condW_of h4 (w_not (w_lt w_lit (w_len_list (w_arg rfl))))
  rw[List.length_map]at h5
  refine Nat.le_of_not_lt λq=> ?_
  have q':(n:Int)<((ns.length:Nat):Int):=by omega
  first
   |(rw[decide_eq_true q']at h5;exact absurd h5 (by decide))
   |(simp at h5;omega)
 cases hwl with
 |cons w1 w2=>
  cases w2
  cases w1 with
  |list ho hall=>exact⟨_,_,ns,rfl,rfl,ho,t9 ns _ hall,hlen⟩
theorem Gq(l:OpenLaw)(args:List WData):l.row.toRowW.claim.post args (.bool true) args=true:=
 postW_of (r:=l.row.toRowW) (X:=(true==true))
  (show WShape.has [] (.bool true) .bool=true by first|rfl|decide|simp[WShape.has,WShape.arms,WShape.armsAll])
  (show(WTm.eq .res (.lit (.bool true))).value [] {args:=args,res:=some (.bool true),after:=args}=some (.bool (true==true))from w_eq_bool (w_res rfl) w_lit) rfl
theorem AR{l:OpenLaw}{n:Nat}{q:Program}{loose:List Str}{XP:(Str->Option Value) ->Heap->Prop}{YP:World->Heap->Prop}{d:DefRec}
  (hn:l.most=some n)(hdf:d.params.defaults=[])
  (call:∀(w:World)(s₀ s₁:Shared)(mg mb:Str->Option Value)(fa:Addr)(o:Obj)(pm cd doc:Value)(a:Addr)(vs:List Value)(ns:List Int),
   Ground q loose [] XP w s₀ mg mb s₁.heap->YP w s₁.heap->
   s₁.heap.get? fa=some o->o.data= .func (docDef d.name d.params d.body d.scope pm cd doc) ->s₁.heap.CodeRec cd d.name->mg d.name=some (.ref fa) ->
   s₁.heap.get? a=some {cls:= .type "list",data:= .seq vs.toArray} ->IntsAre vs ns->ns.length<=n->s₁.gens= #[] ->
   codeAny (model l.prog w) callerA (.call (.ref fa) ⟨[.ref a],[]⟩) (λr s'=>r= .ok (.ret (.bool true))/\OldK s₁.heap s'.heap/\s'.os=s₁.os/\AllBare s'.gens) s₁):
  WalkO q loose XP YP l.row.toRowW d [] (λf vs=>PySem.call f vs):=by
 intro w s₀ s₁ mg mb G Y fa o pm cd doc dV kV ho hd hcd hD hmg hg args vals as hpre hlay hrd hwl hlo
 obtain rfl:dV= .none:=Dflts.none hD hdf
 obtain rfl:kV= .none:=Dflts.noKw hD
 obtain⟨a,vs,ns,rfl,rfl,hobj,hints,hlen⟩:=Gp hn hpre hwl
 refine enter_call (codeAny_mono (call w s₀ s₁ mg mb fa o pm cd doc a vs ns G Y ho (fd_plain hd) hcd hmg hobj hints hlen hg) λr s' hq=> ?_)
 obtain⟨rfl,h2,h3,h4⟩:=hq
 exact⟨.inl ⟨.bool true,.bool true,[],rfl,λ_=>rfl,.bool true,Gq l _,λ_=>⟨List.Pairwise.nil,λ_ hm=>(nomatch hm)⟩⟩,h2,h3,h4⟩
section
variable{prog:Program}{w:World}{A:Around}{E:Value->Shared->Prop}{s:Shared}{K:Frag}
noncomputable def ledger(h:Heap)(L d:Addr):List (Addr×Obj):=(List.range h.objs.size).filterMap λa=>if a=L∨a=d then none else(h.get? a).map λo=>(a,o)
end
end WM
namespace L2
open PySem PySem.Spec PyProof.Rows
theorem yi:∀{vs:List Value}{ns:List Int},IntsAre vs ns->Vals (ns.map V.int) vs
 |_,_,.nil=> .nil
 |_,_,.cons n t h=> .cons ⟨t,rfl⟩ (yi h)
noncomputable abbrev KOf{K:PySem.W.Frag}{h:Heap}(_:K.In h):PySem.W.Frag:=K
noncomputable def gZ(s:Stmt):Arguments:=match s with
 | .FunctionDef _ a _ _ _ _ _ _ _ _=>a
 |_=>{posonlyargs:=[],args:=[],vararg:=none,kwonlyargs:=[],kw_defaults:=[],kwarg:=none,defaults:=[]}
noncomputable def fL(s:Stmt):List Stmt:=match s with
 | .FunctionDef _ _ b _ _ _ _ _ _ _=>b
 |_=>[]
noncomputable def aC(s:Stmt):Scope:=match s with
 | .FunctionDef _ _ _ _ _ _ sc _ _ _=>sc
 |_=>{kind:= .function,names:=[],isGenerator:=false,isCoroutine:=false}
noncomputable abbrev dz:EN:=λ_ _ _ _ _ _=>False
noncomputable abbrev E0:XK:=λ_ _ _=>False
theorem aM{X:Cx}:Passes dz X E0:=λ_ _ _ _ _ _ _ h=>h.elim
structure NN(K:PySem.W.Frag)(x qual:Str)(st:Stmt)(f:Addr)(fd:FuncData):Prop where
 ex:∃(oc:Value)(od:Option Addr)(kV doc pm:Value)(an:Option Addr)(cdv ct:Value)(osl:Array (Option Value)),
  fd=PySem.W.fnOf x qual (gZ st) (fL st) (aC st) .none kV doc pm an cdv ct/\K.lookup f=some ⟨oc,od,.func fd,osl⟩/\PySem.W.codeIn K cdv qual=true
 kp:PySem.W.keepIn K (.ref f)=true
section
variable{P:Program}{w:World}{K:PySem.W.Frag}{mg:Str->Option Value}{base:Heap}
theorem NN.ok{x qual:Str}{st:Stmt}{f:Addr}{fd:FuncData}{N ps:List Str}{k:Nat}{sp:Sp}(F:NN K x qual st f fd)(S:aR N ps (aC st))(len:∀vs H Q E,sp vs H Q E->vs.length=ps.length)
  (hbody:∀(cdv:Value)(A:Around)(outer:List Env)(s:Shared)(H:Hp)(vs:List V)(Q:VK)(E:XK),fS k (A.deeper (envOfC qual (aC st) s.heap.objs.size f cdv)) ->sp vs H Q E->
   ∃t,yZ (zh dz P w K mg base N qual (aC st) f cdv A outer s H E).HW (fL st) t/\t {nx:=λ_ H'=>Q .gK H',rt:=Q} (start N vs) H):pJ P w K mg base dz (k+1) f fd ps sp:=by
 obtain⟨oc,od,kV,doc,pm,an,cdv,ct,osl,rfl,lk,hcd⟩:=F.ex
 refine NK lk hcd S len λA outer s H vs Q E hr Lw=> ?_
 obtain⟨t,h,q⟩:=hbody cdv A outer s H vs Q E hr Lw
 exact⟨t,h.HW,q⟩
theorem NN.binds{x qual:Str}{st:Stmt}{f:Addr}{fd:FuncData}{ps:List Str}(F:NN K x qual st f fd)
  (h:∀(kV doc pm:Value)(an:Option Addr)(cdv ct:Value)(us:List Value),us.length=ps.length->bindArgs (PySem.W.fnOf x qual (gZ st) (fL st) (aC st) .none kV doc pm an cdv ct) ⟨us,[]⟩=pure (ps.zip us)):Binds K fd ps []:=by
 obtain⟨oc,od,kV,doc,pm,an,cdv,ct,osl,rfl,lk,hcd⟩:=F.ex
 exact .all (h kV doc pm an cdv ct)
theorem IP{x qual:Str}{st:Stmt}{f:Addr}{oc:Value}{od an:Option Addr}{osl:Array (Option Value)}{kV doc pm cdv ct:Value}(l:K.lookup f=some ⟨oc,od,.func (PySem.W.fnOf x qual (gZ st) (fL st) (aC st) .none kV doc pm an cdv ct),osl⟩)
  (c:PySem.W.codeIn K cdv qual=true)(k:PySem.W.keepIn K (.ref f)=true):NN K x qual st f (PySem.W.fnOf x qual (gZ st) (fL st) (aC st) .none kV doc pm an cdv ct):=⟨⟨oc,od,kV,doc,pm,an,cdv,ct,osl,rfl,l,c⟩,k⟩
end
section
variable{X:Cx}
theorem pv(i:Nat){x:Str}{pos:Pos}(hN:X.N[i]?=some x:=by rfl)(hv:NG X.env.scope x:=by first|exact Or.inl rfl|exact Or.inr (Or.inl rfl)|exact Or.inr (Or.inr rfl))(hd:(x==("__debug__":Str))=false:=by decide)
  (hcd:(x==("__classdict__":Str))=false:=by decide):PE X (.Name x pos) (bU i):=OE hN hv hd hcd
end
theorem pK{A B:Prop}(h:B):if false=true then A else B:=by
 rw[if_neg Bool.false_ne_true]
 exact h
theorem xh{A B:Prop}(h:A):if true=true then A else B:=by
 rw[if_pos rfl]
 exact h
theorem lS{c A B:Prop}[Decidable c](h1:c->A)(h2:¬c->B):if c then A else B:=by
 by_cases h:c
 ·rw[if_pos h]
  exact h1 h
 ·rw[if_neg h]
  exact h2 h
theorem IQ{c A B:Prop}[Decidable c](hc:c)(h:B):if(!decide c)=true then A else B:=by
 rw[decide_eq_true hc]
 exact pK h
noncomputable def az(H H':Hp):Prop:=∀b o,H b=some o->H' b=some o
theorem az.refl(H:Hp):az H H:=λ_ _ h=>h
theorem az.trans{H H1 H2:Hp}(a:az H H1)(b:az H1 H2):az H H2:=λc o h=>b c o (a c o h)
theorem az.free{H H':Hp}(e:az H H'){l:Addr}(h:H' l=Option.none):H l=Option.none:=by
 cases q:H l with
 |none=>rfl
 |some o=>
  rw[e l o q]at h
  cases h
theorem az.seq{K:PySem.W.Frag}{H H':Hp}{a:Addr}{xs:List V}(e:az H H')(h:aU K H a xs):aU K H' a xs:=by
 rcases h with(h|⟨o,h⟩)|h
 ·exact .inl (.inl (e _ _ h))
 ·exact .inl (.inr ⟨o,e _ _ h⟩)
 ·exact .inr h
noncomputable def cz(env:Env):List (Str×NameKind) ->List (Str×Addr) ->List (Str×Addr)
 | [],acc=>acc
 |(n,k)::r,acc=>if k== .free then cz env r ((n,(env.cells.lookup n).getD 0)::acc)else cz env r acc
theorem pL{env:Env}(f:Str×NameKind->List (Str×Addr) ->Sem (ForInStep (List (Str×Addr))))
  (hf:∀n k cs,f (n,k) cs=if k==NameKind.free then(do let a<-cellOf env n;pure (.yield ((n,a)::cs)))else pure (.yield cs)):
  ∀(ns:List (Str×NameKind))(acc:List (Str×Addr)),(∀y∈ns,y.2= .free->(env.cells.lookup y.1).isSome=true) ->forIn ns acc f=pure (cz env ns acc)
 | [],acc,_=>by rw[List.forIn_nil];rfl
 |(n,k)::r,acc,h=>by
  rw[List.forIn_cons,hf]
  have hr:∀y∈r,y.2= .free->(env.cells.lookup y.1).isSome=true:=λy hy=>h y (List.mem_cons_of_mem _ hy)
  unfold cz
  by_cases hk:(k==NameKind.free)=true
  ·rw[if_pos hk,if_pos hk]
   obtain⟨c,hc⟩:=Option.isSome_iff_exists.mp (h (n,k) List.mem_cons_self (beq_iff_eq.mp hk))
   have hc':env.cells.lookup n=some c:=hc
   have e:cellOf env n=pure c:=by unfold cellOf;rw[hc']
   rw[e,pure_bind,pure_bind,hc']
   exact pL f hf r _ hr
  ·rw[if_neg hk,if_neg hk,pure_bind]
   exact pL f hf r _ hr
theorem xj{env:Env}{scope:Scope}(h:∀y∈scope.names,y.2= .free->(env.cells.lookup y.1).isSome=true):closureFor scope env=pure (cz env scope.names []):=by
 simp only[closureFor]
 rw[pL (env:=env) _ (λn k cs=>by cases hk:k==NameKind.free<;>simp[hk]) _ _ h]
 rfl
theorem j6{env:Env}{y:Str}{c:Addr}:∀{ns:List (Str×NameKind)}{acc:List (Str×Addr)},(y,c)∈cz env ns acc->(y,c)∈acc∨((y,NameKind.free)∈ns/\c=(env.cells.lookup y).getD 0)
 | [],acc,h=> .inl h
 |(n,k)::r,acc,h=>by
  unfold cz at h
  split at h
  ·rename_i hk
   rcases j6 h with h|⟨h,e⟩
   ·rcases List.mem_cons.mp h with e|h
    ·cases e
     exact .inr ⟨by rw[beq_iff_eq.mp hk];exact List.mem_cons_self,rfl⟩
    ·exact .inl h
   ·exact .inr ⟨List.mem_cons_of_mem _ h,e⟩
  ·rcases j6 h with h|⟨h,e⟩
   ·exact .inl h
   ·exact .inr ⟨List.mem_cons_of_mem _ h,e⟩
theorem kX{env:Env}{y:Str}:∀{ns:List (Str×NameKind)}{acc:List (Str×Addr)},acc.lookup y=some ((env.cells.lookup y).getD 0)∨(y,NameKind.free)∈ns->(cz env ns acc).lookup y=some ((env.cells.lookup y).getD 0)
 | [],acc,h=>by
  rcases h with h|h
  ·exact h
  ·cases h
 |(n,k)::r,acc,h=>by
  unfold cz
  split
  ·rename_i hk
   refine kX ?_
   by_cases hy:y=n
   ·subst hy
    exact .inl (by simp[List.lookup])
   ·have hb:(y==n)=false:=by simpa using hy
    rcases h with h|h
    ·exact .inl (by rw[List.lookup_cons,hb];exact h)
    ·rcases List.mem_cons.mp h with e|h
     ·cases e;exact absurd rfl hy
     ·exact .inr h
  ·rename_i hk
   refine kX ?_
   rcases h with h|h
   ·exact .inl h
   ·rcases List.mem_cons.mp h with e|h
    ·cases e;exact absurd rfl hk
    ·exact .inr h
theorem gx{y:Str}:∀{ns:List (Str×NameKind)}{n:Nat}{acc:List (Str×Addr)},(y,NameKind.cell)∉ns->(cellsFrom n ns acc).lookup y=acc.lookup y
 | [],_,_,_=>rfl
 |(z,k)::r,n,acc,h=>by
  unfold cellsFrom
  have hr:(y,NameKind.cell)∉r:=λq=>h (List.mem_cons_of_mem _ q)
  split
  ·rename_i hk
   rw[gx hr]
   have hy:(y==z)=false:=by
    cases e:y==z with
    |false=>rfl
    |true=>exact absurd (by rw[beq_iff_eq.mp e,beq_iff_eq.mp hk];exact List.mem_cons_self) h
   rw[List.lookup_cons,hy]
  ·exact gx hr
theorem kY{y:Str}{c:Addr}:∀{ns:List (Str×NameKind)}{n:Nat}{acc:List (Str×Addr)},(y,c)∈cellsFrom n ns acc->(y,c)∈acc∨(n<=c/\(y,NameKind.cell)∈ns)
 | [],_,_,h=> .inl h
 |(z,k)::r,n,acc,h=>by
  unfold cellsFrom at h
  split at h
  ·rename_i hk
   rcases kY h with h|⟨h,e⟩
   ·rcases List.mem_cons.mp h with e|h
    ·cases e
     exact .inr ⟨Nat.le_refl _,by rw[beq_iff_eq.mp hk];exact List.mem_cons_self⟩
    ·exact .inl h
   ·exact .inr ⟨by omega,List.mem_cons_of_mem _ e⟩
  ·rcases kY h with h|⟨h,e⟩
   ·exact .inl h
   ·exact .inr ⟨h,List.mem_cons_of_mem _ e⟩
theorem kZ:∀{ns:List (Str×NameKind)}{n:Nat}{acc:List (Str×Addr)},(∀x y c,(x,c)∈acc->(y,c)∈acc->x=y) ->(∀y c,(y,c)∈acc->c<n) ->
  ∀x y c,(x,c)∈cellsFrom n ns acc->(y,c)∈cellsFrom n ns acc->x=y
 | [],_,_,h,_=>h
 |(z,k)::r,n,acc,h,hl=>by
  unfold cellsFrom
  split
  ·refine kZ (λx y c h1 h2=> ?_) (λy c h1=> ?_)
   ·rcases List.mem_cons.mp h1 with e1|h1<;>rcases List.mem_cons.mp h2 with e2|h2
    ·cases e1;cases e2;rfl
    ·cases e1;exact absurd (hl _ _ h2) (Nat.lt_irrefl _)
    ·cases e2;exact absurd (hl _ _ h1) (Nat.lt_irrefl _)
    ·exact h x y c h1 h2
   ·rcases List.mem_cons.mp h1 with e1|h1
    ·cases e1;exact Nat.lt_succ_self _
    ·exact Nat.lt_succ_of_lt (hl _ _ h1)
  ·exact kZ h hl
theorem jr:∀(ns:List (Str×NameKind))(h:Heap)(acc:List (Str×Addr))(y:Str)(c:Addr),(y,c)∈cellsFrom h.objs.size ns acc->(y,c)∈acc∨(pushCells h ns).IsCell c none
 | [],_,_,_,_,hm=> .inl hm
 |(z,k)::r,h,acc,y,c,hm=>by
  unfold cellsFrom at hm
  unfold pushCells
  split at hm
  ·rename_i hk
   rw[if_pos hk]
   have hm':(y,c)∈cellsFrom (h.push {cls:= .type "cell",data:= .cell none}).objs.size r ((z,h.objs.size)::acc):=by rw[Heap.size_push];exact hm
   rcases jr r _ _ y c hm' with hm|hm
   ·rcases List.mem_cons.mp hm with e|hm
    ·cases e
     exact .inr ⟨_,pushCells_keeps _ _ _ _ (Heap.get?_push_size _ rfl),rfl⟩
    ·exact .inl hm
   ·exact .inr hm
  ·rename_i hk
   rw[if_neg hk]
   exact jr r h acc y c hm
noncomputable def kindB(names:List (Str×NameKind))(y:Str)(k:NameKind):Bool:=names.lookup y==some k
noncomputable def vm:List Str->Bool
 | []=>true
 |x::r=> !r.contains x && vm r
theorem pM:∀{l:List Str},vm l=true->l.Nodup
 | [],_=>List.nodup_nil
 |x::r,h=>by
  unfold vm at h
  rw[Bool.and_eq_true]at h
  refine List.nodup_cons.mpr ⟨λhm=> ?_,pM h.2⟩
  have:r.contains x=true:=List.contains_iff_mem.mpr hm
  rw[this]at h
  exact absurd h.1 (by decide)
noncomputable def CO:List Str->List Str->(Str->Str->Bool) ->Bool
 | [],[],_=>true
 |x::r,y::t,p=>p x y && CO r t p
 |_,_,_=>false
theorem AS:∀{l m:List Str}{p:Str->Str->Bool},CO l m p=true->l.length=m.length
 | [],[],_,_=>rfl
 | [],_::_,_,h=>by cases h
 |_::_,[],_,h=>by cases h
 |x::r,y::t,p,h=>by
  unfold CO at h
  rw[Bool.and_eq_true]at h
  simp[AS h.2]
theorem AU:∀{l m:List Str}{p:Str->Str->Bool},CO l m p=true-> ∀(i:Nat)(x:Str),l[i]?=some x-> ∃y,m[i]?=some y/\p x y=true
 | [],[],_,_,i,x,h=>by simp at h
 | [],_::_,_,h,_,_,_=>by cases h
 |_::_,[],_,h,_,_,_=>by cases h
 |x::r,y::t,p,h,0,z,e=>by
  unfold CO at h
  rw[Bool.and_eq_true]at h
  simp at e;subst e
  exact⟨y,rfl,h.1⟩
 |x::r,y::t,p,h,i+1,z,e=>by
  unfold CO at h
  rw[Bool.and_eq_true]at h
  obtain⟨w,e1,e2⟩:=AU h.2 i z (by simpa using e)
  exact⟨w,by simpa using e1,e2⟩
noncomputable def AV(names ks:List (Str×NameKind))(own N2 N:List Str):Bool:=
 names.all (λy=>y.2 != .free||kindB ks y.1 .cell||kindB ks y.1 .free) &&
 vm (names.map (·.1)) && vm (own++N2) &&
 names.all (λy=> !(y.2== .local||y.2== .cell)||own.contains y.1||y.1==(".0":Str)) &&
 CO N2 N (λy z=>(y==z && y !=(".0":Str))||names.lookup y==none) &&
 own.all (λx=>kindB names x .local||kindB names x .cell)
structure qA(names ks:List (Str×NameKind))(own N2 N:List Str):Prop where
 fr:∀y,(y,NameKind.free)∈names->ks.lookup y=some .cell∨ks.lookup y=some .free
 nd:(names.map (·.1)).Nodup
 Mc:(own++N2).Nodup
 owns:∀y k,(y,k)∈names->k= .local∨k= .cell->y∈own∨y=(".0":Str)
 zip:∀(j:Nat)(y:Str),N2[j]?=some y->(N[j]?=some y/\y≠(".0":Str))∨names.lookup y=none
 len:N2.length=N.length
 own:∀x∈own,names.lookup x=some .local∨names.lookup x=some .cell
theorem j7{names ks:List (Str×NameKind)}{own N2 N:List Str}(h:AV names ks own N2 N=true):qA names ks own N2 N:=by
 unfold AV at h
 simp only[Bool.and_eq_true]at h
 obtain⟨⟨⟨⟨⟨h1,h2⟩,h3⟩,h4⟩,h5⟩,h6⟩:=h
 refine⟨λy hy=> ?_,pM h2,pM h3,λy k hy hk=> ?_,λj y e=> ?_,AS h5,λx hx=> ?_⟩
 ·have q:=List.all_eq_true.mp h1 _ hy
  simp only[Bool.or_eq_true]at q
  rcases q with(q|q)|q
  ·exact absurd q (by simp)
  ·exact .inl (by simpa [kindB]using q)
  ·exact .inr (by simpa [kindB]using q)
 ·have q:=List.all_eq_true.mp h4 _ hy
  simp only[Bool.or_eq_true]at q
  rcases q with(q|q)|q
  ·rcases hk with rfl|rfl<;>simp at q
  ·exact .inl (List.contains_iff_mem.mp q)
  ·exact .inr (by simpa using q)
 ·obtain⟨z,e1,e2⟩:=AU h5 j y e
  simp only[Bool.or_eq_true,Bool.and_eq_true]at e2
  rcases e2 with⟨e2,e3⟩|e2
  ·exact .inl ⟨by rw[e1,beq_iff_eq.mp e2],by simpa using e3⟩
  ·exact .inr (by simpa using e2)
 ·have q:=List.all_eq_true.mp h6 _ hx
  simp only[Bool.or_eq_true]at q
  rcases q with q|q
  ·exact .inl (by simpa [kindB]using q)
  ·exact .inr (by simpa [kindB]using q)
theorem cu{α:Type}:∀{l:List (Str×α)}{y:Str}{k:α},(l.map (·.1)).Nodup->(y,k)∈l->l.lookup y=some k
 |(z,v)::r,y,k,nd,h=>by
  rw[List.map_cons,List.nodup_cons]at nd
  rw[List.lookup_cons]
  rcases List.mem_cons.mp h with e|h'
  ·cases e;simp
  ·have:(y==z)=false:=by
    cases e:y==z with
    |false=>rfl
    |true=>
     have e':y=z:=beq_iff_eq.mp e
     have q:y∈r.map (λx=>x.1):=List.mem_map.mpr ⟨(y,k),h',rfl⟩
     exact absurd (by rw[<-e'];exact q) nd.1
   rw[this]
   exact cu nd.2 h'
theorem jN{sc:Scope}{env:Env}{y:Str}:∀{ns:List (Str×NameKind)},
  (ns.map λ (n,k)=>if(k==NameKind.free && env.scope.kind== .function && env.kindOf n==some .cell)then(n,NameKind.cell)else(n,k)).lookup y=
   (ns.lookup y).map λk=>if(k==NameKind.free && env.scope.kind== .function && env.kindOf y==some .cell)then .cell else k
 | []=>rfl
 |(n,k)::r=>by
  have ih:= @jN sc env y r
  rw[List.map_cons,List.lookup_cons]
  show List.lookup y ((if(k==NameKind.free && env.scope.kind== .function && env.kindOf n==some .cell)=true then(n,NameKind.cell)else(n,k))::_)=_
  cases hx:y==n with
  |true=>
   have e:y=n:=beq_iff_eq.mp hx
   subst e
   by_cases hc:(k==NameKind.free && env.scope.kind== .function && env.kindOf y==some .cell)=true
   ·rw[if_pos hc]
    simp only[List.lookup_cons,hx,Option.map_some,if_pos hc]
   ·rw[if_neg hc]
    simp only[List.lookup_cons,hx,Option.map_some,if_neg hc]
  |false=>
   by_cases hc:(k==NameKind.free && env.scope.kind== .function && env.kindOf n==some .cell)=true
   ·rw[if_pos hc];simp only[List.lookup_cons,hx];exact ih
   ·rw[if_neg hc];simp only[List.lookup_cons,hx];exact ih
noncomputable def Cx.comp(X:Cx)(sc:Scope)(N':List Str)(s:Shared)(H:Hp)(fp:List Addr):Cx:=
 {X with
  N:=N'
  s₀:=s
  H₀:=H
  env:=compEnvC sc (cellsFrom (s.heap.objs.size+2) sc.names (cz X.env sc.names [])) (s.heap.objs.size+1) X.env
  outer:=X.stack
  ex:=fp
  fn:=λy=>sc.names.lookup y==some .cell
  pn:=[]
  xe:=λ_ _=>False}
section
variable{X:Cx}{pins:List (Addr×Obj)}{σ:St}{H:Hp}{s:Shared}{sc:Scope}{own N2:List Str}{fp:List Addr}
theorem j8(I:Inv X pins σ H s)(B:qA sc.names X.env.scope.names own N2 X.N):∀y,(y,NameKind.free)∈sc.names-> ∃c,X.env.cells.lookup y=some c:=λy hy=>by
 rcases B.fr y hy with q|q
 ·exact I.ok.has y (.inl q)
 ·exact I.ok.has y (.inr q)
theorem oJ(I:Inv X pins σ H s)(B:qA sc.names X.env.scope.names own N2 X.N):closureFor sc X.env=pure (cz X.env sc.names []):=
 xj λy hy hk=>by
  obtain⟨c,e⟩:=j8 I B y.1 (by rw[<-hk];exact hy)
  rw[e];rfl
theorem jg(I:Inv X pins σ H s)(B:qA sc.names X.env.scope.names own N2 X.N){n:Nat}{y:Str}{c:Addr}(h:(y,c)∈cellsFrom n sc.names (cz X.env sc.names [])):
  (n<=c/\(y,NameKind.cell)∈sc.names)∨((y,NameKind.free)∈sc.names/\X.env.cells.lookup y=some c):=by
 rcases kY h with h|h
 ·rcases j6 h with h|⟨h,e⟩
  ·cases h
  ·obtain⟨c',e'⟩:=j8 I B y h
   rw[e']at e
   exact .inr ⟨h,by rw[e',e];rfl⟩
 ·exact .inl h
theorem mC(I:Inv X pins σ H s)(B:qA sc.names X.env.scope.names own N2 X.N){n:Nat}{y:Str}{c:Addr}(hy:(y,NameKind.free)∈sc.names)(hc:X.env.cells.lookup y=some c):
  (cellsFrom n sc.names (cz X.env sc.names [])).lookup y=some c:=by
 rw[gx,kX (.inr hy),hc]
 ·rfl
 ·intro q
  have e1:=cu B.nd hy
  rw[cu B.nd q]at e1
  cases e1
theorem Gr(I:Inv X pins σ H s)(B:qA sc.names X.env.scope.names own N2 X.N){n:Nat}(hn:s.heap.objs.size<=n){x y:Str}{c:Addr}(h1:(x,c)∈cellsFrom n sc.names (cz X.env sc.names []))
  (h2:(y,c)∈cellsFrom n sc.names (cz X.env sc.names [])):x=y:=by
 have old:∀z c,(z,c)∈cz X.env sc.names [] ->X.env.cells.lookup z=some c:=λz c hm=>by
  rcases j6 hm with h|⟨h,e⟩
  ·cases h
  ·obtain⟨c',e'⟩:=j8 I B z h
   rw[e']at e
   rw[e',e];rfl
 refine kZ (λx y c h1 h2=>I.ok.inj x y c (old _ _ h1) (old _ _ h2)) (λz c hm=> ?_) x y c h1 h2
 obtain⟨v,q⟩:=I.cell z c (old _ _ hm)
 exact Nat.lt_of_lt_of_le q.lt hn
theorem zv(I:Inv X pins σ H s)(B:qA sc.names X.env.scope.names own N2 X.N){n:Nat}{env':Env}{h':Heap}{m:Str->Option Value}{j:Nat}{y:Str}{v:V}(hN:N2[j]?=some y)(hs:σ[j]?=some (some v))
  (hcl:env'.cells=cellsFrom n sc.names (cz X.env sc.names []))(hkd:∀y,(y,NameKind.free)∈sc.names->env'.kindOf y=some .cell∨env'.kindOf y=some .free)
  (hin:NG env'.scope y-> ∃k,sc.names.lookup y=some k)(hown:y∉own)
  (keep:∀b o,s.heap.get? b=some o->h'.get? b=some o)(hv:NG env'.scope y)(hk2:∀k,sc.names.lookup y=some k->k= .local∨k= .cell∨k= .free):∃u,RelV v u/\Look env' h' m y u:=by
 obtain⟨k,hk⟩:=hin hv
 rcases B.zip j y hN with⟨e,n0⟩|e
 ·have hm:=mem_of_lookup hk
  have kf:k= .free:=by
   rcases hk2 k hk with z|z|z
   ·rcases B.owns y k hm (.inl z)with q|q
    ·exact absurd q hown
    ·exact absurd q n0
   ·rcases B.owns y k hm (.inr z)with q|q
    ·exact absurd q hown
    ·exact absurd q n0
   ·exact z
  subst kf
  have hX:NG X.env.scope y:=by
   rcases B.fr y hm with q|q
   ·exact .inr (.inl q)
   ·exact .inr (.inr q)
  obtain⟨m0,_,hl⟩:=I.loc
  obtain⟨u,r,l⟩:=hl j y v e hs hX
  refine⟨u,r,.inr ⟨hkd y hm,?_⟩⟩
  rcases l with⟨kl,_⟩|⟨_,c,hc,z⟩
  ·rcases B.fr y hm with q|q
   ·have RP:X.env.scope.names.lookup y=some .local:=kl
    rw[q]at RP;cases RP
   ·have RP:X.env.scope.names.lookup y=some .local:=kl
    rw[q]at RP;cases RP
  ·exact⟨c,by rw[hcl];exact mC I B hm hc,z.keeps keep⟩
 ·rw[hk]at e;cases e
end
theorem iy{M:Model}{A:Around}{E:Value->Shared->Prop}{s:Shared}{sc:Scope}{g:Addr}{cl:List (Str×Addr)}{qual:Str}{env:Env}{Q:Env->Shared->Prop}
  (h:Q {scope:=sc,locals:=s.heap.objs.size,globals:=g,cells:=cellsFrom (s.heap.objs.size+1) sc.names cl,qual:=qual,func:=none,code:=env.code,frame:=env.frame,builtins:=env.builtins}
   {s with heap:=pushCells (s.heap.push {cls:= .type "dict",data:= .dict #[]}) sc.names}):
  wpAny M A (newFunctionEnv sc g cl [] qual none .none (some env)) Q E s:=by
 simp only[newFunctionEnv,Option.isSome_some,if_true]
 refine wpAny_bind (wpAny_alloc ?_)
 refine wpAny_bind (wpAny_layCells _ (λname kind cells=>by cases hkc:kind==NameKind.cell<;>simp[hkc]) _ _ _ _ ?_)
 rw[show({s with heap:=s.heap.push {cls:= .type "dict",data:= .dict #[]}}:Shared).heap.objs.size=s.heap.objs.size+1 from Heap.size_push ..]
 simp only[List.forIn_nil]
 exact wpAny_bind (wpAny_pure (wpAny_pure h))
section
variable{X:Cx}{pins:List (Addr×Obj)}{σ:St}{H:Hp}{s:Shared}{sc:Scope}{own N2:List Str}{fp:List Addr}
theorem vn{env:Env}{y:Str}(hv:NG (relabel sc env) y):∃k,sc.names.lookup y=some k/\(k= .local∨k= .cell∨k= .free):=by
 have q:∀k,(relabel sc env).names.lookup y=some k->(k= .local∨k= .cell∨k= .free) -> ∃k,sc.names.lookup y=some k/\(k= .local∨k= .cell∨k= .free):=λk e hk=>by
  have e':=(jN (sc:=sc) (env:=env) (y:=y) (ns:=sc.names)).symm.trans e
  cases z:sc.names.lookup y with
  |none=>rw[z]at e';cases e'
  |some k0=>
   rw[z]at e'
   simp only[Option.map_some,Option.some.injEq]at e'
   refine⟨k0,rfl,?_⟩
   split at e'
   ·rename_i hc
    simp only[Bool.and_eq_true]at hc
    exact .inr (.inr (by simpa using hc.1.1))
   ·rw[e'];exact hk
 rcases hv with e|e|e
 ·exact q _ e (.inl rfl)
 ·exact q _ e (.inr (.inl rfl))
 ·exact q _ e (.inr (.inr rfl))
theorem kind_free(B:qA sc.names X.env.scope.names own N2 X.N){env:Env}{y:Str}(hy:(y,NameKind.free)∈sc.names):(relabel sc env).names.lookup y=some .cell∨(relabel sc env).names.lookup y=some .free:=by
 have e:=jN (sc:=sc) (env:=env) (y:=y) (ns:=sc.names)
 rw[cu B.nd hy]at e
 simp only[Option.map_some]at e
 split at e
 ·exact .inl e
 ·exact .inr e
theorem j9{env:Env}{y:Str}{k:NameKind}(hy:sc.names.lookup y=some k)(hk:k= .local∨k= .cell):(relabel sc env).names.lookup y=some k:=by
 have e:=jN (sc:=sc) (env:=env) (y:=y) (ns:=sc.names)
 rw[hy]at e
 simp only[Option.map_some]at e
 rcases hk with rfl|rfl
 ·exact e
 ·exact e
theorem Me(I:Inv X pins σ H s)(B:qA sc.names X.env.scope.names own N2 X.N)(hk:sc.kind= .function)(hf:∀b∈fp,fW X pins H b)(ho:∀b∈fp,∃o,s.heap.get? b=some o):(X.comp sc (own++N2) s H fp).Ok:=by
 have lt:∀b∈fp,b<s.heap.objs.size:=λb hb=>let⟨o,e⟩:=ho b hb;Heap.lt_size e
 have jK:∀y c,(cellsFrom (s.heap.objs.size+2) sc.names (cz X.env sc.names [])).lookup y=some c->(s.heap.objs.size+2<=c/\(y,NameKind.cell)∈sc.names)∨((y,NameKind.free)∈sc.names/\X.env.cells.lookup y=some c):=
  λy c h=>jg I B (mem_of_lookup h)
 refine⟨I.ok.mod,hk,I.ok.glob,I.ok.blt,Nat.le_succ _,λx y c h1 h2=> ?_,λy hy=> ?_,λy c hy hc=> ?_,I.ok.hd,I.ok.frames,.inl rfl,λb hb=>⟨?_,λy c hc=> ?_⟩,I.bs,Nat.le_trans I.ok.LL I.sz,λb o e hb=> ?_,λb hb hs=> ?_,I.stack,I.uA⟩
 ·exact Gr I B (by omega) (mem_of_lookup h1) (mem_of_lookup h2)
 ·have hy':(relabel sc X.env).names.lookup y=some .cell∨(relabel sc X.env).names.lookup y=some .free:=hy
  obtain⟨k,e,Mf⟩:=vn (env:=X.env) (y:=y) (sc:=sc) (by rcases hy' with q|q;exact .inr (.inl q);exact .inr (.inr q))
  rcases Mf with rfl|rfl|rfl
  ·have:=j9 (env:=X.env) e (.inl rfl)
   rcases hy' with q|q
   ·rw[q]at this;cases this
   ·rw[q]at this;cases this
  ·exact Option.isSome_iff_exists.mp (PySem.W.cellsFrom_some sc.names _ _ (.inl e))
  ·obtain⟨c,hc⟩:=j8 I B y (mem_of_lookup e)
   exact⟨c,mC I B (mem_of_lookup e) hc⟩
 ·have hy':sc.names.lookup y=some .cell:=by
   have q:(sc.names.lookup y==some NameKind.cell)=true:=hy
   simpa using q
  rcases jK y c hc with⟨q,_⟩|⟨q,_⟩
  ·show s.heap.objs.size<=c
   omega
  ·rw[cu B.nd q]at hy';cases hy'
 ·exact Nat.ne_of_lt (Nat.lt_succ_of_lt (lt b hb))
 ·have hl:=lt b hb
  rcases jK y c hc with⟨q,_⟩|⟨_,q⟩
  ·exact Nat.ne_of_gt (Nat.lt_of_lt_of_le hl (Nat.le_trans (Nat.le_add_right _ 2) q))
  ·exact(hf b hb).2.2.2.2.1 y c q
 ·rcases(hf b hb).2.2.2.1 with z|z
  ·exact I.ok.Ga b o e z
  ·exact absurd (Nat.lt_of_lt_of_le (Heap.lt_size (I.ok.bs b o e).1) z) (Nat.lt_irrefl _)
 ·rcases List.mem_cons.mp (I.uO b hs)with e|e
  ·exact(hf b hb).2.1 e
  ·exact(hf b hb).2.2.1 e
theorem vp(I:Inv X pins σ H s)(B:qA sc.names X.env.scope.names own N2 X.N)(hk:sc.kind= .function)(hf:∀b∈fp,fW X pins H b)(ho:∀b∈fp,∃o,s.heap.get? b=some o):
  Inv (X.comp sc (own++N2) s H fp) [] (List.replicate own.length none++σ) (upd H s.heap.objs.size (.lst []))
   {s with heap:=pushCells ((s.heap.push {cls:= .type "list",dict:=none,data:= .seq ([]:List Value).toArray}).push {cls:= .type "dict",data:= .dict #[]}) sc.names}:=by
 have k1:∀b o,(s.heap.push {cls:= .type "list",dict:=none,data:= .seq ([]:List Value).toArray}).get? b=some o->
   (pushCells ((s.heap.push {cls:= .type "list",dict:=none,data:= .seq ([]:List Value).toArray}).push {cls:= .type "dict",data:= .dict #[]}) sc.names).get? b=some o:=
  λb o e=>pushCells_keeps _ _ b o (Heap.get?_push_of_some _ e)
 have k0:∀b o,s.heap.get? b=some o->
   (pushCells ((s.heap.push {cls:= .type "list",dict:=none,data:= .seq ([]:List Value).toArray}).push {cls:= .type "dict",data:= .dict #[]}) sc.names).get? b=some o:=
  λb o e=>k1 b o (Heap.get?_push_of_some _ e)
 have sz:((s.heap.push {cls:= .type "list",dict:=none,data:= .seq ([]:List Value).toArray}).push {cls:= .type "dict",data:= .dict #[]}).objs.size=s.heap.objs.size+2:=by rw[Heap.size_push,Heap.size_push]
 have jK:∀y c,(cellsFrom (s.heap.objs.size+2) sc.names (cz X.env sc.names [])).lookup y=some c->(s.heap.objs.size+2<=c/\(y,NameKind.cell)∈sc.names)∨((y,NameKind.free)∈sc.names/\X.env.cells.lookup y=some c):=
  λy c h=>jg I B (mem_of_lookup h)
 have IS:∀b,s.heap.objs.size<b->upd H s.heap.objs.size (.lst []) b=none:=λb hb=>by
  rw[aG (Nat.ne_of_gt hb)]
  exact I.hok.fresh (Nat.le_of_lt hb)
 refine⟨Me I B hk hf ho,rfl,.refl I.bare.bare,Un.laid k0 (Nat.le_refl _) I.fresh,⟨λ_=>none,?_,λi y v e1 e2 e3=> ?_⟩,λy c hc=> ?_,IS _ (Nat.lt_succ_self _),λy c hc=> ?_,λp hp=> ?_,I.hok.laid k0 (Nat.le_refl _) ?_,?_⟩
 ·have:=Heap.Ns.new (s.heap.push {cls:= .type "list",dict:=none,data:= .seq ([]:List Value).toArray}) (.type "dict")
  rw[Heap.size_push]at this
  exact this.keeps (pushCells_keeps _ _)
 ·by_cases hi:i<own.length
  ·rw[List.getElem?_append_left (by simpa using hi),List.getElem?_replicate]at e2
   split at e2<;>cases e2
  ·have AW:(own++N2)[i]?=some y:=e1
   have hi':own.length<=i:=by omega
   rw[List.getElem?_append_right (by simpa using hi'),List.length_replicate]at e2
   rw[List.getElem?_append_right hi']at AW
   have hown:y∉own:=λhm=>by
    have nd:=B.Mc
    rw[List.nodup_append]at nd
    exact nd.2.2 y hm y (List.mem_of_getElem? AW) rfl
   refine zv I B (n:=s.heap.objs.size+2) AW e2 rfl (λz hz=>kind_free B hz) (λhv=>let⟨k,e,_⟩:=vn hv;⟨k,e⟩) hown k0 e3 (λk e=> ?_)
   obtain⟨k',e',hk'⟩:=vn (sc:=sc) e3
   rw[e]at e';cases e'
   exact hk'
 ·rcases jr sc.names ((s.heap.push {cls:= .type "list",dict:=none,data:= .seq ([]:List Value).toArray}).push {cls:= .type "dict",data:= .dict #[]}) (cz X.env sc.names []) y c (by rw[sz];exact mem_of_lookup hc)with q|q
  ·rcases j6 q with z|⟨z,e⟩
   ·cases z
   ·obtain⟨c',e'⟩:=j8 I B y z
    rw[e']at e
    have e2:c=c':=e
    subst e2
    obtain⟨v,w⟩:=I.cell y c e'
    exact⟨v,w.keeps k0⟩
  ·exact⟨none,q⟩
 ·rcases jK y c hc with⟨q,_⟩|⟨_,q⟩
  ·exact IS c (by omega)
  ·obtain⟨v,w⟩:=I.cell y c q
   rw[aG (Nat.ne_of_lt w.lt)]
   exact I.nH y c q
 ·have l9:p∈([]:List (Addr×Obj)):=hp
  cases l9
 ·exact⟨Nat.zero_le _,[],0,.nil,k1 _ _ (Heap.get?_push_size _ rfl)⟩
 ·show(List.replicate own.length none++σ).length=(own++N2).length
  rw[List.length_append,List.length_append,List.length_replicate,I.len,B.len]
theorem Inv.CP{σ':St}{H':Hp}{s':Shared}{N':List Str}(I:Inv X pins σ H s)(hf:∀b∈fp,fW X pins H b)(J:Inv (X.comp sc N' s H fp) [] σ' H' s'):Inv X pins σ H' s':=
 I.Ig (ch:=fp) J.os J.base J.hok J.bare λb hb=>⟨(hf b hb).2.2.2.1,(hf b hb).2.1,(hf b hb).2.2.2.2.1,(hf b hb).2.2.2.2.2⟩
end
section
variable{prog:Program}{w:World}{A:Around}{R:Result->Shared->Prop}{s:Shared}
theorem nN{elt target iter:Expr}{scope:Scope}{pos:Pos}{it acc:Value}{env:Env}(I:Nat->Shared->Prop)
  (turn:∀n s,I n s->wpAny (model prog w) A (pyNext it) (λr s₁=>match r with
   |none=>R (.ok .next) s₁
   |some v=>wpAny (model prog w) A (letOwnedTupleGo target it v) (λ_ s₁'=>wpAny (model prog w) A (assign target env v) (λ_ s₂=>wpAny (model prog w) A (eval elt env) (λx s₃=>
     wpAny (model prog w) A (call (.builtin "list.append") [acc,x]) (λ_ s₄=> ∃m,m<n/\I m s₄) (λ_ _=>False) s₃)
     (λ_ _=>False) s₂) (λ_ _=>False) s₁') (λ_ _=>False) s₁) (λ_ _=>False) s)
  (n:Nat)(h:I n s):
  codeAny (model prog w) A (.compLoop (.ListComp elt [⟨target,iter,[],0⟩] scope pos) 0 it acc env) R s:=by
 refine codeAny_loop rfl I (λn s hI=> ?_) n h
 show wpAny _ _ ((compTurn (.ListComp elt [⟨target,iter,[],0⟩] scope pos) 0 it acc env).onRaise (λx=>do noteFrame x env;theTreesLotGoes x)) _ _ s
 refine wpAny_noted ?_
 rw[compTurn_list1]
 refine wpAny_bind (wpAny_standAt (wpAny_bind (wpAny_mono (turn n s hI) (λr s₁ h₁=> ?_) λ_ _ h'=>h'.elim)))
 cases r with
 |none=>exact wpAny_pure h₁
 |some v=>
  exact wpAny_bind (wpAny_mono h₁ (λ_ s₁' h₁'=>wpAny_bind (wpAny_mono h₁' (λ_ s₂ h₂=>wpAny_bind (wpAny_bind (wpAny_mono h₂ (λx s₃ h₃=>wpAny_bind (wpAny_mono h₃
   (λ_ s₄ h₄=>wpAny_pure (wpAny_pure ⟨rfl,h₄⟩)) λ_ _ h'=>h'.elim)) λ_ _ h'=>h'.elim))) λ_ _ h'=>h'.elim)) λ_ _ h'=>h'.elim)
end
noncomputable def nQ(k:Nat)(g:TG)(te:TE)(σ:St)(J:It)(H1:Hp)(D:Addr)(Q:VK):Prop:=∃W:Nat->Nat->List V->St->Hp->Prop,(∃m,W 0 m [] (List.replicate k none++σ) (upd H1 D (.lst [])))/\
 ∀i m acc σ' H',W i m acc σ' H'->(J.stop i H'/\H' D=some (.lst acc)/\Q (.ref D) H')∨
  (J.go i H'/\acc.length<sizeLine/\ ∀x H2,J.AD i H' x H2->g x σ' H2 λσ3 H3=>te σ3 H3 λv H4=>H4 D=some (.lst acc)/\ ∃m',m'<m/\W (i+1) m' (acc++ [v]) σ3 (upd H4 D (.lst (acc++ [v]))))
noncomputable def tP(k:Nat)(wi:TI)(g:TG)(te:TE):TE:=λσ H Q=>wi σ H λJ H1=> ∀D,H1 D=none->nQ k g te σ J H1 D Q
section
variable{X:Cx}{sc:Scope}{own N2:List Str}
theorem CQ{elt iter tg:Expr}{pos IT:Pos}{wi:TI}{g:TG}{te:TE}{use:Option (Value->Sem Unit)}{Qf:Value->Shared->Prop}(hc:X.calm=true)(hi:PI X tg iter wi)(B:qA sc.names X.env.scope.names own N2 X.N)(hk:sc.kind= .function)
  (hg:∀s H fp,PG (X.comp sc (own++N2) s H fp) tg g)(he:∀s H fp,PE (X.comp sc (own++N2) s H fp) elt te)
  (hs:∀x,foldedSetIterable iter X.env x=pure x){pins:List (Addr×Obj)}{s0:Shared}{σ:St}{H0:Hp}{Q:VK}(I0:Inv X pins σ H0 s0)(h0:tP own.length wi g te σ H0 Q)
  (IU:∀s H fp,Inv X pins σ H s->(∀b∈fp,fW X pins H b) -> ∀(σ':St)(H':Hp)(s':Shared),Inv (X.comp sc (own++N2) s H fp) [] σ' H' s'->Q (.ref s.heap.objs.size) H'->
   compPost (model X.prog X.w) X.A X.xe use Qf (.ref s.heap.objs.size) (s.heap.objs.size+1) (.ok .next) s'):
  wpAny (model X.prog X.w) X.A (comprehension (.ListComp elt [⟨tg,iter,[],0⟩] sc pos) sc X.env IT (newList []) false (eval iter X.env) use) Qf X.xe s0:=by
 refine wpAny_comprehension_free (use:=use) rfl hs (oJ I0 B) hk (λy hy hl=>cu B.nd (by rw[<-hl];exact hy)) ?_
 refine wpAny_mono (hi pins s0 σ H0 _ I0 h0) (λv s1 h1=>wpAny_mono h1 (λitv s h2=> ?_) λ_ _ e=>e) λ_ _ e=>e
 obtain⟨it,fp,tn,J,H,e,I,T,st,hf,rd⟩:=h2
 subst e
 have ho:∀b∈fp,∃o,s.heap.get? b=some o:=λb hb=>let⟨o,e,_⟩:=T.obj 0 _ st b hb;⟨o,e⟩
 obtain⟨W,⟨m0,w0⟩,turn⟩:=rd s.heap.objs.size I.fresh
 refine wpAny_newObj_type ?_
 refine iy ?_
 have IB:=vp I B hk hf ho
 have Mh:∀{H':Hp},(∀b∈fp,H' b=none) -> ∀b∈fp,fW (X.comp sc (own++N2) s H fp) [] H' b:=λhn b hb=>by
  have ok:=IB.ok
  refine⟨hn b hb,(ok.Ls b hb).1,ok.AH b hb,.inl hb,λy c hc=>(ok.Ls b hb).2 y c hc,λp hp=> ?_⟩
  have l9:p∈([]:List (Addr×Obj)):=hp
  cases l9
 have lt:∀b∈fp,b≠s.heap.objs.size:=λb hb=>let⟨o,e⟩:=ho b hb;Nat.ne_of_lt (Heap.lt_size e)
 have fin:=IU s H fp I hf
 have loop:∀s3:Shared,s3={s with heap:=pushCells ((s.heap.push {cls:= .type "list",dict:=none,data:= .seq ([]:List Value).toArray}).push {cls:= .type "dict",data:= .dict #[]}) sc.names} ->
   codeAny (model X.prog X.w) X.A (.compLoop (.ListComp elt [⟨tg,iter,[],0⟩] sc pos) 0 (.ref it) (.ref s.heap.objs.size) (X.comp sc (own++N2) s H fp).env)
    (compPost (model X.prog X.w) X.A X.xe use Qf (.ref s.heap.objs.size) (s.heap.objs.size+1)) s3:=by
  rintro s3 rfl
  refine nN (λn s'=> ∃i acc σ' H',Inv (X.comp sc (own++N2) s H fp) [] σ' H' s'/\tn i s'.heap/\(∀b∈fp,H' b=none)/\W i n acc σ' H') ?_ m0
   ⟨0,[],_,_,IB,T.keep _ _ _ st λb _ o e=>pushCells_keeps _ _ b o (Heap.get?_push_of_some _ (Heap.get?_push_of_some _ e)),λb hb=> ?_,w0⟩
  ·rintro n s3 ⟨i,acc,σ3,H3,I3,st3,yd,w3⟩
   rcases turn i n acc σ3 H3 w3 with⟨stop,hD,qn⟩|⟨go,hz,step⟩
   ·refine fZ (T.done (X.comp sc (own++N2) s H fp) rfl rfl rfl hc i [] s3 σ3 H3 _ I3 (Mh yd) st3 stop) λr s4 ⟨hr,I4⟩=> ?_
    subst hr
    exact fin σ3 H3 s4 I4 qn
   ·refine fZ (T.item (X.comp sc (own++N2) s H fp) rfl rfl rfl hc i [] s3 σ3 H3 _ I3 (Mh yd) st3 go) λr s4 ⟨u,hr,h4⟩=> ?_
    subst hr
    refine fZ h4 λ_ s5 ⟨x,H5,I5,r5,y5,AL,OL⟩=> ?_
    have OM:=I5.pinned (Mh OL) (T.obj _ _ AL)
    refine fZ (hg s H fp _ s5 σ3 H5 x u _ OM r5 (step x H5 y5)) λ_ s6 ⟨EI,H6,I6,q6⟩=> ?_
    refine fZ (he s H fp _ s6 EI H6 _ I6 q6) λv s7 ⟨y,H7,I7,r7,RQ,m',hm',w7⟩=> ?_
    refine fZ (jU _ s7 EI H7 (.ref s.heap.objs.size) [y] (.ref s.heap.objs.size) [v] (λz H8=>z= .gK/\H8=upd H7 s.heap.objs.size (.lst (acc++ [y]))) I7 rfl (.cons r7 .nil) ⟨s.heap.objs.size,acc,y,rfl,rfl,RQ,hz,rfl,rfl⟩) λz s8 ⟨zz,H8,I8,_,_,e8⟩=> ?_
    subst e8
    refine⟨m',hm',i+1,acc++ [y],EI,_,I8.jf,T.keep _ _ _ AL λb hb o e=>(I8.pin (b,o) (List.mem_append_right _ (List.mem_append_right _ (cG hb e)))).1,λb hb=> ?_,w7⟩
    obtain⟨o,e,d⟩:=T.obj _ _ AL b hb
    exact(I8.pin (b,o) (List.mem_append_right _ (List.mem_append_right _ (cG hb e)))).2.1
  ·rw[aG (lt b hb)]
   exact(hf b hb).1
 have e1:(s.heap.push {cls:= .type "list",dict:=none,data:= .seq ([]:List Value).toArray}).objs.size=s.heap.objs.size+1:=Heap.size_push ..
 dsimp only
 rw[e1]
 exact codeAny_compStart_list (loop _ rfl) (T.self _ 0 _ _ _ (T.keep _ _ _ st λb _ o e=>pushCells_keeps _ _ b o (Heap.get?_push_of_some _ (Heap.get?_push_of_some _ e))) (loop _ rfl))
theorem Inv.IV{pins:List (Addr×Obj)}{σ σ1:St}{H H1:Hp}{s s1:Shared}{h':Heap}(I:Inv X pins σ H s)(I1:Inv X pins σ1 H1 s1)(hn:H1 (s.heap.objs.size+1)=none)(sb:Heap.SameBut (s.heap.objs.size+1) s1.heap h'):Inv X pins σ1 H1 {s1 with heap:=h'}:=by
 have ne:∀b o,s.heap.get? b=some o->b≠s.heap.objs.size+1:=λb o e=>Nat.ne_of_lt (Nat.lt_succ_of_lt (Heap.lt_size e))
 refine I1.turned (it:=s.heap.objs.size+1) (t':=s1.toks) (λb o hb e=>(sb.2 b hb).trans e) hn (Nat.ne_of_gt (Nat.lt_succ_of_lt I.lt)) (.inr (Nat.le_succ_of_le I.sz)) (λy c e=> ?_) (λp hp=>ne _ _ (I.pin p hp).1)
 obtain⟨v,w⟩:=I.cell y c e
 exact Nat.ne_of_lt (Nat.lt_succ_of_lt w.lt)
theorem AX{elt iter tg:Expr}{pos:Pos}{wi:TI}{g:TG}{te:TE}(hc:X.calm=true)(hi:PI X tg iter wi)(B:qA sc.names X.env.scope.names own N2 X.N)(hk:sc.kind= .function)
  (hg:∀s H fp,PG (X.comp sc (own++N2) s H fp) tg g)(he:∀s H fp,PE (X.comp sc (own++N2) s H fp) elt te)
  (hs:∀x,foldedSetIterable iter X.env x=pure x:=by intro _;rfl):PE X (.ListComp elt [⟨tg,iter,[],0⟩] sc pos) (tP own.length wi g te):=by
 intro pins s0 σ H0 Q I0 h0
 rw[eval_ListComp]
 refine CQ (use:=none) hc hi B hk hg he hs I0 h0 λs H fp I hf σ' H' s' JB q=> ?_
 obtain⟨m,hn,_⟩:=JB.loc
 exact⟨m,hn,λh' sb=>⟨.ref s.heap.objs.size,H',I.IV (I.CP hf JB) JB.free sb,rfl,q⟩⟩
end
noncomputable def fE(P:Addr):HO:= .ext λh=> ∃ps:Array Value,h.get? P=some {cls:= .none,data:= .fields ps}/\TriplesOk ps.toList
structure gP(K:PySem.W.Frag)(cd:Value)(P:Addr):Prop where
 ex:∃(c:Addr)(o:Obj)(vs:Array Value)(file:Str)(tf:Tok)(flags:Int)(tg:Tok)(Pa:Bool)(text:Int)(tt:Tok),cd= .ref c/\K.lookup c=some o/\o.cls= .type "code"/\o.data= .fields vs/\vs[11]?=some (.ref P)/\
  vs.getD 18 .none= .str file tf/\vs.getD 7 .none= .int flags tg/\vs.getD 9 .none= .bool Pa/\vs.getD 10 .none= .int text tt
theorem IW{P:Program}{w:World}{H:Hp}{h:Heap}{T:Addr}{ps:Array Value}(e:h.get? T=some {cls:= .none,data:= .fields ps})(t:TriplesOk ps.toList):f6 P w H h T (fE T):=
 ⟨⟨ps,e,t⟩,⟨_,e⟩,λh1 h2 ⟨qs,e1,t1⟩ k=>⟨qs,k _ e1,t1⟩⟩
theorem IX{H:Hp}{a:Addr}{o:HO}(h:H a=some o):upd H a o=H:=by
 funext b
 unfold upd
 split
 ·rename_i e;rw[e,h]
 ·rfl
section
variable{X:Cx}{pins:List (Addr×Obj)}{σ:St}{H:Hp}{s:Shared}{P:Addr}
theorem CS{pos:Pos}{qn:Str}{sc:Scope}{Q:Value->Shared->Prop}{E:Value->Shared->Prop}{M:Model}{A:Around}(I:Inv X pins σ H s)(hcd:gP X.K X.env.code P)(hP:H P=some (fE P))
  (h:∀code h' tk,Inv X pins σ H {s with heap:=h',toks:=tk} ->Heap.ExtBut P s.heap h'->Q code {s with heap:=h',toks:=tk}):wpAny M A (genexprCode X.env pos qn sc) Q E s:=by
 obtain⟨c,o,vs,file,tf,flags,tg,Pa,text,tt,ec,hc,hcl,hd,h11,RS,h7,h9,RT⟩:=hcd.ex
 obtain⟨⟨ps,eP,tr⟩,_,_⟩:=I.hok P _ hP
 have hcs:s.heap.get? c=some o:=I.x8 c o hc
 have hcn:H c=none:=(I.bs c o (I.ok.mod.LK c o hc)).2
 have ne:c≠P:=λe=>by rw[e,hP]at hcn;cases hcn
 have Pb:vs.getD 11 .none= .ref P:=by
  have:vs.getD 11 .none=(vs[11]?).getD .none:=by simp
  rw[this,h11];rfl
 have code:s.heap.IsCode c P ps:=⟨o,vs,file,tf,flags,tg,Pa,text,tt,_,hcs,hd,Pb,RS,h7,h9,RT,eP,rfl,tr,ne⟩
 have tab:s.heap.TableAt c P ps:=⟨⟨o,vs,hcs,hcl,hd,h11⟩,eP⟩
 cases q:codeAmong pos ps.toList with
 |some c'=>exact wpAny_genexprCode_hit ec code q (h c' s.heap s.toks I (λ_ _ _ e=>e))
 |none=>
  refine wpAny_genexprCodeX ec code tab q λc' h' tk hx _ _ Pc _ IY _=>h _ h' tk ?_ hx
  have I':=I.write (x:=P) (e:=P) (o:=fE P) (h':=h') (t':=tk) (by rw[hP];exact trivial) (.inl rfl) (λb u hb e=>hx b u hb e) ⟨_,IY.2⟩
   (IW IY.2 (by obtain⟨_,_,_,_,_,_,_,_,_,op,_,_,_,_,_,_,_,e1,e2,e3,_⟩:=Pc;rw[IY.2]at e1;cases e1;exact e3))
  rw[IX hP]at I'
  exact I'
end
noncomputable def BM(mg:Str->Option Value)(base:Heap):Prop:=∃bm ob,mg "__builtins__"=some (.ref bm)/\bm≠builtinsNs/\base.get? bm=some ob/\ob.cls= .type "module"/\ob.dict=some builtinsNs/\ob.data= .plain
noncomputable def Mi(B:Around)(cenv:Env):Around:={handled:=B.handled,depth:=B.depth+1,frames:=B.frames.map (cenv:: ·),guards:=B.guards,units:=B.units+3}
noncomputable def Cx.gen(X:Cx)(B:Around)(sc:Scope)(N':List Str)(code:Value)(s:Shared)(H:Hp)(fp:List Addr):Cx:=
 {X with
  N:=N'
  s₀:={s with gens:=s.gens.push .running}
  H₀:=H
  A:=Mi B (genEnv sc (cz X.env sc.names []) s.heap.objs.size code builtinsNs X.env)
  env:=genEnv sc (cz X.env sc.names []) s.heap.objs.size code builtinsNs X.env
  outer:=X.stack
  stack:=genEnv sc (cz X.env sc.names []) s.heap.objs.size code builtinsNs X.env::X.stack
  ex:=fp
  fn:=λ_=>false
  pn:=[]
  xe:=λ_ _=>False}
section
variable{X:Cx}{pins:List (Addr×Obj)}{σ:St}{H:Hp}{s:Shared}{sc:Scope}{own N2:List Str}{fp:List Addr}{B:Around}{code:Value}
theorem oK{sc:Scope}{y:Str}(hv:NG sc y):∃k,sc.names.lookup y=some k/\(k= .local∨k= .cell∨k= .free):=by
 rcases hv with e|e|e
 ·exact⟨_,e,.inl rfl⟩
 ·exact⟨_,e,.inr (.inl rfl)⟩
 ·exact⟨_,e,.inr (.inr rfl)⟩
theorem fJ{n:Nat}:∀{ns:List (Str×NameKind)}{acc:List (Str×Addr)},(∀y∈ns,y.2≠ .cell) ->cellsFrom n ns acc=acc
 | [],_,_=>rfl
 |(y,k)::r,acc,h=>by
  unfold cellsFrom
  have hk:(k==NameKind.cell)=false:=by simpa using h (y,k) List.mem_cons_self
  rw[hk]
  exact fJ λz hz=>h z (List.mem_cons_of_mem _ hz)
theorem Pd(I:Inv X pins σ H s)(Bk:qA sc.names X.env.scope.names own N2 X.N)(hk:sc.kind= .function)(hnc:∀y∈sc.names,y.2≠ .cell)(hf:∀b∈fp,fW X pins H b)(ho:∀b∈fp,∃o,s.heap.get? b=some o)
  (hB:B.frames=some X.stack)(hh:B.handled=none):(X.gen B sc (own++N2) code s H fp).Ok:=by
 have lt:∀b∈fp,b<s.heap.objs.size:=λb hb=>let⟨o,e⟩:=ho b hb;Heap.lt_size e
 have jK:∀y c,(cz X.env sc.names []).lookup y=some c->(y,NameKind.free)∈sc.names/\X.env.cells.lookup y=some c:=λy c h=>by
  have h':(cellsFrom 0 sc.names (cz X.env sc.names [])).lookup y=some c:=by rw[fJ hnc];exact h
  rcases jg I Bk (mem_of_lookup h')with⟨_,q⟩|q
  ·exact absurd rfl (hnc _ q)
  ·exact q
 refine⟨I.ok.mod,hk,I.ok.glob,rfl,Nat.le_refl _,λx y c h1 h2=> ?_,λy hy=> ?_,λy c hy hc=>absurd hy (by show ¬(false=true);decide),λ_=>hh,?_,.inr ⟨rfl,rfl⟩,λb hb=>⟨?_,λy c hc=> ?_⟩,I.bs,Nat.le_trans I.ok.LL I.sz,λb o e hb=> ?_,λb hb hs=> ?_,I.stack,I.uA⟩
 ·exact I.ok.inj x y c (jK x c h1).2 (jK y c h2).2
 ·have hy':sc.names.lookup y=some .cell∨sc.names.lookup y=some .free:=hy
  rcases hy' with e|e
  ·exact absurd rfl (hnc _ (mem_of_lookup e))
  ·obtain⟨c,hc⟩:=j8 I Bk y (mem_of_lookup e)
   have:=mC (n:=0) I Bk (mem_of_lookup e) hc
   rw[fJ hnc]at this
   exact⟨c,this⟩
 ·show B.frames.map _=_
  rw[hB];rfl
 ·exact Nat.ne_of_lt (lt b hb)
 ·exact(hf b hb).2.2.2.2.1 y c (jK y c hc).2
 ·rcases(hf b hb).2.2.2.1 with z|z
  ·exact I.ok.Ga b o e z
  ·exact absurd (Nat.lt_of_lt_of_le (Heap.lt_size (I.ok.bs b o e).1) z) (Nat.lt_irrefl _)
 ·rcases List.mem_cons.mp (I.uO b hs)with e|e
  ·exact(hf b hb).2.1 e
  ·exact(hf b hb).2.2.1 e
theorem Mj{h':Heap}{tk:Nat}{m:Str->Option Value}(I:Inv X pins σ H s)(Bk:qA sc.names X.env.scope.names own N2 X.N)(hk:sc.kind= .function)(hnc:∀y∈sc.names,y.2≠ .cell)(hf:∀b∈fp,fW X pins H b)(ho:∀b∈fp,∃o,s.heap.get? b=some o)
  (hB:B.frames=some X.stack)(hh:B.handled=none)(hn:h'.Ns s.heap.objs.size m)(keep:∀b o,s.heap.get? b=some o->h'.get? b=some o):
  Inv (X.gen B sc (own++N2) code s H fp) [] (List.replicate own.length none++σ) H {s with heap:=h',toks:=tk,gens:=s.gens.push .running}:=by
 have jK:∀y c,(cz X.env sc.names []).lookup y=some c->(y,NameKind.free)∈sc.names/\X.env.cells.lookup y=some c:=λy c h=>by
  have h':(cellsFrom 0 sc.names (cz X.env sc.names [])).lookup y=some c:=by rw[fJ hnc];exact h
  rcases jg I Bk (mem_of_lookup h')with⟨_,q⟩|q
  ·exact absurd rfl (hnc _ q)
  ·exact q
 refine⟨Pd I Bk hk hnc hf ho hB hh,rfl,.refl (I.bare.bare.push rfl),Un.kept keep,⟨m,hn,λi y v e1 e2 e3=> ?_⟩,λy c hc=> ?_,I.fresh,λy c hc=>I.nH y c (jK y c hc).2,λp hp=> ?_,I.hok.kept keep,?_⟩
 ·by_cases hi:i<own.length
  ·rw[List.getElem?_append_left (by simpa using hi),List.getElem?_replicate]at e2
   split at e2<;>cases e2
  ·have AW:(own++N2)[i]?=some y:=e1
   have hi':own.length<=i:=by omega
   rw[List.getElem?_append_right (by simpa using hi'),List.length_replicate]at e2
   rw[List.getElem?_append_right hi']at AW
   have hown:y∉own:=λhm=>by
    have nd:=Bk.Mc
    rw[List.nodup_append]at nd
    exact nd.2.2 y hm y (List.mem_of_getElem? AW) rfl
   refine zv I Bk (n:=0) AW e2 (fJ hnc).symm (λz hz=> .inr (cu Bk.nd hz)) (λhv=>let⟨k,e,_⟩:=oK hv;⟨k,e⟩) hown keep e3 (λk e=> ?_)
   obtain⟨k',e',hk'⟩:=oK e3
   have IZ:sc.names.lookup y=some k':=e'
   rw[e]at IZ;cases IZ
   exact hk'
 ·obtain⟨v,w⟩:=I.cell y c (jK y c hc).2
  exact⟨v,w.keeps keep⟩
 ·have l9:p∈([]:List (Addr×Obj)):=hp
  cases l9
 ·show(List.replicate own.length none++σ).length=(own++N2).length
  rw[List.length_append,List.length_append,List.length_replicate,I.len,Bk.len]
theorem Inv.NO{σ':St}{H':Hp}{s':Shared}{N':List Str}{pl:List (Addr×Obj)}{gs:GenState}(I:Inv X pins σ H s)(hf:∀b∈fp,fW X pins H b)(hb:gs.bare=true)(J:Inv (X.gen B sc N' code s H fp) pl σ' H' s'):
  Inv X pins σ H' (s'.setGen s.gens.size gs):=by
 have sz:s.gens.size+1<=s'.gens.size:=by
  have:=J.bare.size
  simpa [Cx.gen]using this
 refine I.Ig (ch:=fp) J.os J.base J.hok ⟨?_,?_,λk hk=> ?_⟩ λb hb=>⟨(hf b hb).2.2.2.1,(hf b hb).2.1,(hf b hb).2.2.2.2.1,(hf b hb).2.2.2.2.2⟩
 ·intro y hy
  simp only[Shared.setGen]at hy
  rcases Array.mem_or_eq_of_mem_setIfInBounds hy with q|q
  ·exact J.bare.bare y q
  ·rw[q];exact hb
 ·simp only[Shared.setGen,Array.size_setIfInBounds]
  omega
 ·have e:=J.bare.old k (by simp[Cx.gen];omega)
  simp only[Shared.setGen]
  rw[Array.getElem?_setIfInBounds_ne (by omega),e]
  show(s.gens.push .running)[k]?=s.gens[k]?
  rw[Array.getElem?_push_lt (by omega)]
  simp[hk]
end
theorem lU{B:Around}{elt:Expr}{gens:List Comprehension}{sc:Scope}{pos:Pos}{it acc:Value}{cenv:Env}:
  B.over (.compLoop (.GeneratorExp elt gens sc pos) 0 it acc cenv) []=Mi B cenv:=by
 unfold Around.over Mi
 congr 1
section
variable(X:Cx)(B:Around)(sc:Scope)(N':List Str)(code:Value)(sC:Shared)(HC:Hp)(fp Ss:List Addr)(tn:Nat->Heap->Prop)(cnt:Nat)(R:Nat->V->Prop)(W:Nat->St->Hp->Prop)
noncomputable def zw:Protocol:=λn s₀ v s Yt=> ∃pl σ' H' x,(∀p∈pl,p.1∉Ss)/\Inv (X.gen B sc N' code sC HC fp) (dh Ss s₀.heap++pl) σ' H' s/\tn (cnt-n) s.heap/\(∀b∈fp,H' b=none)/\RelV x v/\R (cnt-n-1) x/\W (cnt-n) σ' H'/\
 ∀s'':Shared,(∀b∈Ss,∃o,s''.heap.get? b=some o) ->Inv (X.gen B sc N' code sC HC fp) (dh Ss s''.heap++pl) σ' H' s''->tn (cnt-n) s''.heap->Yt (.send .none) s''
noncomputable def Mk:GenEnd:=λn s₀ r s₁=>r= .ok .next/\n=0/\ ∃σ' H',Inv (X.gen B sc N' code sC HC fp) (dh Ss s₀.heap) σ' H' s₁/\W cnt σ' H'
end
section
variable{X:Cx}{B:Around}{sc:Scope}{N':List Str}{code:Value}{sC:Shared}{HC:Hp}{fp Ss:List Addr}{tn:Nat->Heap->Prop}{cnt:Nat}{R:Nat->V->Prop}{W:Nat->St->Hp->Prop}
variable{elt iter tg:Expr}{pos:Pos}{it:Addr}{J:It}{g:TG}{te:TE}
theorem AY{Ss:List Addr}{h:Heap}{p:Addr×Obj}(hp:p∈dh Ss h):p.1∈Ss:=(jT hp).1
theorem CT{pl:List (Addr×Obj)}{σ':St}{H' H2:Hp}{s:Shared}(I:Inv (X.gen B sc N' code sC HC fp) pl σ' H2 s)(hn:∀b∈fp,H' b=none)(hd:∀p∈pl,p.1∉fp):∀b∈fp,fW (X.gen B sc N' code sC HC fp) pl H' b:=λb hb=>by
 have ok:=I.ok
 refine⟨hn b hb,(ok.Ls b hb).1,ok.AH b hb,.inl hb,λy c hc=>(ok.Ls b hb).2 y c hc,λp hp e=> ?_⟩
 have l9:p∈pl:=by simpa [Cx.gen]using hp
 exact hd p l9 (by rw[e];exact hb)
theorem Ml(hco:sc.isCoroutine=false)(hc:X.calm=true)(T:Turn X.prog X.w X.K tg J fp it tn)(hg:PG (X.gen B sc N' code sC HC fp) tg g)(he:PE (X.gen B sc N' code sC HC fp) elt te)(Ja:∀b∈fp,b∉Ss)
  (turn:∀i σ' H',i<cnt->W i σ' H'->J.go i H'/\ ∀x H2,J.AD i H' x H2->g x σ' H2 λσ3 H3=>te σ3 H3 λv H4=>R i v/\W (i+1) σ3 H4)
  (stop:∀σ' H',W cnt σ' H'->J.stop cnt H'):
  ∀(n i:Nat)(σ':St)(H':Hp)(s₀ s:Shared),n+i=cnt->W i σ' H'->Inv (X.gen B sc N' code sC HC fp) (dh Ss s₀.heap) σ' H' s->tn i s.heap->(∀b∈fp,H' b=none) ->
   Seg (model X.prog X.w) B (Mk X B sc N' code sC HC fp Ss cnt W) (zw X B sc N' code sC HC fp Ss tn cnt R W) n s₀ (.compLoop (.GeneratorExp elt [⟨tg,iter,[],0⟩] sc pos) 0 (.ref it) .none (X.gen B sc N' code sC HC fp).env)
    ((model X.prog X.w).den (.compLoop (.GeneratorExp elt [⟨tg,iter,[],0⟩] sc pos) 0 (.ref it) .none (X.gen B sc N' code sC HC fp).env)) [] s:=by
 have Vh:∀{h:Heap},∀p∈dh Ss h,p.1∉fp:=λp hp hb=>Ja p.1 hb (AY hp)
 intro n
 induction n with
 |zero=>
  intro i σ' H' s₀ s hn w I st fr
  obtain rfl:i=cnt:=by omega
  show Seg _ B _ _ _ s₀ _ ((compTurn (.GeneratorExp elt [⟨tg,iter,[],0⟩] sc pos) 0 (.ref it) .none (X.gen B sc N' code sC HC fp).env).onRaise (leaving (X.gen B sc N' code sC HC fp).env)) [] s
  rw[compTurn_gen,Sem.onRaise_eq_wrap]
  refine seg_bind_wrap (wpAny_standAt ?_)
  refine seg_bind_wrap ?_
  rw[lU]
  refine fZ (T.done (X.gen B sc N' code sC HC fp) rfl rfl rfl hc i _ s σ' H' _ I (CT I fr Vh) st (stop σ' H' w)) λr s1 ⟨hr,I1⟩=> ?_
  subst hr
  exact seg_end (.ok .next) ⟨rfl,rfl,σ',H',I1,w⟩
 |succ n ih=>
  intro i σ' H' s₀ s hn w I st fr
  have hi:i<cnt:=by omega
  obtain⟨go,step⟩:=turn i σ' H' hi w
  show Seg _ B _ _ _ s₀ _ ((compTurn (.GeneratorExp elt [⟨tg,iter,[],0⟩] sc pos) 0 (.ref it) .none (X.gen B sc N' code sC HC fp).env).onRaise (leaving (X.gen B sc N' code sC HC fp).env)) [] s
  rw[compTurn_gen,Sem.onRaise_eq_wrap]
  refine seg_bind_wrap (wpAny_standAt ?_)
  refine seg_bind_wrap ?_
  rw[lU]
  refine fZ (T.item (X.gen B sc N' code sC HC fp) rfl rfl rfl hc i _ s σ' H' _ I (CT I fr Vh) st go) λr s1 ⟨u,hr,h1⟩=> ?_
  subst hr
  refine seg_bind_wrap ?_
  rw[lU]
  refine wpAny_mono h1 (λ_ s2 ⟨x,H2,I2,r2,y2,st2,RU⟩=> ?_) λ_ _ z=>z
  have Yu:=I2.pinned (CT I2 RU Vh) (T.obj _ _ st2)
  refine seg_bind_wrap ?_
  rw[lU]
  refine wpAny_mono (hg _ s2 σ' H2 x u _ Yu r2 (step x H2 y2)) (λ_ s3 ⟨σ3,H3,I3,q3⟩=> ?_) λ_ _ z=>z.elim
  simp only[List.forIn_nil,if_true]
  refine seg_bind_wrap (wpAny_pure ?_)
  have hy:∀v,yieldOut (X.gen B sc N' code sC HC fp).env v=yieldValue v:=λv=>by
   have q:(X.gen B sc N' code sC HC fp).env.scope.isCoroutine=false:=hco
   simp only[yieldOut,q,Bool.false_eq_true,if_false]
  simp only[if_true,hy]
  rw[Sem.bind_eq_wrap',Sem.bind_eq_wrap',Sem.wrap_wrap,Sem.wrap_wrap]
  refine seg_wrap ?_
  rw[lU]
  refine wpAny_mono (he _ s3 σ3 H3 _ I3 q3) (λv s4 ⟨y,H4,I4,r4,hR,w4⟩=> ?_) λ_ _ z=>z.elim
  have Yv:tn (i+1) s4.heap:=T.keep _ _ _ st2 λb hb o e=>(I4.pin (b,o) (List.mem_append_right _ (List.mem_append_right _ (cG hb e)))).1
  have WN:∀b∈fp,H4 b=none:=λb hb=>by
   obtain⟨o,e,d⟩:=T.obj _ _ st2 b hb
   exact(I4.pin (b,o) (List.mem_append_right _ (List.mem_append_right _ (cG hb e)))).2.1
  have ei:cnt-n=i+1:=by omega
  refine seg_at (seg_yield rfl rfl rfl ⟨[],σ3,H4,y,(λ_ h=>nomatch h),(by rw[List.append_nil];exact I4.jf),by rw[ei];exact Yv,WN,r4,by rw[ei];exact hR,by rw[ei];exact w4,λs'' _ Pe st''=> ?_⟩)
  rw[ei]at st''
  rw[List.append_nil]at Pe
  exact seg_again rfl (ih (i+1) σ3 H4 s'' s'' (by omega) w4 Pe st'' WN)
end
theorem Jb{s:Shared}{g:Nat}{gs:GenState}(h:s.gens[g]?=some .running):(s.setGen g gs).setGen g .running=s:=by
 obtain⟨hh,gens,d,t,os⟩:=s
 have hlt:g<gens.size:=by
  rcases Nat.lt_or_ge g gens.size with q|q
  ·exact q
  ·have z:gens[g]?=none:=Array.getElem?_eq_none q
   have h':gens[g]?=some .running:=h
   rw[z]at h';cases h'
 have q:(gens.setIfInBounds g gs).setIfInBounds g .running=gens:=by
  apply Array.ext_getElem?
  intro i
  by_cases e:g=i
  ·subst e
   rw[Array.getElem?_setIfInBounds_self_of_lt (by simpa using hlt)]
   exact h.symm
  ·rw[Array.getElem?_setIfInBounds_ne e,Array.getElem?_setIfInBounds_ne e]
 show({heap:=hh,gens:=(gens.setIfInBounds g gs).setIfInBounds g .running,drawn:=d,toks:=t,os:=os}:Shared)=_
 rw[q]
theorem mD:∀{Ss:List Addr}{h h':Heap},(∀b∈Ss,∃o,h.get? b=some o/\h'.get? b=some o) ->dh Ss h'=dh Ss h
 | [],_,_,_=>rfl
 |b::r,h,h',k=>by
  obtain⟨o,e1,e2⟩:=k b List.mem_cons_self
  unfold dh
  rw[List.filterMap_cons,List.filterMap_cons,e1,e2]
  show(b,o)::dh r h'=(b,o)::dh r h
  rw[mD λc hc=>k c (List.mem_cons_of_mem _ hc)]
section
variable(X:Cx)(B:Around)(sc:Scope)(N':List Str)(code:Value)(sC:Shared)(HC:Hp)(fp Ss:List Addr)(tn:Nat->Heap->Prop)(cnt:Nat)(R:Nat->V->Prop)(W:Nat->St->Hp->Prop)
structure CF(a:Addr)(i:Nat)(s:Shared):Prop where
 gen:s.heap.IsGen a sC.gens.size
 ex:∃gs pl σ' H',(∀p∈pl,p.1∉Ss)/\s.gens[sC.gens.size]?=some gs/\gs.bare=true/\Inv (X.gen B sc N' code sC HC fp) (dh Ss s.heap++pl) σ' H' (s.setGen sC.gens.size .running)/\tn i s.heap/\(∀b∈fp,H' b=none)/\W i σ' H'/\
  ∀s'':Shared,(∀b∈Ss,∃o,s''.heap.get? b=some o) ->Inv (X.gen B sc N' code sC HC fp) (dh Ss s''.heap++pl) σ' H' s''->tn i s''.heap->gs.Goes (model X.prog X.w) B (Mk X B sc N' code sC HC fp Ss cnt W) (zw X B sc N' code sC HC fp Ss tn cnt R W) (cnt-i) (.send .none) s''
end
section
variable{X:Cx}{D:Around}{sc:Scope}{N':List Str}{code:Value}{sC:Shared}{HC:Hp}{fp Ss:List Addr}{tn:Nat->Heap->Prop}{cnt:Nat}{R:Nat->V->Prop}{W:Nat->St->Hp->Prop}{a:Addr}{i:Nat}{s:Shared}
theorem Inv.ET{pl:List (Addr×Obj)}{σ':St}{H':Hp}{s':Shared}(I:Inv X pl σ' H' s'):s'.heap.NoLimit:=I.nolimit
theorem CU{B:Around}{pl:List (Addr×Obj)}{σ':St}{H':Hp}{s':Shared}(I:Inv (X.gen B sc N' code sC HC fp) pl σ' H' s'):s'.gens[sC.gens.size]?=some .running:=by
 have e:=I.bare.old sC.gens.size (by simp[Cx.gen])
 rw[e]
 show(sC.gens.push .running)[sC.gens.size]?=_
 simp
theorem CF.item{Q:Option Value->Shared->Prop}{E:Value->Shared->Prop}(G:CF X D.in1 sc N' code sC HC fp Ss tn cnt R W a i s)(hh:D.handled=none)(hroom:D.depth<recursionLimit)(ha:a∈Ss)(hs:∀b∈Ss,∃o,s.heap.get? b=some o)(hi:i<cnt)
  (hQ:∀v x s',RelV x v->R i x->CF X D.in1 sc N' code sC HC fp Ss tn cnt R W a (i+1) s'->(∀b∈Ss,∀o,s.heap.get? b=some o->s'.heap.get? b=some o) ->Q (some v) s'):
  wpAny (model X.prog X.w) D (pyNext (.ref a)) Q E s:=by
 obtain⟨gs,pl,σ',H',hpl,e1,e2,I,st,fr,w,go⟩:=G.ex
 have gg:=go (s.setGen sC.gens.size .running) hs I st
 obtain⟨m,hm⟩:∃m,cnt-i=m+1:=⟨cnt-i-1,by omega⟩
 rw[hm]at gg
 refine wpAny_pyNext_genexpQ (P:=λn s₀ s₁=>n=0/\ ∃σ' H',Inv (X.gen D.in1 sc N' code sC HC fp) (dh Ss s₀.heap) σ' H' s₁/\W cnt σ' H') hh I.ET hroom G.gen e1 gg (λv s1 gs' hb hy=> ?_) (λs1 hp=> ?_)
 ·obtain⟨Vi,σ1,H1,x,RV,I1,st1,QN,r1,hR,w1,TY⟩:=hy
  have ei:cnt- (m+1-1)=i+1:=by omega
  rw[ei]at st1 w1 TY hR
  have kp:∀b∈Ss,∀o,s.heap.get? b=some o->s1.heap.get? b=some o:=λb hb o e=>(I1.pin (b,o) (List.mem_append_right _ (List.mem_append_left _ (cG hb e)))).1
  have eq:dh Ss s1.heap=dh Ss s.heap:=mD λb hb=>let⟨o,e⟩:=hs b hb;⟨o,e,kp b hb o e⟩
  have run:=CU I1
  refine hQ v x _ r1 hR ⟨?_,gs',Vi,σ1,H1,RV,setGen_self run,hb,?_,st1,QN,w1,?_⟩ kp
  ·obtain⟨o,nm,qn,eo,r⟩:=G.gen
   exact⟨o,nm,qn,kp a ha o eo,r⟩
  ·rw[Jb run]
   show Inv _ (dh Ss s1.heap++Vi) σ1 H1 s1
   rw[eq]
   exact I1
  ·have e3:cnt- (i+1)=m:=by omega
   rw[e3]
   exact TY
 ·exact absurd hp.1 (by omega)
theorem CF.done{pins:List (Addr×Obj)}{σ:St}{Q:Option Value->Shared->Prop}{E:Value->Shared->Prop}(G:CF X D.in1 sc N' code sC HC fp Ss tn cnt R W a cnt s)(IC:Inv X pins σ HC sC)(hf:∀b∈fp,fW X pins HC b)(hh:D.handled=none)(hroom:D.depth<recursionLimit)(hs:∀b∈Ss,∃o,s.heap.get? b=some o)
  (hQ:∀s' σ' H',Inv X pins σ H' s'->W cnt σ' H'->Q none s'):
  wpAny (model X.prog X.w) D (pyNext (.ref a)) Q E s:=by
 obtain⟨gs,pl,σ',H',hpl,e1,e2,I,st,fr,w,go⟩:=G.ex
 have gg:=go (s.setGen sC.gens.size .running) hs I st
 rw[Nat.sub_self]at gg
 refine wpAny_pyNext_genexpQ (P:=λn s₀ s₁=>n=0/\ ∃σ' H',Inv (X.gen D.in1 sc N' code sC HC fp) (dh Ss s₀.heap) σ' H' s₁/\W cnt σ' H') hh I.ET hroom G.gen e1 gg (λv s1 gs' hb hy=> ?_) (λs1 hp h' k=> ?_)
 ·obtain⟨Vi,σ1,H1,x,RV,I1,st1,QN,r1,hR,w1,TY⟩:=hy
  have kp:∀b∈Ss,∀o,s.heap.get? b=some o->s1.heap.get? b=some o:=λb hb o e=>(I1.pin (b,o) (List.mem_append_right _ (List.mem_append_left _ (cG hb e)))).1
  have eq:dh Ss s1.heap=dh Ss s.heap:=mD λb hb=>let⟨o,e⟩:=hs b hb;⟨o,e,kp b hb o e⟩
  exact False.elim (TY s1 (λb hb=>let⟨o,e⟩:=hs b hb;⟨o,kp b hb o e⟩) (by rw[eq];exact I1) st1)
 ·obtain⟨_,σ1,H1,I1,w1⟩:=hp
  have I2:=Inv.NO (gs:= .finished) IC hf rfl I1
  exact hQ _ σ1 H1 (I2.kept (t':=s1.toks) k) w1
end
section
variable{X:Cx}{B:Around}{sc:Scope}{N':List Str}{code:Value}{sC:Shared}{HC:Hp}{fp Ss:List Addr}{tn:Nat->Heap->Prop}{cnt:Nat}{R:Nat->V->Prop}{W:Nat->St->Hp->Prop}
variable{elt iter tg:Expr}{pos:Pos}{it:Addr}{J:It}{g:TG}{te:TE}
theorem Jc(hco:sc.isCoroutine=false)(hc:X.calm=true)(T:Turn X.prog X.w X.K tg J fp it tn)(hg:PG (X.gen B sc N' code sC HC fp) tg g)(he:PE (X.gen B sc N' code sC HC fp) elt te)(Ja:∀b∈fp,b∉Ss)
  (turn:∀i σ' H',i<cnt->W i σ' H'->J.go i H'/\ ∀x H2,J.AD i H' x H2->g x σ' H2 λσ3 H3=>te σ3 H3 λv H4=>R i v/\W (i+1) σ3 H4)
  (stop:∀σ' H',W cnt σ' H'->J.stop cnt H'){σ':St}{H':Hp}{s:Shared}(w:W 0 σ' H')(I:Inv (X.gen B sc N' code sC HC fp) (dh Ss s.heap) σ' H' s)(st:tn 0 s.heap)(fr:∀b∈fp,H' b=none):
  Seg (model X.prog X.w) B (Mk X B sc N' code sC HC fp Ss cnt W) (zw X B sc N' code sC HC fp Ss tn cnt R W) cnt s (.compStart (.GeneratorExp elt [⟨tg,iter,[],0⟩] sc pos) 0 (.ref it) .none (X.gen B sc N' code sC HC fp).env)
   ((model X.prog X.w).den (.compStart (.GeneratorExp elt [⟨tg,iter,[],0⟩] sc pos) 0 (.ref it) .none (X.gen B sc N' code sC HC fp).env)) [] s:=by
 have lp:=Ml (iter:=iter) (pos:=pos) hco hc T hg he Ja turn stop cnt 0 σ' H' s s (Nat.add_zero _) w I st fr
 show Seg _ B _ _ _ s _ ((compStart (.GeneratorExp elt [⟨tg,iter,[],0⟩] sc pos) 0 (.ref it) .none (X.gen B sc N' code sC HC fp).env).onRaise (leaving (X.gen B sc N' code sC HC fp).env)) [] s
 unfold compStart
 rw[Sem.onRaise_eq_wrap]
 show Seg _ B _ _ _ s _ ((ask>>=_).wrap _ _ _ _) [] s
 refine seg_bind_wrap (wpAny_askSetting ?_)
 split
 ·exact seg_again rfl lp
 ·first
   |exact seg_bind_wrap (wpAny_rule (seg_bind_wrap (wpAny_standAt (seg_bind_wrap (T.self _ 0 s _ _ st (seg_again rfl lp))))))
   |(refine seg_bind_wrap (wpAny_rule ?_);(show Seg _ B _ _ _ s _ ((standAt iter.pos>>=_).wrap _ _ _ _) [] s);exact seg_bind_wrap (wpAny_standAt (seg_bind_wrap (T.self _ 0 s _ _ st (seg_again rfl lp)))))
end
noncomputable def yj(k:Nat)(g:TG)(te:TE)(σ:St)(F:Nat->(Nat->V->Prop) ->(Nat->St->Hp->Prop) ->Prop)(J:It)(H:Hp):Prop:=∃(cnt:Nat)(R:Nat->V->Prop)(W:Nat->St->Hp->Prop),W 0 (List.replicate k none++σ) H/\
 (∀i σ' H',i<cnt->W i σ' H'->J.go i H'/\ ∀x H2,J.AD i H' x H2->g x σ' H2 λσ3 H3=>te σ3 H3 λv H4=>R i v/\W (i+1) σ3 H4)/\(∀σ' H',W cnt σ' H'->J.stop cnt H')/\F cnt R W
theorem pN(elt target iter:Expr)(ifs:List Expr)(cls:List Comprehension)(scope:Scope)(pos:Pos)(env:Env)(hco:scope.isCoroutine=false):
  eval (.GeneratorExp elt (⟨target,iter,ifs,0⟩::cls) scope pos) env=(do
   let x<-eval iter env
   standAt iter.pos
   let x<-genFold iter env x
   let it<-holding [x] (pyIter x)
   enterFrame
   let cl<-closureFor scope env
   let code<-genexprCode env pos (env.qual++ "<genexpr>") scope
   let bi<-builtinsFor env.globals env.builtins
   let cenv<-newFunctionEnv scope env.globals cl [(".0",it)] (env.qual++ "<genexpr>.") none code none bi
   newGenerator (.compStart (.GeneratorExp elt (⟨target,iter,ifs,0⟩::cls) scope pos) 0 it .none cenv) "<genexpr>" (env.qual++ "<genexpr>")):=by
 rw[arm_eval_GeneratorExp]
 simp only[hco,Bool.false_eq_true,if_false]
 cases iter<;>rfl
section
variable{M:Model}{A:Around}{E:Value->Shared->Prop}{s:Shared}
theorem lq{env:Env}{elt target iter:Expr}{ifs:List Expr}{cls:List Comprehension}{scope:Scope}{cl:List (Str×Addr)}{pos:Pos}{Q:Value->Shared->Prop}
  (hco:scope.isCoroutine=false)(hclos:closureFor scope env=pure cl)(hcell:∀y∈scope.names,y.2≠ .cell)(h0:scope.names.lookup (".0":Str)=some NameKind.local)(hkind:scope.kind= .function)
  (hroom:A.depth<recursionLimit)
  (h:wpAny M A (eval iter env) (λxv s₁=>wpAny M A (pyIter xv) (λit s₂=>s₂.heap.NoLimit/\
   wpAny M A (genexprCode env pos (env.qual++ "<genexpr>") scope) (λcode s₃=>wpAny M A (builtinsFor env.globals env.builtins) (λbi s₄=>
    ∀h',h'.Ns s₄.heap.objs.size (λy=>if y= ".0" then some it else none) ->Heap.SameBut s₄.heap.objs.size (s₄.heap.push {cls:= .type "frame",data:= .dict #[]}) h'->
     Q (.ref h'.objs.size) {s₄ with
      gens:=s₄.gens.push (.fresh (.compStart (.GeneratorExp elt (⟨target,iter,ifs,0⟩::cls) scope pos) 0 it .none (genEnv scope cl s₄.heap.objs.size code bi env))),
      toks:=s₄.toks+1+1+1,
      heap:=h'.push {cls:= .type "generator",data:= .fields #[.int s₄.gens.size 0,.str "<genexpr>" (s₄.toks+1),.str (env.qual++ "<genexpr>") (s₄.toks+1+1)]}}) E s₃) E s₂) E s₁) E s)
  (hs:∀x,genFold iter env x=pure x):
  wpAny M A (eval (.GeneratorExp elt (⟨target,iter,ifs,0⟩::cls) scope pos) env) Q E s:=by
 rw[pN _ _ _ _ _ _ _ _ hco,hclos]
 refine wpAny_bind (wpAny_mono h (λxv s₁ h₁=> ?_) λ_ _ e=>e)
 refine wpAny_bind (wpAny_standAt ?_)
 refine wpAny_bind (wpAny_of_eq (hs xv) ?_)
 refine wpAny_bind (wpAny_holding (wpAny_mono h₁ (λit s₂ h₂=> ?_) λ_ _ e=>e))
 refine wpAny_bind (wpAny_enterFrame h₂.1 hroom ?_)
 refine wpAny_bind (wpAny_pure ?_)
 refine wpAny_bind (wpAny_mono h₂.2 (λcode s₃ h₃=> ?_) λ_ _ e=>e)
 refine wpAny_bind (wpAny_mono h₃ (λbi s₄ h₄=> ?_) λ_ _ e=>e)
 have Pf:∀y∈([((".0":Str),it)]:List (Str×Value)),scope.names.lookup y.1=some NameKind.local:=by
  intro y hy
  rcases List.mem_cons.mp hy with rfl|hy
  ·exact h0
  ·cases hy
 refine wpAny_bind (wpAny_newFunctionEnv hcell Pf (λh' hn' hs'=> ?_) hkind)
 have e:(λy:Str=>([((".0":Str),it)]:List (Str×Value)).reverse.lookup y)=λy:Str=>if y=(".0":Str)then some it else none:=by
  funext y
  by_cases hy:y= ".0"
  ·subst hy;simp
  ·have:(y==(".0":Str))=false:=by simpa using hy
   simp[List.lookup,this,hy]
 rw[e]at hn'
 simp only[newGenerator,newFields]
 refine wpAny_bind (wpAny_newGen (wpAny_bind (wpAny_mkText (wpAny_bind (wpAny_mkText (wpAny_newObj_type ?_ (by size_fits)))))))
 exact h₄ h' hn' hs'
end
section
variable{X:Cx}{sc:Scope}{own N2:List Str}{elt iter tg:Expr}{pos:Pos}{wi:TI}{g:TG}{te:TE}{P:Addr}
theorem Jd{ifs:List Expr}{cls:List Comprehension}{Rd:It->Hp->Prop}{pins:List (Addr×Obj)}{σ:St}{H0:Hp}{s0:Shared}{F:Nat->(Nat->V->Prop) ->(Nat->St->Hp->Prop) ->Prop}(more:Nat->List Addr)(hmore:∀a,∀b∈more a,a<b)
  (hc:X.calm=true)(hroom:X.A.depth<recursionLimit)(hi:PI X tg iter wi)(Bk:qA sc.names X.env.scope.names own N2 X.N)(hk:sc.kind= .function)(hco:sc.isCoroutine=false)(hnc:∀y∈sc.names,y.2≠ .cell)(Vj:sc.names.lookup (".0":Str)=some NameKind.local)
  (hcd:gP X.K X.env.code P)(bm:BM X.mg X.base)
  (hs:∀x,genFold iter X.env x=pure x)
  (Vk:∀code s H fp it NP J,Turn X.prog X.w X.K tg J fp it NP->(∀b∈fp,H b=none) ->Rd J H-> ∃cnt R W tn,F cnt R W/\W 0 (List.replicate own.length none++σ) H/\(∀h,NP 0 h↔tn 0 h)/\(∀i h h',tn i h->(∀b∈fp,∀o,h.get? b=some o->h'.get? b=some o) ->tn i h')/\
   ∀Ss:List Addr,(∀b∈fp,b∉Ss) -> ∀s'':Shared,(∀b∈Ss,∃o,s''.heap.get? b=some o) ->Inv (X.gen X.A.in1.in1 sc (own++N2) code s H fp) (dh Ss s''.heap) (List.replicate own.length none++σ) H s''->NP 0 s''.heap->
    Seg (model X.prog X.w) X.A.in1.in1 (Mk X X.A.in1.in1 sc (own++N2) code s H fp Ss cnt W) (zw X X.A.in1.in1 sc (own++N2) code s H fp Ss tn cnt R W) cnt s'' (.compStart (.GeneratorExp elt (⟨tg,iter,ifs,0⟩::cls) sc pos) 0 (.ref it) .none (X.gen X.A.in1.in1 sc (own++N2) code s H fp).env)
     ((model X.prog X.w).den (.compStart (.GeneratorExp elt (⟨tg,iter,ifs,0⟩::cls) sc pos) 0 (.ref it) .none (X.gen X.A.in1.in1 sc (own++N2) code s H fp).env)) [] s'')
  (I0:Inv X pins σ H0 s0)(h:wi σ H0 λJ H=>H P=some (fE P)/\Rd J H):
  wpAny (model X.prog X.w) X.A (eval (.GeneratorExp elt (⟨tg,iter,ifs,0⟩::cls) sc pos) X.env) (λu s5=> ∃a cnt R W sC HC fp code tn,u= .ref a/\s5.heap.objs.size=a+1/\
   CF X X.A.in1.in1 sc (own++N2) code sC HC fp (a::more a) tn cnt R W a 0 s5/\Inv X pins σ HC sC/\(∀b∈fp,fW X pins HC b)/\sC.heap.objs.size<a/\(∀b∈fp,b<sC.heap.objs.size)/\(∀i h h',tn i h->(∀b∈fp,∀o,h.get? b=some o->h'.get? b=some o) ->tn i h')/\F cnt R W) X.xe s0:=by
 refine lq hco (oJ I0 Bk) hnc Vj hk hroom ?_ hs
 refine wpAny_mono (hi pins s0 σ H0 _ I0 h) (λxv s1 h1=>wpAny_mono h1 (λitv s2 h2=> ?_) λ_ _ e=>e) λ_ _ e=>e
 obtain⟨it,fp,NP,J,H,e,I,T,st,hf,hP,Yw⟩:=h2
 subst e
 refine⟨I.ET,CS I hcd hP λcode h3 WO I3 ext=> ?_⟩
 obtain⟨Ua,ob,b1,b2,b3,b4,b5,b6⟩:=bm
 refine wpAny_builtinsFor (m:=X.mg) (by rw[I3.ok.glob];exact I3.mod.glob.keeps I3.bk) b1 b2 (I3.bk _ _ b3) b4 b5 b6 ?_
 intro h' hn' hs'
 have st3:NP 0 h3:=T.keep _ _ _ st λb hb o e=>ext b o (λz=>by have:=(hf b hb).1;rw[z,hP]at this;cases this) e
 have Vl:∀b∈fp,∃o,h3.get? b=some o:=λb hb=>let⟨o,e,_⟩:=T.obj 0 _ st3 b hb;⟨o,e⟩
 have NQ:∀b o,h3.get? b=some o->h'.get? b=some o:=λb o e=>hs'.extBut b o (Nat.ne_of_lt (Heap.lt_size e)) (Heap.get?_push_of_some _ e)
 have sz':h'.objs.size=h3.objs.size+1:=by rw[hs'.1,Heap.size_push]
 have IG:=λ(hx:Heap)(tk:Nat)(m:Str->Option Value)(hn:hx.Ns h3.objs.size m)(kp:∀b o,h3.get? b=some o->hx.get? b=some o)=>
  Mj (B:=X.A.in1.in1) (code:=code) (fp:=fp) (h':=hx) (tk:=tk) I3 Bk hk hnc hf Vl I3.ok.frames (I3.ok.hd hc) hn kp
 obtain⟨cnt,R,W,tn,hF,w0,WQ,Je,sg⟩:=Vk code {s2 with heap:=h3,toks:=WO} H fp it NP J T (λb hb=>(hf b hb).1) Yw
 refine⟨h'.objs.size,cnt,R,W,{s2 with heap:=h3,toks:=WO},H,fp,code,tn,rfl,by rw[Heap.size_push],⟨⟨_,_,_,Heap.get?_push_size _ rfl,rfl,rfl,rfl⟩,.fresh _,[],List.replicate own.length none++σ,H,(λ_ h=>nomatch h),Array.getElem?_push_size ..,rfl,?_,?_,λb hb=>(hf b hb).1,w0,?_⟩,I3,hf,by show h3.objs.size<h'.objs.size;omega,λb hb=>let⟨o,e⟩:=Vl b hb;Heap.lt_size e,Je,hF⟩
 ·have eg:(s2.gens.push (GenState.fresh (.compStart (.GeneratorExp elt (⟨tg,iter,ifs,0⟩::cls) sc pos) 0 (.ref it) .none (genEnv sc (cz X.env sc.names []) h3.objs.size code builtinsNs X.env)))).setIfInBounds s2.gens.size .running=s2.gens.push .running:=by
   apply Array.ext_getElem?
   intro i
   by_cases e:s2.gens.size=i
   ·subst e
    rw[Array.getElem?_setIfInBounds_self_of_lt (by simp)]
    simp
   ·rw[Array.getElem?_setIfInBounds_ne e,Array.getElem?_push,Array.getElem?_push]
    simp[Ne.symm e]
  simp only[Shared.setGen]
  rw[eg,List.append_nil]
  refine Inv.jL (pins:=[]) (IG _ _ _ (hn'.push _) (λb o e=>Heap.get?_push_of_some _ (NQ b o e))) λp hp=> ?_
  obtain⟨q1,q2⟩:=jT hp
  have ep:p.1=h'.objs.size:=by
   rcases List.mem_cons.mp q1 with z|z
   ·exact z
   ·have l1:=hmore _ _ z
    have l2:=Heap.lt_size q2
    rw[Heap.size_push]at l2
    exact absurd (Nat.lt_of_lt_of_le l1 (Nat.le_of_lt_succ l2)) (Nat.lt_irrefl _)
  have big:h3.objs.size<=p.1:=by rw[ep,sz'];exact Nat.le_succ _
  have Pg:h3.objs.size<p.1:=by rw[ep,sz'];exact Nat.lt_succ_self _
  refine⟨q2,I3.hok.fresh big,Nat.ne_of_gt Pg,λz=> ?_,λv=> ?_⟩
  ·rcases List.mem_cons.mp (I3.uO p.1 z)with y|y
   ·have l:X.env.locals<h3.objs.size:=I3.lt
    rw[y]at Pg
    exact absurd (Nat.lt_trans l Pg) (Nat.lt_irrefl _)
   ·exact I3.Rl big y
  ·rw[ep]at q2
   rw[Heap.get?_push_size _ rfl]at q2
   intro z
   rw[<-Option.some.inj q2]at z
   cases z
 ·exact(WQ _).1 (T.keep _ _ _ st3 λb hb o e=>Heap.get?_push_of_some _ (NQ b o e))
 ·intro s'' Vm Pe st''
  rw[List.append_nil]at Pe
  refine⟨rfl,?_⟩
  rw[Nat.sub_zero]
  refine sg _ (λb hb z=> ?_) s'' Vm Pe ((WQ _).2 st'')
  have l:b<h3.objs.size:=let⟨o,e⟩:=Vl b hb;Heap.lt_size e
  rcases List.mem_cons.mp z with y|y
  ·rw[y,sz']at l
   exact absurd (Nat.lt_of_succ_lt l) (Nat.lt_irrefl _)
  ·have l2:=hmore _ _ y
   rw[sz']at l2
   exact absurd (Nat.lt_trans (Nat.lt_trans l (Nat.lt_succ_self _)) l2) (Nat.lt_irrefl _)
theorem EU{pins:List (Addr×Obj)}{σ:St}{H0:Hp}{s0:Shared}{F:Nat->(Nat->V->Prop) ->(Nat->St->Hp->Prop) ->Prop}(more:Nat->List Addr)(hmore:∀a,∀b∈more a,a<b)
  (hc:X.calm=true)(hroom:X.A.depth<recursionLimit)(hi:PI X tg iter wi)(Bk:qA sc.names X.env.scope.names own N2 X.N)(hk:sc.kind= .function)(hco:sc.isCoroutine=false)(hnc:∀y∈sc.names,y.2≠ .cell)(Vj:sc.names.lookup (".0":Str)=some NameKind.local)
  (hcd:gP X.K X.env.code P)(bm:BM X.mg X.base)
  (hg:∀code s H fp,PG (X.gen X.A.in1.in1 sc (own++N2) code s H fp) tg g)(he:∀code s H fp,PE (X.gen X.A.in1.in1 sc (own++N2) code s H fp) elt te)
  (hs:∀x,genFold iter X.env x=pure x)(I0:Inv X pins σ H0 s0)(h:wi σ H0 λJ H=>H P=some (fE P)/\yj own.length g te σ F J H):
  wpAny (model X.prog X.w) X.A (eval (.GeneratorExp elt [⟨tg,iter,[],0⟩] sc pos) X.env) (λu s5=> ∃a cnt R W sC HC fp code tn,u= .ref a/\s5.heap.objs.size=a+1/\
   CF X X.A.in1.in1 sc (own++N2) code sC HC fp (a::more a) tn cnt R W a 0 s5/\Inv X pins σ HC sC/\(∀b∈fp,fW X pins HC b)/\sC.heap.objs.size<a/\(∀b∈fp,b<sC.heap.objs.size)/\(∀i h h',tn i h->(∀b∈fp,∀o,h.get? b=some o->h'.get? b=some o) ->tn i h')/\F cnt R W) X.xe s0:=
 Jd (cls:=[]) (Rd:=λJ H=>yj own.length g te σ F J H) more hmore hc hroom hi Bk hk hco hnc Vj hcd bm hs (λcode s H fp it NP J T hfr ⟨cnt,R,W,w0,turn,stop,hF⟩=>
  ⟨cnt,R,W,NP,hF,w0,λ_=>Iff.rfl,T.keep,λSs hd s'' _ Pe st''=>Jc hco hc T (hg code s H fp) (he code s H fp) hd turn stop w0 Pe st'' hfr⟩) I0 h
end
section
variable{X:Cx}{B:Around}{sc:Scope}{N':List Str}{code:Value}{sC:Shared}{HC:Hp}{fp:List Addr}{tn:Nat->Heap->Prop}{cnt:Nat}{R:Nat->V->Prop}{W:Nat->St->Hp->Prop}{a S:Addr}{i:Nat}{s:Shared}
theorem CF.frame{h':Heap}{tk:Nat}{o':Obj}(G:CF X B sc N' code sC HC fp [a,S] tn cnt R W a i s)(NR:a≠S)(hC:sC.heap.objs.size<S)(hfp:∀b∈fp,b≠S)
  (Je:∀i h h',tn i h->(∀b∈fp,∀o,h.get? b=some o->h'.get? b=some o) ->tn i h')(hS:(∃o,s.heap.get? S=some o)∨s.heap.objs.size<=S)
  (keep:∀b o,b≠S->s.heap.get? b=some o->h'.get? b=some o)(e':h'.get? S=some o')(nc:∀v,o'.data≠ .cell v):
  CF X B sc N' code sC HC fp [a,S] tn cnt R W a i {s with heap:=h',toks:=tk}:=by
 obtain⟨gs,pl,σ',H',hpl,e1,e2,I,st,fr,w,go⟩:=G.ex
 have I1:Inv (X.gen B sc N' code sC HC fp) (dh [a] s.heap++pl) σ' H' (s.setGen sC.gens.size .running):=I.jL λp hp=>by
  rcases List.mem_append.mp hp with hp|hp
  ·obtain⟨q1,q2⟩:=jT hp
   exact I.pin p (List.mem_append_right _ (List.mem_append_left _ (cG (fp:=[a,S]) (by rw[List.mem_singleton.mp q1];simp) q2)))
  ·exact I.pin p (List.mem_append_right _ (List.mem_append_right _ hp))
 have Yx:S∉(X.gen B sc N' code sC HC fp).fs:=λhb=>by
  obtain⟨_,o,ho,_⟩:=I.ok.t8.mem hb
  exact absurd (Nat.lt_trans (Heap.lt_size ho) hC) (Nat.lt_irrefl _)
 have ea:∃oa,s.heap.get? a=some oa:=let⟨o,_,_,q,_⟩:=G.gen;⟨o,q⟩
 obtain⟨oa,ea⟩:=ea
 have I2:Inv (X.gen B sc N' code sC HC fp) (dh [a] s.heap++pl) σ' H' {s.setGen sC.gens.size .running with heap:=h',toks:=tk}/\H' S=none:=by
  rcases hS with⟨o,eo⟩|hS
  ·have pS:=I.pin (S,o) (List.mem_append_right _ (List.mem_append_left _ (cG (fp:=[a,S]) (by simp) eo)))
   refine⟨I1.turned (it:=S) (h':=h') (t':=tk) keep pS.2.1 (Nat.ne_of_gt hC) (.inr (Nat.le_of_lt hC)) (λy c hc z=> ?_) (λp hp z=> ?_),pS.2.1⟩
   ·obtain⟨v,oc,q1,q2⟩:=I.cell y c hc
    rw[z]at q1
    have WR:s.heap.get? S=some oc:=q1
    rw[eo]at WR
    have q3:o=oc:=Option.some.inj WR
    exact pS.2.2.2.2 v (by rw[q3];exact q2)
   ·have l9:p∈dh [a] s.heap++pl:=hp
    rcases List.mem_append.mp l9 with l9|l9
    ·exact NR (by rw[<-z,List.mem_singleton.mp (jT l9).1])
    ·exact hpl p l9 (by rw[z];simp)
  ·refine⟨I1.kept (h':=h') (t':=tk) λb o e=>keep b o (λz=> ?_) e,I.hok.fresh hS⟩
   exact absurd (Nat.lt_of_lt_of_le (Heap.lt_size e) (by rw[z];exact hS)) (Nat.lt_irrefl _)
 obtain⟨I2,Yy⟩:=I2
 refine⟨(let⟨o,nm,qn,q,r⟩:=G.gen;⟨o,nm,qn,keep a o NR q,r⟩),gs,pl,σ',H',hpl,e1,e2,I2.jL λp hp=> ?_,Je _ _ _ st λb hb o e=>keep b o (hfp b hb) e,fr,w,go⟩
 refine(List.mem_append.mp hp).elim (λhp=> ?_) (λhp=>I2.pin p (List.mem_append_right _ (List.mem_append_right _ hp)))
 obtain⟨q1,q2⟩:=jT hp
 rcases List.mem_cons.mp q1 with z|z
 ·have q:=I2.pin (a,oa) (List.mem_append_right _ (List.mem_append_left _ (cG (fp:=[a]) (by simp) ea)))
  have RW:h'.get? p.1=some p.2:=q2
  rw[z,keep a oa NR ea]at RW
  have q3:oa=p.2:=Option.some.inj RW
  have ep:p=(a,oa):=by rw[<-z,q3]
  rw[ep]
  exact q
 ·have z':p.1=S:=List.mem_singleton.mp z
  have RW:h'.get? p.1=some p.2:=q2
  rw[z',e']at RW
  have q3:o'=p.2:=Option.some.inj RW
  refine⟨q2,by rw[z'];exact Yy,by rw[z'];exact Nat.ne_of_gt hC,by rw[z'];exact Yx,by rw[<-q3];exact nc⟩
end
section
variable{X:Cx}{sc:Scope}{N':List Str}{code:Value}{sC:Shared}{HC:Hp}{fp:List Addr}{tn:Nat->Heap->Prop}{cnt:Nat}{R:Nat->V->Prop}{W:Nat->St->Hp->Prop}{a S:Addr}{pins:List (Addr×Obj)}{σ:St}{Rr:Result->Shared->Prop}
theorem Gs(IC:Inv X pins σ HC sC)(hf:∀b∈fp,fW X pins HC b)(hh:X.A.handled=none)(hroom:X.A.depth<recursionLimit)(NR:a≠S)(hC:sC.heap.objs.size<S)(hfp:∀b∈fp,b≠S)
  (Je:∀i h h',tn i h->(∀b∈fp,∀o,h.get? b=some o->h'.get? b=some o) ->tn i h')(val:Nat->Int)(hval:∀i v,i<cnt->R i v->v= .int (val i)):∀(k i:Nat)(s:Shared)(tA:Tok)(c:Nat)(st:Int),(st=0∨st=2) ->cnt-i=k->i<=cnt->
  CF X X.A.in1.in1 sc N' code sC HC fp [a,S] tn cnt R W a i s->s.heap.get? S=some {cls:= .type "list",dict:=none,data:= .seq #[.int (preSum val i) tA] c,slots:= #[]} ->
  (∀s' t' σ' H',Inv X pins σ H' s'->W cnt σ' H'->Rr (.ok (.ret (.int (preSum val cnt) t'))) s') ->codeAny (model X.prog X.w) X.A (.builtin "sum.loop" ⟨[.ref a,.ref S,rawInt st,rawInt 0],[]⟩) Rr s:=by
 intro k
 induction k with
 |zero=>
  intro i s tA c st hst hk hi G hS hR
  obtain rfl:i=cnt:=by omega
  refine codeAny_builtin PySem.F.entry_sum_loop (by
   rw[Around.under_plainId PySem.F.plain_sum_loop _]
   show wpAny _ X.A.in1 (seqItems? (.ref S)>>=_) _ _ s
   refine wpAny_bind (wpAny_seqItems hS rfl ?_)
   show wpAny _ X.A.in1 (tryCatch (pyNext (.ref a)) _>>=_) _ _ s
   have ex:∀b∈ [a,S],∃o,s.heap.get? b=some o:=λb hb=>by
    rcases List.mem_cons.mp hb with z|z
    ·obtain⟨o,_,_,q,_⟩:=G.gen;rw[z];exact⟨o,q⟩
    ·rw[List.mem_singleton.mp z];exact⟨_,hS⟩
   exact wpAny_bind (wpAny_tryCatch (G.done (D:=X.A.in1) IC hf hh hroom ex λs' σ' H' I' w'=>wpAny_pure (hR s' tA σ' H' I' w'))))
 |succ k ih=>
  intro i s tA c st hst hk hi G hS hR
  have hlt:i<cnt:=by omega
  have ex:∀b∈ [a,S],∃o,s.heap.get? b=some o:=λb hb=>by
   rcases List.mem_cons.mp hb with z|z
   ·obtain⟨o,_,_,q,_⟩:=G.gen;rw[z];exact⟨o,q⟩
   ·rw[List.mem_singleton.mp z];exact⟨_,hS⟩
  refine codeAny_builtin PySem.F.entry_sum_loop (by
   rw[Around.under_plainId PySem.F.plain_sum_loop _]
   show wpAny _ X.A.in1 (seqItems? (.ref S)>>=_) _ _ s
   refine wpAny_bind (wpAny_seqItems hS rfl ?_)
   show wpAny _ X.A.in1 (tryCatch (pyNext (.ref a)) _>>=_) _ _ s
   refine wpAny_bind (wpAny_tryCatch (G.item (D:=X.A.in1) hh hroom (by simp) ex hlt λv x s' rx Vn G' kp=> ?_))
   obtain rfl:=hval i x hlt Vn
   obtain⟨t,rfl⟩:=rx
   have hS':=kp S (by simp) _ hS
   have again:∀(h':Heap)(tk:Nat)(c':Nat)(tB:Tok)(st':Int),(st'=0∨st'=2) ->(∀b o,b≠S->s'.heap.get? b=some o->h'.get? b=some o) ->h'.get? S=some {cls:= .type "list",dict:=none,data:= .seq #[.int (preSum val i+val i) tB] c',slots:= #[]} ->
     codeAny (model X.prog X.w) X.A (.builtin "sum.loop" ⟨[.ref a,.ref S,rawInt st',rawInt 0],[]⟩) Rr {s' with heap:=h',toks:=tk}:=λh' tk c' tB st' Vo Yz e'=>
    ih (i+1) _ tB c' st' Vo (by omega) hlt (G'.frame NR hC hfp Je (.inl ⟨_,hS'⟩) Yz e' (λv z=>by cases z)) e' hR
   rcases hst with rfl|rfl
   ·show wpAny _ X.A.in1 (if(_:Bool)=true then(mkInt (preSum val i+val i)>>=_)else _) _ _ _
    split
    ·refine wpAny_bind (wpAny_mkInt ?_)
     show wpAny _ X.A.in1 (updateSeq S (λ_=> #[.int (preSum val i+val i) s'.toks])>>=_) _ _ _
     exact wpAny_bind (wpAny_updateSeq hS' rfl (wpAny_pure ⟨plainId_quiet PySem.F.plain_sum_loop _,again _ _ _ _ 0 (.inl rfl) (λb o hb e=>(Heap.get?_update_other _ _ (Ne.symm hb)).trans e) (Heap.get?_update_self _ hS' rfl)⟩))
    ·refine wpAny_bind (wpAny_rule (wpAny_bind (wpAny_attempt (wpAny_holding (wpAny_add_int ?_)))))
     show wpAny _ X.A.in1 (updateSeq S (λ_=> #[.int (preSum val i+val i) s'.toks])>>=_) _ _ _
     refine wpAny_bind (wpAny_updateSeq hS' rfl ?_)
     have RX:=Heap.get?_update_self (Obj.mapSeq λ_=> #[Value.int (preSum val i+val i) s'.toks]) hS' rfl
     exact wpAny_bind (wpAny_letGo (wpAny_bind (wpAny_updateSeq RX rfl (wpAny_pure ⟨plainId_quiet PySem.F.plain_sum_loop _,again _ _ _ _ 2 (.inr rfl) (λb o hb e=>(Heap.get?_update_other _ _ (Ne.symm hb)).trans ((Heap.get?_update_other _ _ (Ne.symm hb)).trans e)) (Heap.get?_update_self _ RX rfl)⟩))))
   ·show wpAny _ X.A.in1 ((holding [Value.int (val i) t] (binaryOp .Add (.int (preSum val i) tA) (.int (val i) t))).attempt>>=_) _ _ _
    refine wpAny_bind (wpAny_attempt (wpAny_holding (wpAny_add_int ?_)))
    show wpAny _ X.A.in1 (updateSeq S (λ_=> #[.int (preSum val i+val i) s'.toks])>>=_) _ _ _
    refine wpAny_bind (wpAny_updateSeq hS' rfl ?_)
    have RX:=Heap.get?_update_self (Obj.mapSeq λ_=> #[Value.int (preSum val i+val i) s'.toks]) hS' rfl
    exact wpAny_bind (wpAny_letGo (wpAny_bind (wpAny_updateSeq RX rfl (wpAny_pure ⟨plainId_quiet PySem.F.plain_sum_loop _,again _ _ _ _ 2 (.inr rfl) (λb o hb e=>(Heap.get?_update_other _ _ (Ne.symm hb)).trans ((Heap.get?_update_other _ _ (Ne.symm hb)).trans e)) (Heap.get?_update_self _ RX rfl)⟩)))))
theorem Gu{Q:Value->Shared->Prop}{E:Value->Shared->Prop}{s:Shared}(IC:Inv X pins σ HC sC)(hf:∀b∈fp,fW X pins HC b)(hh:X.A.handled=none)(hroom:X.A.depth<recursionLimit)(hsz:s.heap.objs.size=a+1)(hC:sC.heap.objs.size<a)(hlt:∀b∈fp,b<sC.heap.objs.size)
  (Je:∀i h h',tn i h->(∀b∈fp,∀o,h.get? b=some o->h'.get? b=some o) ->tn i h')(val:Nat->Int)(hval:∀i v,i<cnt->R i v->v= .int (val i))(G:CF X X.A.in1.in1 sc N' code sC HC fp [a,a+1] tn cnt R W a 0 s)
  (hQ:∀s' t' σ' H',Inv X pins σ H' s'->W cnt σ' H'->Q (.int (preSum val cnt) t') s'):wpAny (model X.prog X.w) X.A (call (.builtin "sum") [.ref a]) Q E s:=by
 refine call_function_tree PySem.F.kind_sum PySem.F.plain_sum PySem.F.entry_sum (PySem.F.args_sum1 _) ?_
 unfold Builtin.«sum»
 simp only[List.length_cons,List.length_nil]
 rw[if_neg (by decide)]
 refine wpAny_bind (wpAny_of_eq (a:=[none]) rfl ?_)
 refine wpAny_bind (wpAny_pyIter_gen G.gen ?_)
 refine wpAny_bind (wpAny_mkInt (wpAny_bind (wpAny_pure ?_)))
 simp only[List.forIn_cons,List.forIn_nil]
 refine wpAny_bind (wpAny_bind (wpAny_bind (wpAny_isInstance (T:= "int") (b:=false) (typeIs_int _ _ _) PySem.sub_int_str ?_)))
 simp only[Bool.false_eq_true,if_false]
 refine wpAny_pure (wpAny_bind (wpAny_bind (wpAny_isInstance (T:= "int") (b:=false) (typeIs_int _ _ _) PySem.sub_int_bytes ?_)))
 simp only[Bool.false_eq_true,if_false]
 refine wpAny_pure (wpAny_bind (wpAny_bind (wpAny_isInstance (T:= "int") (b:=false) (typeIs_int _ _ _) PySem.sub_int_bytearray ?_)))
 simp only[Bool.false_eq_true,if_false]
 refine wpAny_pure (wpAny_pure (wpAny_bind (wpAny_newObj_type ?_)))
 have NR:a≠a+1:=Nat.ne_of_lt (Nat.lt_succ_self _)
 have Vp:sC.heap.objs.size<a+1:=Nat.lt_succ_of_lt hC
 have WS:∀b∈fp,b≠a+1:=λb hb=>Nat.ne_of_lt (Nat.lt_trans (hlt b hb) Vp)
 refine wpAny_pure ⟨plainId_quiet PySem.F.plain_sum_loop _,?_⟩
 have e0:({s with toks:=s.toks+1}:Shared).heap.objs.size=a+1:=hsz
 dsimp only
 rw[hsz]
 have eS:(s.heap.push {cls:= .type "list",dict:=none,data:= .seq #[Value.int 0 s.toks]}).get? (a+1)=some {cls:= .type "list",dict:=none,data:= .seq #[Value.int 0 s.toks]}:=by
  rw[<-hsz];exact Heap.get?_push_size _ rfl
 refine Gs IC hf hh hroom NR Vp WS Je val hval cnt 0 _ s.toks 0 0 (.inl rfl) rfl (Nat.zero_le _) (G.frame NR Vp WS Je (.inr (Nat.le_of_eq hsz)) (λb o _ e=>Heap.get?_push_of_some _ e) eS (λv z=>by cases z)) eS λs' t' σ' H' I' w'=> ?_
 exact hQ s' t' σ' H' I' w'
end
theorem set_same{s:Shared}{g:Nat}{x y:GenState}(h:s.gens[g]?=some x):(s.setGen g y).setGen g x=s:=by
 obtain⟨hh,gens,d,t,os⟩:=s
 have hlt:g<gens.size:=by
  rcases Nat.lt_or_ge g gens.size with q|q
  ·exact q
  ·have z:gens[g]?=none:=Array.getElem?_eq_none q
   have h':gens[g]?=some x:=h
   rw[z]at h';cases h'
 have q:(gens.setIfInBounds g y).setIfInBounds g x=gens:=by
  apply Array.ext_getElem?
  intro i
  by_cases e:g=i
  ·subst e
   rw[Array.getElem?_setIfInBounds_self_of_lt (by simpa using hlt)]
   exact h.symm
  ·rw[Array.getElem?_setIfInBounds_ne e,Array.getElem?_setIfInBounds_ne e]
 show({heap:=hh,gens:=(gens.setIfInBounds g y).setIfInBounds g x,drawn:=d,toks:=t,os:=os}:Shared)=_
 rw[q]
section
variable{X:Cx}{sc:Scope}{N':List Str}{code:Value}{sC:Shared}{HC:Hp}{fp Ss:List Addr}{tn:Nat->Heap->Prop}{cnt:Nat}{R:Nat->V->Prop}{W:Nat->St->Hp->Prop}{a:Addr}{pins:List (Addr×Obj)}{σ:St}{Rr:Result->Shared->Prop}
theorem CF.out{B:Around}{i:Nat}{s:Shared}(G:CF X B sc N' code sC HC fp Ss tn cnt R W a i s)(IC:Inv X pins σ HC sC)(hf:∀b∈fp,fW X pins HC b):∃σ' H',Inv X pins σ H' s/\W i σ' H':=by
 obtain⟨gs,pl,σ',H',hpl,e1,e2,I,st,fr,w,go⟩:=G.ex
 have q:=Inv.NO (gs:=gs) IC hf e2 I
 rw[set_same e1]at q
 exact⟨σ',H',q,w⟩
theorem Gv(IC:Inv X pins σ HC sC)(hf:∀b∈fp,fW X pins HC b)(hh:X.A.handled=none)(hroom:X.A.depth<recursionLimit)(bv:Nat->Bool)(hval:∀i v,i<cnt->R i v->v= .bl (bv i)):∀(k i:Nat)(s:Shared),cnt-i=k->i<=cnt->
  CF X X.A.in1.in1 sc N' code sC HC fp [a] tn cnt R W a i s->(∀j,j<i->bv j=true) ->
  ((∀j,j<cnt->bv j=true) -> ∀s' σ' H',Inv X pins σ H' s'->W cnt σ' H'->Rr (.ok (.ret (.bool true))) s') ->
  (∀j,j<cnt->bv j=false->(∀l,l<j->bv l=true) -> ∀s' σ' H',Inv X pins σ H' s'->W (j+1) σ' H'->Rr (.ok (.ret (.bool false))) s') ->codeAny (model X.prog X.w) X.A (.builtin "all.loop" ⟨[.ref a],[]⟩) Rr s:=by
 intro k
 induction k with
 |zero=>
  intro i s hk hi G hp hT hF
  obtain rfl:i=cnt:=by omega
  have ex:∀b∈ [a],∃o,s.heap.get? b=some o:=λb hb=>by
   obtain⟨o,_,_,q,_⟩:=G.gen;rw[List.mem_singleton.mp hb];exact⟨o,q⟩
  refine codeAny_builtin PySem.F.entry_all_loop (by
   rw[Around.under_plainId PySem.F.plain_all_loop _]
   show wpAny _ X.A.in1 (pyNext (.ref a)>>=_) _ _ s
   exact wpAny_bind (G.done (D:=X.A.in1) IC hf hh hroom ex λs' σ' H' I' w'=>wpAny_bind (wpAny_rule (wpAny_pure (hT hp s' σ' H' I' w')))))
 |succ k ih=>
  intro i s hk hi G hp hT hF
  have hlt:i<cnt:=by omega
  have ex:∀b∈ [a],∃o,s.heap.get? b=some o:=λb hb=>by
   obtain⟨o,_,_,q,_⟩:=G.gen;rw[List.mem_singleton.mp hb];exact⟨o,q⟩
  refine codeAny_builtin PySem.F.entry_all_loop (by
   rw[Around.under_plainId PySem.F.plain_all_loop _]
   show wpAny _ X.A.in1 (pyNext (.ref a)>>=_) _ _ s
   refine wpAny_bind (G.item (D:=X.A.in1) hh hroom (by simp) ex hlt λv x s' rx Vn G' kp=> ?_)
   obtain rfl:=hval i x hlt Vn
   cases rx
   refine wpAny_bind (wpAny_holding (wpAny_truthy_bool (wpAny_bind (wpAny_letGo ?_))))
   cases hb:bv i with
   |true=>
    simp only[if_true]
    exact wpAny_pure ⟨plainId_quiet PySem.F.plain_all_loop _,ih (i+1) _ (by omega) hlt G' (λj hj=>by
     rcases Nat.lt_or_ge j i with q|q
     ·exact hp j q
     ·rw[show j=i by omega];exact hb) hT hF⟩
   |false=>
    simp only[Bool.false_eq_true,if_false]
    obtain⟨σ',H',I',w'⟩:=G'.out IC hf
    exact wpAny_bind (wpAny_rule (wpAny_pure (hF i hlt hb hp s' σ' H' I' w'))))
theorem Gw{Q:Value->Shared->Prop}{E:Value->Shared->Prop}{s:Shared}(IC:Inv X pins σ HC sC)(hf:∀b∈fp,fW X pins HC b)(hh:X.A.handled=none)(hroom:X.A.depth<recursionLimit)(bv:Nat->Bool)(hval:∀i v,i<cnt->R i v->v= .bl (bv i))(G:CF X X.A.in1.in1 sc N' code sC HC fp [a] tn cnt R W a 0 s)
  (hT:(∀j,j<cnt->bv j=true) -> ∀s' σ' H',Inv X pins σ H' s'->W cnt σ' H'->Q (.bool true) s')
  (hF:∀j,j<cnt->bv j=false->(∀l,l<j->bv l=true) -> ∀s' σ' H',Inv X pins σ H' s'->W (j+1) σ' H'->Q (.bool false) s'):wpAny (model X.prog X.w) X.A (call (.builtin "all") [.ref a]) Q E s:=by
 refine call_function_tree PySem.F.kind_all PySem.F.plain_all PySem.F.entry_all (PySem.F.args_all1 _) ?_
 unfold Builtin.«all»
 refine wpAny_bind (m:=oneArg "all" _) (wpAny_pure (wpAny_bind (wpAny_pyIter_gen G.gen ?_)))
 exact wpAny_pure ⟨plainId_quiet PySem.F.plain_all_loop _,Gv IC hf hh hroom bv hval cnt 0 s rfl (Nat.zero_le _) G (λj hj=>absurd hj (Nat.not_lt_zero _)) hT hF⟩
end
noncomputable def Jf(k:Nat)(P:Addr)(g:TG)(te:TE)(σ:St)(J:It)(H1:Hp)(Q:VK):Prop:=H1 P=some (fE P)/\yj k g te σ (λcnt R W=> ∃val:Nat->Int,(∀i v,i<cnt->R i v->v= .int (val i))/\ ∀σ' H',W cnt σ' H'->Q (.int (preSum val cnt)) H') J H1
noncomputable def AZ(k:Nat)(P:Addr)(wi:TI)(g:TG)(te:TE):TE:=λσ H Q=>wi σ H λJ H1=>Jf k P g te σ J H1 Q
noncomputable def NS(k:Nat)(P:Addr)(g:TG)(te:TE)(σ:St)(J:It)(H1:Hp)(Q:VK):Prop:=H1 P=some (fE P)/\yj k g te σ (λcnt R W=> ∃bv:Nat->Bool,(∀i v,i<cnt->R i v->v= .bl (bv i))/\
 ((∀j,j<cnt->bv j=true) -> ∀σ' H',W cnt σ' H'->Q (.bl true) H')/\(∀j,j<cnt->bv j=false->(∀l,l<j->bv l=true) -> ∀σ' H',W (j+1) σ' H'->Q (.bl false) H')) J H1
noncomputable def NU(k:Nat)(P:Addr)(wi:TI)(g:TG)(te:TE):TE:=λσ H Q=>wi σ H λJ H1=>NS k P g te σ J H1 Q
section
variable{X:Cx}{sc:Scope}{own N2:List Str}{elt iter tg:Expr}{jt p pos:Pos}{wi:TI}{g:TG}{te:TE}{P:Addr}
structure Jg(X:Cx)(sc:Scope)(own N2:List Str)(P:Addr):Prop where
 calm:X.calm=true
 room:X.A.depth<recursionLimit
 RY:qA sc.names X.env.scope.names own N2 X.N
 kind:sc.kind= .function
 co:sc.isCoroutine=false
 nc:∀y∈sc.names,y.2≠ .cell
 WT:sc.names.lookup (".0":Str)=some NameKind.local
 code:gP X.K X.env.code P
 bm:BM X.mg X.base
theorem EV(K:Jg X sc own N2 P)(Jh:Gl X "sum")(hm:X.mg "sum"=none)(hi:PI X tg iter wi)
  (hg:∀code s H fp,PG (X.gen X.A.in1.in1 sc (own++N2) code s H fp) tg g)(he:∀code s H fp,PE (X.gen X.A.in1.in1 sc (own++N2) code s H fp) elt te)
  (hs:∀x,genFold iter X.env x=pure x:=by intro _;rfl)(hst:starEach [.GeneratorExp elt [⟨tg,iter,[],0⟩] sc jt] X.env=[(false,eval (.GeneratorExp elt [⟨tg,iter,[],0⟩] sc jt) X.env)]:=by rfl):
  PE X (.Call (.Name "sum" p) [.GeneratorExp elt [⟨tg,iter,[],0⟩] sc jt] [] pos) (AZ own.length P wi g te):=by
 intro pins s σ H Q I h
 refine wpAny_Call_Name_kw (mh I Jh hm PyProof.Rows.boot_sum ?_)
 refine PyProof.Rows.callWith_builtin1 ?_ hst rfl
 rw[hst]
 refine Calls.spliced_cons (fZ (EU (pos:=jt) (λa=>[a+1]) (λa b hb=>by rw[List.mem_singleton.mp hb];exact Nat.lt_succ_self _) K.calm K.room hi K.RY K.kind K.co K.nc K.WT K.code K.bm hg he hs I h) λu s5 h5=> ?_)
 obtain⟨a,cnt,R,W,sC,HC,fp,code,tn,rfl,hsz,G,IC,hf,hC,hlt,Je,val,hval,hq⟩:=h5
 exact Calls.spliced_nil (Gu IC hf (I.ok.hd K.calm) K.room hsz hC hlt Je val hval G λs' t' σ' H' I' w'=>⟨.int (preSum val cnt),H',I',⟨_,rfl⟩,hq σ' H' w'⟩)
theorem Mm(K:Jg X sc own N2 P)(Jh:Gl X "all")(hm:X.mg "all"=none)(hi:PI X tg iter wi)
  (hg:∀code s H fp,PG (X.gen X.A.in1.in1 sc (own++N2) code s H fp) tg g)(he:∀code s H fp,PE (X.gen X.A.in1.in1 sc (own++N2) code s H fp) elt te)
  (hs:∀x,genFold iter X.env x=pure x:=by intro _;rfl)(hst:starEach [.GeneratorExp elt [⟨tg,iter,[],0⟩] sc jt] X.env=[(false,eval (.GeneratorExp elt [⟨tg,iter,[],0⟩] sc jt) X.env)]:=by rfl):
  PE X (.Call (.Name "all" p) [.GeneratorExp elt [⟨tg,iter,[],0⟩] sc jt] [] pos) (NU own.length P wi g te):=by
 intro pins s σ H Q I h
 refine wpAny_Call_Name_kw (mh I Jh hm PyProof.Rows.boot_all ?_)
 refine PyProof.Rows.callWith_builtin1 ?_ hst rfl
 rw[hst]
 refine Calls.spliced_cons (fZ (EU (pos:=jt) (λa=>[]) (λa b hb=>by cases hb) K.calm K.room hi K.RY K.kind K.co K.nc K.WT K.code K.bm hg he hs I h) λu s5 h5=> ?_)
 obtain⟨a,cnt,R,W,sC,HC,fp,code,tn,rfl,hsz,G,IC,hf,hC,hlt,Je,bv,hval,hT,hF⟩:=h5
 exact Calls.spliced_nil (Gw IC hf (I.ok.hd K.calm) K.room bv hval G (λhb s' σ' H' I' w'=>⟨.bl true,H',I',rfl,hT hb σ' H' w'⟩) (λj hj hb hp s' σ' H' I' w'=>⟨.bl false,H',I',rfl,hF j hj hb hp σ' H' w'⟩))
end
section
variable{X:Cx}{B:Around}{sc:Scope}{N':List Str}{code:Value}{sC:Shared}{HC:Hp}{fp Ss:List Addr}{tn:Nat->Heap->Prop}{R:Nat->V->Prop}{W:Nat->St->Hp->Prop}
variable{elt iter tg kc RZ:Expr}{pos:Pos}{it:Addr}{J:It}{g g':TG}{te:TE}{Ji:TI}{c1 c2:Nat}
end
section
variable{X:Cx}{B:Around}{sc:Scope}{N':List Str}{code:Value}{sC:Shared}{HC:Hp}{fp Ss:List Addr}{tn:Nat->Heap->Prop}{R:Nat->V->Prop}{W:Nat->St->Hp->Prop}
variable{elt iter tg kc RZ:Expr}{pos:Pos}{it:Addr}{J:It}{g g':TG}{te:TE}{Ji:TI}{c1 c2:Nat}
end
section
variable{X:Cx}{sc:Scope}{own N2:List Str}{elt iter tg kc RZ:Expr}{jt p pos:Pos}{wi Ji:TI}{g g':TG}{te:TE}{P:Addr}
end
mutual
inductive Ba(K:PySem.W.Frag)(H:Hp):V->PyData->Prop
 |gK:Ba K H .gK .none
 |bl(b:Bool):Ba K H (.bl b) (.bool b)
 |int(i:Int):Ba K H (.int i) (.int i)
 |str(x:Str):Ba K H (.str x) (.str x)
 |lst{a:Addr}{xs:List V}{ds:List PyData}:aU K H a xs->CV K H xs ds->Ba K H (.ref a) (.list ds)
 |tup{a:Addr}{xs:List V}{ds:List PyData}:pI K H a xs->CV K H xs ds->Ba K H (.ref a) (.tuple ds)
inductive CV(K:PySem.W.Frag)(H:Hp):List V->List PyData->Prop
 |nil:CV K H [] []
 |cons{x:V}{d:PyData}{xs:List V}{ds:List PyData}:Ba K H x d->CV K H xs ds->CV K H (x::xs) (d::ds)
end
section
variable{X:Cx}{pins:List (Addr×Obj)}{σ:St}{H:Hp}{s:Shared}
mutual
theorem lV(I:Inv X pins σ H s):∀{x:V}{d:PyData}{u:Value},Ba X.K H x d->RelV x u-> ∃as,Reads s.heap u d as
 |_,_,_,.gK,r=>by cases r;exact⟨_,.none⟩
 |_,_,_,.bl b,r=>by cases r;exact⟨_,.bool b⟩
 |_,_,_,.int i,r=>by obtain⟨t,rfl⟩:=r;exact⟨_,.int i t⟩
 |_,_,_,.str x,r=>by obtain⟨t,rfl⟩:=r;exact⟨_,.str x t⟩
 |_,_,_,.lst hq hs,r=>by
  cases r
  obtain⟨its,rv,⟨o,n,e,c,_,dd⟩,_⟩:=I.list hq
  obtain⟨as,q⟩:=nS I hs rv
  exact⟨_,.list e c dd (by simpa using q)⟩
 |_,_,_,.tup hq hs,r=>by
  cases r
  obtain⟨its,rv,⟨o,e,c,n,dd⟩,_⟩:=I.tuple hq
  obtain⟨as,q⟩:=nS I hs rv
  exact⟨_,.tuple e c dd (by simpa using q)⟩
theorem nS(I:Inv X pins σ H s):∀{xs:List V}{ds:List PyData}{us:List Value},CV X.K H xs ds->Vals xs us-> ∃as,ReadsAll s.heap us ds as
 |_,_,_,.nil,r=>by cases r;exact⟨_,.nil⟩
 |_,_,_,.cons h t,r=>by
  cases r with
  |cons r1 r2=>
   obtain⟨as,q1⟩:=lV I h r1
   obtain⟨bs,q2⟩:=nS I t r2
   exact⟨_,.cons q1 q2⟩
end
end
noncomputable def Sa(K:PySem.W.Frag)(neg:Bool):R2:=λx y H Q=> ∃da db,Ba K H x da/\Ba K H y db/\SeqAt.shaped da=true/\SeqAt.shaped db=true/\Q (.bl (if neg then !PyData.eqv da db else PyData.eqv da db)) H
section
variable{X:Cx}
theorem Ph(hu:X.A.units+64<cLine):qz X (compareOp .Eq) (Sa X.K false):=by
 intro pins s σ H x y v u Q I rx ry h
 obtain⟨da,db,h1,h2,s1,s2,q⟩:=h
 obtain⟨as,r1⟩:=lV I h1 rx
 obtain⟨bs,r2⟩:=lV I h2 ry
 exact eq_dataH r1 r2 s1 s2 hu ⟨.bl _,H,I,rfl,q⟩
theorem kP:qC X (.builtin "isinstance") (λxs H Q=> ∃x n t b,xs=[x,.ty n]/\rA X.K H x t/\PySem.W.kitOne X.K t (.type n)=some b/\Q (.bl b) H):=by
 intro pins s σ H xs us Q I r h
 obtain⟨x,n,t,b,rfl,ty,e,q⟩:=h
 cases r with
 |cons r1 r2=>
  cases r2 with
  |cons r2 r3=>
   cases r3
   cases r2
   exact Gj I r1 ty e λtk=>⟨.bl b,H,I.tok _,rfl,q⟩
end
noncomputable abbrev iQ(r:List Int):PyData:= .list (r.map .int)
noncomputable abbrev Pj(m:List (List Int)):PyData:= .list (m.map iQ)
theorem nT:∀m:List (List Int),PyData.canLayAll0 (m.map iQ)=true
 | []=>rfl
 |r::m=>by simp[PyData.canLayAll0,PyData.canLay0,PySem.W.ke_canLayAll0,nT m]
theorem vq:∀m:List (List Int),PyData.depthAll (m.map iQ)<=1
 | []=>by simp[PyData.depthAll]
 |r::m=>by
  have:=vq m
  simp only[List.map_cons,PyData.depthAll,PyData.depth,PySem.W.ke_depthAll]
  omega
theorem CW(m:List (List Int)):SeqAt.shaped (Pj m)=true:=by
 have q:=vq m
 simp only[SeqAt.shaped,PyData.canLay0,PyData.depth,nT,Bool.true_and,decide_eq_true_eq]
 exact decide_eq_true (show PyData.depthAll (m.map iQ)+1<=64 by omega)
theorem pO(r:List Int):SeqAt.shaped (iQ r)=true:=PySem.W.ke_shaped_ints r
theorem EW(r t:List Int):PyData.eqv (iQ r) (iQ t)=decide (r=t):=by
 simp only[PyData.eqv]
 exact PySem.W.ked_eqvAll r t
structure Pk(tz:Addr->HO):Prop where
 new:∀{P:Program}{w:World}{H:Hp}{h:Heap}{T:Addr},h.get? T=some {cls:= .none,data:= .fields #[]} ->f6 P w H h T (tz T)
 get:∀{P:Program}{w:World}{H:Hp}{h:Heap}{T:Addr},f6 P w H h T (tz T) -> ∃ps:Array Value,h.get? T=some {cls:= .none,data:= .fields ps}
theorem EX:Pk fE:=⟨λe=>IW e (by simp[TriplesOk]),λh=>let⟨⟨ps,e,_⟩,_⟩:=h;⟨ps,e⟩⟩
theorem Pn(g9:List Addr):Pk (λT=>if T∈g9 then .AG else fE T):=by
 refine⟨λ {P w H h T} e=> ?_,λ {P w H h T} x=> ?_⟩
 ·by_cases c:T∈g9
  ·rw[if_pos c]
   exact⟨#[],e,trivial,λpos cv z=>nomatch z⟩
  ·rw[if_neg c]
   exact EX.new e
 ·by_cases c:T∈g9
  ·rw[if_pos c]at x
   obtain⟨ps,e,_⟩:=x
   exact⟨ps,e⟩
  ·rw[if_neg c]at x
   exact EX.get x
theorem Gx{P:Program}{w:World}{K:PySem.W.Frag}{mg mb:Str->Option Value}{k:Nat}{fa a:Addr}{fd:FuncData}{x:Str}{sp:Sp}{s₁:Shared}{vs:List Value}{ns:List Int}{tabs:List Addr}{tz:Addr->HO}(TZ:Pk tz)
  (KX:K.In s₁.heap)(hns:s₁.heap.Ns mainGlobals mg)(hb:s₁.heap.Ns builtinsNs mb)(YA:∀x:Str,x≠ "__name__" ->mb x=bootBuiltins x)(hlim:s₁.heap.NoLimit)(hbm:BM mg s₁.heap)(hg:s₁.gens= #[])
  (htab:∀T∈tabs,isCodeTable s₁.heap T/\s₁.heap.get? T=some {cls:= .none,data:= .fields #[]})
  (ha:s₁.heap.get? a=some {cls:= .type "list",data:= .seq vs.toArray})(hi:IntsAre vs ns)(hl:ns.length<=sizeLine)(hr:fS k callerA)(hcl:PySem.W.kb_classed K=true)
  (F:∀base:Heap,K.In base->base.Ns mainGlobals mg->BM mg base->pJ P w K mg base dz k fa fd [x] sp)(hbind:∀(s:Shared)(u:Value),BindsTo s fd ⟨[u],[]⟩ [(x,u)])
  (Lw:∀H:Hp,(∀T∈tabs,H T=some (tz T)) ->aU K H a (ns.map V.int) ->sp [.ref a] H (λv H'=>v= .bl true/\ ∀T∈tabs,H' T=some (tz T)) λ_ _ _=>False):
  codeAny (model P w) callerA (.call (.ref fa) ⟨[.ref a],[]⟩) (λr s'=>r= .ok (.ret (.bool true))/\OldK s₁.heap s'.heap/\s'.os=s₁.os/\AllBare s'.gens) s₁:=by
 have rv:=yi hi
 have Vq:=hi.length
 have WU:a∉tabs:=λz=>by
  have e:=(htab a z).2
  rw[ha]at e
  cases e
 have core:∀H:Hp,(∀T∈tabs,H T=some (tz T)) ->(∀b u,H b=some u->b∈tabs∨(b=a/\ ∃o xs,u= .yY o (.lst xs))) ->aU K H a (ns.map V.int) ->uz P w H s₁.heap->(H a≠none->K.lookup a=none) ->
   codeAny (model P w) callerA (.call (.ref fa) ⟨[.ref a],[]⟩) (λr s'=>r= .ok (.ret (.bool true))/\OldK s₁.heap s'.heap/\s'.os=s₁.os/\AllBare s'.gens) s₁:=by
  intro H hT hO hS hok hK
  have free:∀{b:Addr}{o:Obj},s₁.heap.get? b=some o->o.cls≠ .none->b≠a->H b=none:=λ {b o} e hc hba=>by
   cases q:H b with
   |none=>rfl
   |some u=>
    rcases hO b u q with z|⟨z,_⟩
    ·have e':=(htab b z).2
     rw[e]at e'
     cases e'
     exact absurd rfl hc
    ·exact absurd z hba
  have zx:∀{b:Addr}{o:Obj},s₁.heap.get? b=some o->H b=none->(wZ s₁.heap H).get? b=some o:=λe n=>Ic e n
  have Vr:∀{b:Addr}{o:Obj}{es:Array DictEntry}{ep:Nat},s₁.heap.get? b=some o->o.data= .dict es ep->H b=none:=λ {b o es ep} e d=>by
   cases q:H b with
   |none=>rfl
   |some u=>
    rcases hO b u q with z|⟨z,_⟩
    ·have e':=(htab b z).2
     rw[e]at e'
     cases e'
     cases d
    ·rw[z,ha]at e
     cases e
     cases d
  have Ub:∀{b:Addr}{m:Str->Option Value},s₁.heap.Ns b m->(wZ s₁.heap H).Ns b m:=λ {b m} ⟨o,es,ep,e,d,r⟩=>⟨o,es,ep,zx e (Vr e d),d,r⟩
  have WV:K.In (wZ s₁.heap H):=λb o e=>zx (KX b o e) (by
   by_cases hba:b=a
   ·cases q:H b with
    |none=>rfl
    |some u=>
     subst hba
     rw[hK (by rw[q];simp)]at e
     cases e
   ·have q:=List.all_eq_true.mp hcl (b,o) (PySem.W.kb_mem e)
    simp only[Bool.or_eq_true,decide_eq_true_eq,beq_iff_eq]at q
    rcases q with(q|q)|q
    ·exact free (KX b o e) q hba
    ·obtain⟨mc,⟨oc,es,ep,z1,z2,_⟩,_⟩:=hlim
     rw[q];exact Vr z1 z2
    ·obtain⟨oc,es,ep,z1,z2,_⟩:=hns
     rw[q];exact Vr z1 z2)
  have hM:Mod K mg (wZ s₁.heap H):=⟨WV,Ub hns,⟨mb,Ub hb,YA⟩,let⟨mc,h1,h2⟩:=hlim;⟨mc,Ub h1,h2⟩⟩
  have YB:BM mg (wZ s₁.heap H):=by
   obtain⟨bm,ob,q1,q2,q3,q4,q5,q6⟩:=hbm
   refine⟨bm,ob,q1,q2,zx q3 (free q3 (by rw[q4];simp) λz=> ?_),q4,q5,q6⟩
   rw[z,ha]at q3
   rw[<-Option.some.inj q3]at q4
   exact absurd q4 (by simp)
  have e0:LV P w K mg (wZ s₁.heap H) callerA [] s₁ H:=⟨rfl,hM,λb o e=>LH e,Nat.le_of_eq (FZ _ _),trivial,λb hb=>absurd (show b∈([]:List Addr)from hb) (by simp),hok,.of_eq hg⟩
  refine codeAny_mono ((F _ WV (Ub hns) YB).run callerA [] s₁ H ⟨[.ref a],[]⟩ [.ref a] [.ref a] _ _ hr e0 (hbind s₁ (.ref a)) (.cons rfl .nil) (Lw H hT hS)) λr s' h=> ?_
  cases r with
  |error e=>exact False.elim h
  |ok fl=>
   cases fl with
   |next=>exact False.elim h
   |brk=>exact False.elim h
   |cont=>exact False.elim h
   |ret u=>
    obtain⟨v,H',os,bare,un,Sb,r',q⟩:=h
    obtain⟨q',Mn⟩:=q
    have q':v= .bl true:=q'
    subst q'
    obtain rfl:u=Value.bool true:=r'
    refine⟨rfl,⟨λb o e=> ?_,λb o e=>un.there b o e (by simp)⟩,os,bare.bare⟩
    cases q:H b with
    |none=>exact .inl (un.keep b o e q (by intro z;exact absurd (show b∈([]:List Addr)from z) (by simp)) (by simp))
    |some u=>
     rcases hO b u q with z|⟨z,ob,xs,eu⟩
     ·obtain⟨ct,e'⟩:=htab b z
      obtain⟨ps,ep⟩:=TZ.get (Sb b _ (Mn b z))
      rw[e]at e'
      cases e'
      exact .inr (.inl ⟨ct,rfl, #[],ps,rfl,by simpa using ep⟩)
     ·subst eu
      have z2:=un.rj b ob _ q
      obtain⟨e1,_⟩:=hok b _ q
      obtain⟨e2,_⟩:=Sb b _ z2
      rw[e]at e1;cases e1
      exact .inl e2
 have WW:∀(H:Hp)(T:Addr),T∈tabs->f6 P w H s₁.heap T (tz T):=λH T hT=>TZ.new (htab T hT).2
 cases hk:K.lookup a with
 |some o=>
  have e:=KX a o hk
  rw[ha]at e
  cases e
  refine core (λb=>if b∈tabs then some (tz b)else none) (λT hT=>if_pos hT) (λb u z=> ?_) (.inr ⟨_,vs.toArray,_,hk,rfl,rfl,rfl,by rw[List.size_toArray,Vq];exact hl,by simpa using rv⟩) (λb u z=> ?_) (λz=>absurd (if_neg WU) z)
  ·by_cases hb:b∈tabs
   ·exact .inl hb
   ·have z':=(if_neg hb).symm.trans z;cases z'
  ·by_cases hb:b∈tabs
   ·have z':=(if_pos hb).symm.trans z;cases z';exact WW _ b hb
   ·have z':=(if_neg hb).symm.trans z;cases z'
 |none=>
  have q1:∀{b:Addr},b∈tabs->(if b=a then some (HO.yY {cls:= .type "list",data:= .seq vs.toArray} (.lst (ns.map V.int)))else if b∈tabs then some (tz b)else none)=some (tz b):=λ {b} hb=>by
   rw[if_neg (λ(z:b=a)=>WU (by rw[<-z];exact hb)),if_pos hb]
  refine core (λb=>if b=a then some (.yY {cls:= .type "list",data:= .seq vs.toArray} (.lst (ns.map V.int)))else if b∈tabs then some (tz b)else none) (λT hT=>q1 hT) (λb u z=> ?_) (.inl (.inr ⟨{cls:= .type "list",data:= .seq vs.toArray},if_pos rfl⟩)) (λb u z=> ?_) λ_=>hk
  ·by_cases hb:b=a
   ·have z':=(if_pos hb).symm.trans z
    cases z'
    exact .inr ⟨hb,_,_,rfl⟩
   ·by_cases hb2:b∈tabs
    ·exact .inl hb2
    ·have z':=((if_neg hb).trans (if_neg hb2)).symm.trans z;cases z'
  ·by_cases hb:b=a
   ·have z':=(if_pos hb).symm.trans z
    cases z'
    subst hb
    exact⟨ha,by rw[List.length_map];exact hl,vs,_,rv,ha⟩
   ·by_cases hb2:b∈tabs
    ·have z':=(q1 hb2).symm.trans z
     cases z'
     exact WW _ b hb2
    ·have z':=((if_neg hb).trans (if_neg hb2)).symm.trans z;cases z'
theorem CY{p:Program}{loose:List Str}{mean:ExcName->Option Value}{mg mb:Str->Option Value}{h:Heap}(T:Top p loose mean mg mb h){d:DefRec}{x qual:Str}(hf:(recsOf p).find? (λe=>e.name==x)=some d){K:PySem.W.Frag}(KX:K.In h){f:Addr}
  (hm:mg x=some (.ref f)){oc:Value}{od:Option Addr}{sl:Array (Option Value)}{fd:FuncData}(l:K.lookup f=some ⟨oc,od,.func fd,sl⟩)(c:PySem.W.codeIn K fd.code qual=true):
  ∃P,gP K fd.code P/\isCodeTable h P/\h.get? P=some {cls:= .none,data:= .fields #[]}:=by
 have hn:d.name=x:=beq_iff_eq.mp (List.find?_some (p:=λe:DefRec=>e.name==x) hf)
 obtain⟨a',o',fd',cc,P,h1,h2,h3,h4,h5,h6⟩:=T.tab d (List.mem_of_find?_eq_some hf)
 rw[hn,hm]at h1;cases h1
 rw[KX f _ l]at h2;cases h2
 cases h3
 refine⟨P,?_,h6.isCodeTable,h6.2⟩
 obtain⟨o,vs,file,tf,flags,tg,Pa,text,tt,op,ho,hd,h11,RS,h7,h9,RT,_⟩:=h5
 obtain⟨⟨o2,vs2,g1,g2,g3,g4⟩,_⟩:=h6
 rw[ho]at g1;cases g1
 rw[hd]at g3;cases g3
 rw[h4]at c
 cases q:K.lookup cc with
 |none=>unfold PySem.W.codeIn at c;simp[q]at c
 |some o3=>
  have e3:=KX cc o3 q
  rw[ho]at e3
  have e4:o=o3:=Option.some.inj e3
  subst e4
  exact⟨cc,o,vs,file,tf,flags,tg,Pa,text,tt,h4,q,g2,hd,g4,RS,h7,h9,RT⟩
noncomputable def tabOf(K:PySem.W.Frag)(f:Addr):Option Value:=match K.lookup f with
 |some ⟨_,_,.func fd,_⟩=>match fd.code with
  | .ref c=>match K.lookup c with
   |some o=>match o.data with
    | .fields vs=>vs[11]?
    |_=>none
   |none=>none
  |_=>none
 |_=>none
noncomputable def Jj(K:PySem.W.Frag)(fs gs:List Addr):Bool:=fs.all λf=>gs.all λg=>tabOf K f !=tabOf K g
theorem Bb{K:PySem.W.Frag}{f P:Addr}{oc:Value}{od:Option Addr}{sl:Array (Option Value)}{fd:FuncData}(l:K.lookup f=some ⟨oc,od,.func fd,sl⟩)(c:gP K fd.code P):tabOf K f=some (.ref P):=by
 obtain⟨cc,o,vs,_,_,_,_,_,_,_,e1,e2,e3,e4,e5,_⟩:=c.ex
 unfold tabOf
 rw[l]
 simp only[e1,e2,e4,e5]
theorem nU{K:PySem.W.Frag}{fs gs:List Addr}(h:Jj K fs gs=true){f g P Q:Addr}(hf:f∈fs)(hg:g∈gs)(a:tabOf K f=some (.ref P))(b:tabOf K g=some (.ref Q)):P≠Q:=λe=>by
 have h1:=List.all_eq_true.mp (List.all_eq_true.mp h f hf) g hg
 rw[a,b,e]at h1
 simp at h1
theorem Jk{l:PySem.W.OpenLaw}{n k:Nat}{q:Program}{loose:List Str}{XP:(Str->Option Value) ->Heap->Prop}{YP:World->Heap->Prop}{d:DefRec}{K:Params->PySem.W.Frag}{x:Str}{sp:PySem.W.Frag->List Addr->List Addr->Sp}
  (hn:l.most=some n)(hn2:n<=sizeLine)(hdf:d.params.defaults=[])(hr:fS k callerA)
  (hY:∀(w:World)(h:Heap),YP w h->(K w.params).In h)
  (hcl:∀(w:World),PySem.W.kb_classed (K w.params)=true)
  (F:∀(w:World)(mg mb:Str->Option Value)(mean:ExcName->Option Value)(fa:Addr)(h:Heap),(K w.params).In h->Top q (PySem.W.looseW q loose) mean mg mb h->mg d.name=some (.ref fa) ->
   ∃(fd:FuncData)(tabs g9:List Addr),(∀(s:Shared)(u:Value),BindsTo s fd ⟨[u],[]⟩ [(x,u)])/\(∀T∈tabs++g9,isCodeTable h T/\h.get? T=some {cls:= .none,data:= .fields #[]})/\(∀T∈tabs,T∉g9)/\
    ∀base:Heap,(K w.params).In base->base.Ns mainGlobals mg->BM mg base->pJ l.prog w (K w.params) mg base dz k fa fd [x] (sp (K w.params) tabs g9))
  (Lw:∀(K:PySem.W.Frag)(tabs g9:List Addr)(H:Hp)(a:Addr)(ns:List Int),ns.length<=n->(∀T∈tabs,H T=some (fE T)) ->(∀T∈g9,H T=some .AG) ->aU K H a (ns.map V.int) -> ∀Q:VK,(∀H',az H H'->Q (.bl true) H') ->sp K tabs g9 [.ref a] H Q λ_ _ _=>False):
  PySem.W.WalkO q loose XP YP l.row.toRowW d [] (λf vs=>PySem.call f vs):=by
 refine WM.AR hn hdf λw s₀ s₁ mg mb fa o pm cd doc a vs ns G Y ho hd hcd hmg hobj hints hlen hg=> ?_
 have KX:=hY w _ Y
 obtain⟨fd,tabs,g9,hb,ht,Ja,hF⟩:=F w mg mb _ fa _ KX G.T hmg
 have e1:∀T∈tabs,(if T∈g9 then HO.AG else fE T)=fE T:=λT hT=>if_neg (Ja T hT)
 have e2:∀T∈g9,(if T∈g9 then HO.AG else fE T)= .AG:=λT hT=>if_pos hT
 refine Gx (Pn g9) KX G.T.g G.T.b G.T.builtins G.T.nolimit G.T.bmain hg ht hobj hints (Nat.le_trans hlen hn2) hr (hcl w) hF hb (λH hO hS=> ?_)
 refine Lw _ tabs g9 H a ns hlen (λT hT=>by rw[hO T (List.mem_append_left _ hT),e1 T hT]) (λT hT=>by rw[hO T (List.mem_append_right _ hT),e2 T hT]) hS _ λH' s=>⟨rfl,λT hT=>s _ _ (hO T hT)⟩
theorem az.up{H:Hp}{D:Addr}{o:HO}(h:H D=none):az H (upd H D o):=λb u q=>by rw[aG (eV q h)];exact q
theorem az.upd{H H':Hp}{D:Addr}{o:HO}(s:az H H')(h:H D=none):az H (upd H' D o):=λb u q=>by rw[aG (eV q h)];exact s b u q
theorem az.none{H H':Hp}(s:az H H'){D:Addr}(h:H' D=Option.none):H D=Option.none:=s.free h
theorem az.YC{K:PySem.W.Frag}{H H':Hp}{a:Addr}{xs:List V}(e:az H H')(h:pI K H a xs):pI K H' a xs:=by
 rcases h with(h|⟨o,h⟩)|h
 ·exact .inl (.inl (e _ _ h))
 ·exact .inl (.inr ⟨o,e _ _ h⟩)
 ·exact .inr h
theorem _root_.PySem.Paired.Gy{α β:Type}{F F':α->β->Prop}:∀{l:List α}{m:List β},Paired F l m->(∀a b,b∈m->F a b->F' a b) ->Paired F' l m
 |_,_,.nil,_=> .nil
 |_,_,.cons h t,k=> .cons (k _ _ List.mem_cons_self h) (t.Gy λa b hb q=>k a b (List.mem_cons_of_mem _ hb) q)
structure JW(J:It)(H1:Hp)(xs:List V):Prop where
 go:∀i H',az H1 H'->i<xs.length->J.go i H'
 AD:∀i H' x H2,az H1 H'->i<xs.length->J.AD i H' x H2->H2=H'/\xs[i]?=some x
 stop:∀H',az H1 H'->J.stop xs.length H'
theorem oM{K:PySem.W.Frag}{H1:Hp}{a:Addr}{xs:List V}(h:aU K H1 a xs):JW (NJ K a) H1 xs where
 go:=λi H' s hi=>⟨xs,xs[i],s.seq h,by simp[hi]⟩
 AD:=λi H' x H2 s hi ⟨e,y⟩=>⟨e,y xs (s.seq h)⟩
 stop:=λH' s=>⟨xs,s.seq h,Nat.le_refl _⟩
noncomputable def mE(n:Nat):List V:=(List.range n).map λ(i:Nat)=>V.int (i:Int)
theorem gT{H1:Hp}{n:Nat}:JW (Lu 0 n) H1 (mE n) where
 go:=λi H' s hi=>by simpa [mE,Lu]using hi
 AD:=λi H' x H2 s hi ⟨e,y⟩=>⟨e,by
  have hi':i<n:=by simpa [mE]using hi
  subst y
  simp[mE,hi']⟩
 stop:=λH' s=>by simp[mE,Lu]
theorem uG{J:It}{H1:Hp}{xs:List V}{σ:St}{te:TE}{Q:VK}(jw:JW J H1 xs)(hz:xs.length<=sizeLine){D:Addr}(hD:H1 D=none)(P:List V->List V->Hp->Prop)(h0:P [] [] (upd H1 D (.lst [])))
  (hs:∀pre x post acc H' (Q':VK),xs=pre++x::post->acc.length=pre.length->az H1 H'->H' D=some (.lst acc) ->P pre acc H'->(∀v H4,az H' H4->P (pre++ [x]) (acc++ [v]) (upd H4 D (.lst (acc++ [v]))) ->Q' v H4) ->te (some x::σ) H' Q')
  (hq:∀acc H',acc.length=xs.length->az H1 H'->H' D=some (.lst acc) ->P xs acc H'->Q (.ref D) H'):
  nQ 1 (dZ 0) te σ J H1 D Q:=by
 refine⟨λi m acc σ' H'=>m=xs.length-i/\i<=xs.length/\acc.length=i/\(∃o,σ'=o::σ)/\az H1 H'/\H' D=some (.lst acc)/\P (xs.take i) acc H',⟨xs.length,rfl,Nat.zero_le _,rfl,⟨none,rfl⟩,az.up hD,ao,h0⟩,?_⟩
 rintro i m acc σ' H' ⟨rfl,hi,hl,⟨o,rfl⟩,sm,eD,p⟩
 by_cases hlt:i<xs.length
 ·refine .inr ⟨jw.go i H' sm hlt,by omega,λx H2 y=> ?_⟩
  obtain⟨rfl,ex⟩:=jw.AD i H' x H2 sm hlt y
  have hx:xs[i]=x:=by rw[List.getElem?_eq_getElem hlt]at ex;exact Option.some.inj ex
  have sp:xs=xs.take i++x::xs.drop (i+1):=by
   rw[<-hx,<-List.drop_eq_getElem_cons hlt,List.take_append_drop]
  have tk:xs.take (i+1)=xs.take i++ [x]:=by rw[List.take_succ,ex];rfl
  show te (some x::σ) H2 _
  refine hs (xs.take i) x (xs.drop (i+1)) acc H2 _ sp (by rw[hl,List.length_take];omega) sm eD p λv H4 s4 p4=> ?_
  refine⟨s4 _ _ eD,xs.length- (i+1),by omega,rfl,hlt,by simp[hl],⟨_,rfl⟩,(sm.trans s4).upd hD,ao,?_⟩
  rw[tk]
  exact p4
 ·have e:i=xs.length:=by omega
  subst e
  refine .inl ⟨jw.stop H' sm,eD,hq acc H' hl sm eD ?_⟩
  rw[List.take_length]at p
  exact p
section
variable{X:Cx}{sc:Scope}{N2:List Str}{x:Str}{px:Pos}{elt iter:Expr}{jt p pos:Pos}{wi:TI}{te:TE}{P:Addr}
theorem EY(B:qA sc.names X.env.scope.names [x] N2 X.N)(s:Shared)(H:Hp)(fp:List Addr):PG (X.comp sc ([x]++N2) s H fp) (.Name x px) (dZ 0):=by
 rcases B.own x (by simp)with e|e
 ·exact aI (i:=0) B.Mc rfl (.inl (j9 (env:=X.env) e (.inl rfl))) (.inr (j9 (env:=X.env) e (.inl rfl)))
 ·refine aI (i:=0) B.Mc rfl (.inr (j9 (env:=X.env) e (.inr rfl))) (.inl ?_)
  show(sc.names.lookup x==some NameKind.cell)=true
  rw[e];rfl
theorem lu(hc:X.calm=true)(hi:PI X (.Name x px) iter wi)(hB:AV sc.names X.env.scope.names [x] N2 X.N=true)(hk:sc.kind= .function)(he:∀s H fp,PE (X.comp sc ([x]++N2) s H fp) elt te)
  (hs:∀x,foldedSetIterable iter X.env x=pure x:=by intro _;rfl):PE X (.ListComp elt [⟨.Name x px,iter,[],0⟩] sc pos) (tP 1 wi (dZ 0) te):=
 AX (own:=[x]) hc hi (j7 hB) hk (λs H fp=>EY (j7 hB) s H fp) he hs
theorem Jl{B:Around}(Bk:qA sc.names X.env.scope.names [x] N2 X.N)(hnc:∀y∈sc.names,y.2≠ .cell)(code:Value)(s:Shared)(H:Hp)(fp:List Addr):PG (X.gen B sc ([x]++N2) code s H fp) (.Name x px) (dZ 0):=by
 rcases Bk.own x (by simp)with e|e
 ·exact aI (i:=0) Bk.Mc rfl (.inl e) (.inr e)
 ·exact absurd rfl (hnc _ (mem_of_lookup e))
noncomputable def Jm(sc:Scope)(ks:List (Str×NameKind))(own N2 N:List Str):Bool:=
 AV sc.names ks own N2 N && (sc.kind== .function) && !sc.isCoroutine && sc.names.all (λy=>y.2 != .cell) && (sc.names.lookup (".0":Str)==some NameKind.local)
theorem vt{own:List Str}(hc:X.calm=true)(hr:X.A.depth<recursionLimit)(cd:gP X.K X.env.code P)(bm:BM X.mg X.base)(h:Jm sc X.env.scope.names own N2 X.N=true):Jg X sc own N2 P:=by
 unfold Jm at h
 simp only[Bool.and_eq_true]at h
 obtain⟨⟨⟨⟨h1,h2⟩,h3⟩,h4⟩,h5⟩:=h
 refine⟨hc,hr,j7 h1,by simpa using h2,by simpa using h3,λy hy=> ?_,by simpa using h5,cd,bm⟩
 have q:=List.all_eq_true.mp h4 y hy
 simpa using q
theorem Mp(hc:X.calm=true)(hr:X.A.depth<recursionLimit)(cd:gP X.K X.env.code P)(bm:BM X.mg X.base)(Jh:Gl X "sum")(hm:X.mg "sum"=none)(hi:PI X (.Name x px) iter wi)(hB:Jm sc X.env.scope.names [x] N2 X.N=true)
  (he:∀code s H fp,PE (X.gen X.A.in1.in1 sc ([x]++N2) code s H fp) elt te)
  (hs:∀x,genFold iter X.env x=pure x:=by intro _;rfl)(hst:starEach [.GeneratorExp elt [⟨.Name x px,iter,[],0⟩] sc jt] X.env=[(false,eval (.GeneratorExp elt [⟨.Name x px,iter,[],0⟩] sc jt) X.env)]:=by rfl):
  PE X (.Call (.Name "sum" p) [.GeneratorExp elt [⟨.Name x px,iter,[],0⟩] sc jt] [] pos) (AZ 1 P wi (dZ 0) te):=
 have K:=vt hc hr cd bm hB
 EV (own:=[x]) K Jh hm hi (λcode s H fp=>Jl K.RY K.nc code s H fp) he hs hst
theorem zy(hc:X.calm=true)(hr:X.A.depth<recursionLimit)(cd:gP X.K X.env.code P)(bm:BM X.mg X.base)(Jh:Gl X "all")(hm:X.mg "all"=none)(hi:PI X (.Name x px) iter wi)(hB:Jm sc X.env.scope.names [x] N2 X.N=true)
  (he:∀code s H fp,PE (X.gen X.A.in1.in1 sc ([x]++N2) code s H fp) elt te)
  (hs:∀x,genFold iter X.env x=pure x:=by intro _;rfl)(hst:starEach [.GeneratorExp elt [⟨.Name x px,iter,[],0⟩] sc jt] X.env=[(false,eval (.GeneratorExp elt [⟨.Name x px,iter,[],0⟩] sc jt) X.env)]:=by rfl):
  PE X (.Call (.Name "all" p) [.GeneratorExp elt [⟨.Name x px,iter,[],0⟩] sc jt] [] pos) (NU 1 P wi (dZ 0) te):=
 have K:=vt hc hr cd bm hB
 Mm (own:=[x]) K Jh hm hi (λcode s H fp=>Jl K.RY K.nc code s H fp) he hs hst
theorem Bc{k:Nat}{A:Around}{e:Env}(r:fS (k+1) A):fS k (Mi A.in1.in1 e):=
 ⟨r.hd,by have:=r.dp;show A.depth+1+3*k+5<_;omega,by have:=r.un;show A.units+1+1+3+16*k+200<_;omega⟩
end
theorem Jo{J:It}{H1:Hp}{xs:List V}{σ:St}{te:TE}{F:Nat->(Nat->V->Prop) ->(Nat->St->Hp->Prop) ->Prop}(jw:JW J H1 xs)(R:Nat->V->Prop)
  (hs:∀i x,xs[i]?=some x-> ∀H' (Q':VK),az H1 H'->(∀v H2,R i v->az H' H2->Q' v H2) ->te (some x::σ) H' Q')
  (hF:F xs.length R (λ_ σ' H'=>(∃o,σ'=o::σ)/\az H1 H')):yj 1 (dZ 0) te σ F J H1:=by
 refine⟨xs.length,R,_,⟨⟨none,rfl⟩,az.refl _⟩,λi σ' H' hi w=> ?_,λσ' H' w=>jw.stop H' w.2,hF⟩
 obtain⟨⟨o,rfl⟩,sm⟩:=w
 refine⟨jw.go i H' sm hi,λx H2 y=> ?_⟩
 obtain⟨rfl,ex⟩:=jw.AD i H' x H2 sm hi y
 show te (some x::σ) H2 _
 exact hs i x ex H2 _ sm λv H3 r s3=>⟨r,⟨_,rfl⟩,sm.trans s3⟩
theorem Pq{J:It}{H1:Hp}{xs:List V}{σ:St}{te:TE}{Q:VK}{P:Addr}(jw:JW J H1 xs)(hP:H1 P=some (fE P))(val:Nat->Int)
  (hs:∀i x,xs[i]?=some x-> ∀H' (Q':VK),az H1 H'->(∀H2,az H' H2->Q' (.int (val i)) H2) ->te (some x::σ) H' Q')
  (hq:∀H',az H1 H'->Q (.int (preSum val xs.length)) H'):
  Jf 1 P (dZ 0) te σ J H1 Q:=
 ⟨hP,Jo jw (λi v=>v= .int (val i)) (λi x ex H' Q' sm k=>hs i x ex H' Q' sm λH2 s2=>k _ _ rfl s2) ⟨val,λi v _ r=>r,λσ' H' w=>hq H' w.2⟩⟩
theorem CZ{J:It}{H1:Hp}{xs:List V}{σ:St}{te:TE}{Q:VK}{P:Addr}(jw:JW J H1 xs)(hP:H1 P=some (fE P))(bv:Nat->Bool)
  (hs:∀i x,xs[i]?=some x-> ∀H' (Q':VK),az H1 H'->(∀H2,az H' H2->Q' (.bl (bv i)) H2) ->te (some x::σ) H' Q')
  (hq:∀b H',az H1 H'->(b=true↔ ∀j,j<xs.length->bv j=true) ->Q (.bl b) H'):
  NS 1 P (dZ 0) te σ J H1 Q:=
 ⟨hP,Jo jw (λi v=>v= .bl (bv i)) (λi x ex H' Q' sm k=>hs i x ex H' Q' sm λH2 s2=>k _ _ rfl s2) ⟨bv,λi v _ r=>r,λhb σ' H' w=>hq _ H' w.2 ⟨λ_=>hb,λ_=>rfl⟩,
  λj hj hb _ σ' H' w=>hq _ H' w.2 ⟨λz=>(by cases z),λz=>by rw[z j hj]at hb;cases hb⟩⟩⟩
structure Gz(K:PySem.W.Frag)(x qual:Str)(st:Stmt)(f:Addr)(fd:FuncData)(T:Addr):Prop where
 ex:∃(oc:Value)(od:Option Addr)(kV doc pm:Value)(an:Option Addr)(cdv ct:Value)(osl:Array (Option Value)),
  fd=PySem.W.fnOf x qual (gZ st) (fL st) (aC st) .none kV doc pm an cdv ct/\K.lookup f=some ⟨oc,od,.func fd,osl⟩/\PySem.W.codeIn K cdv qual=true/\gP K cdv T
 kp:PySem.W.keepIn K (.ref f)=true
theorem Gz.ok{P:Program}{w:World}{K:PySem.W.Frag}{mg:Str->Option Value}{base:Heap}{x qual:Str}{st:Stmt}{f T:Addr}{fd:FuncData}{N ps:List Str}{k:Nat}{sp:Sp}(F:Gz K x qual st f fd T)(S:aR N ps (aC st))(len:∀vs H Q E,sp vs H Q E->vs.length=ps.length)
  (hbody:∀(cdv:Value)(A:Around)(outer:List Env)(s:Shared)(H:Hp)(vs:List V)(Q:VK)(E:XK),gP K cdv T->fS k (A.deeper (envOfC qual (aC st) s.heap.objs.size f cdv)) ->sp vs H Q E->
   ∃t,yZ (zh dz P w K mg base N qual (aC st) f cdv A outer s H E).HW (fL st) t/\t {nx:=λ_ H'=>Q .gK H',rt:=Q} (start N vs) H):pJ P w K mg base dz (k+1) f fd ps sp:=by
 obtain⟨oc,od,kV,doc,pm,an,cdv,ct,osl,rfl,lk,hcd,cd⟩:=F.ex
 refine NK lk hcd S len λA outer s H vs Q E hr Lw=> ?_
 obtain⟨t,h,q⟩:=hbody cdv A outer s H vs Q E cd hr Lw
 exact⟨t,h.HW,q⟩
theorem Gz.fn{K:PySem.W.Frag}{x qual:Str}{st:Stmt}{f T:Addr}{fd:FuncData}(F:Gz K x qual st f fd T):NN K x qual st f fd:=by
 obtain⟨oc,od,kV,doc,pm,an,cdv,ct,osl,e,lk,hcd,cd⟩:=F.ex
 exact⟨⟨oc,od,kV,doc,pm,an,cdv,ct,osl,e,lk,hcd⟩,F.kp⟩
theorem ly{X:Cx}{e:Expr}{t:TE}(h:PE X e t):PE X e t:=h
theorem bits_le{k:Int}{n:Nat}(h:k.natAbs<2^n):Builtin.Int.intBits k<=n:=by
 unfold Builtin.Int.intBits
 split
 ·exact Nat.zero_le _
 ·rename_i h0
  have h1:k.natAbs≠0:=λz=>h0 (by have:k=0:=Int.natAbs_eq_zero.mp z;rw[this];rfl)
  exact(Nat.log2_lt h1).mpr h
noncomputable def nI(i j:Int):Prop:=i.natAbs<2^4096/\j.natAbs<2^4096
theorem nI.ok{i j:Int}(h:nI i j):IntMulOk i j:=by
 have h1:=bits_le h.1
 have h2:=bits_le h.2
 have h3:Builtin.Int.intTooBig (Builtin.Int.intBits i+Builtin.Int.intBits j)=false:=by
  unfold Builtin.Int.intTooBig
  refine decide_eq_false ?_
  have:((Builtin.Int.intBits i+Builtin.Int.intBits j:Nat):Int)<=8192:=by omega
  have e:(8192:Int)<=((bitsLine:Nat):Int):=by decide
  omega
 unfold IntMulOk
 rw[h3]
 simp
section
variable{X:Cx}
theorem aE:qz X (binaryOp .Mult) (rI nI λi j=> .int (i*j)):=OO λ_ _ _ _ _ _ _ hc q=>mul_int q hc.ok
noncomputable def Sd(i j:Int):Prop:=0<j/\j.natAbs.log2<9000
theorem nV:qz X (binaryOp .FloorDiv) (rI Sd λi j=> .int (i/j)):=OO λi j _ _ _ _ _ hc q=>by
 have h1:(0:Int)<j:=hc.1
 exact floordiv_int (by omega) (by rw[Int.fdiv_eq_ediv_of_nonneg i (by omega)];exact q) (.inl (PyProof.noPylong_of_log2 hc.2))
end
noncomputable def Tab(H:Hp)(t:Addr)(bs:List Addr)(m:List (List Int)):Prop:=H t=some (.lst (bs.map V.ref))/\Paired (λrow b=>H b=some (.lst (row.map V.int))) m bs
theorem Tab.same{H H':Hp}{t:Addr}{bs:List Addr}{m:List (List Int)}(s:az H H')(h:Tab H t bs m):Tab H' t bs m:=⟨s _ _ h.1,h.2.Gy λ_ _ _ q=>s _ _ q⟩
noncomputable def bE(m:List (List Int)):Prop:=m.length=3/\ ∀r∈m,r.length=3
theorem Pr{H:Hp}{m:List (List Int)}{bs:List Addr}(pr:Paired (λrow b=>H b=some (.lst (row.map V.int))) m bs){b:Addr}(hb:b∈bs):∃row,row∈m/\H b=some (.lst (row.map V.int)):=by
 induction pr with
 |nil=>cases hb
 | @cons r c m bs h t ih=>
  rcases List.mem_cons.mp hb with e|hb
  ·exact⟨r,List.mem_cons_self,by rw[e];exact h⟩
  ·obtain⟨row,q1,q2⟩:=ih hb
   exact⟨row,List.mem_cons_of_mem _ q1,q2⟩
theorem Tab.upd{H:Hp}{t x:Addr}{bs:List Addr}{m:List (List Int)}{o:HO}(h:Tab H t bs m)(h1:t≠x)(h2:x∉bs):Tab (upd H x o) t bs m:=
 ⟨by rw[aG h1];exact h.1,h.2.Gy λr b hb e=>by rw[aG (λz=>h2 (by rw[<-z];exact hb))];exact e⟩
theorem Tab.apart{H:Hp}{t x:Addr}{bs:List Addr}{m:List (List Int)}(h:Tab H t bs m)(hx:H x=none):t≠x/\x∉bs:=by
 refine⟨eV h.1 hx,λz=> ?_⟩
 obtain⟨r,_,e⟩:=Pr h.2 z
 rw[e]at hx;cases hx
theorem Be{K:PySem.W.Frag}{H:Hp}:∀r:List Int,CV K H (r.map V.int) (r.map PyData.int)
 | []=> .nil
 |x::r=> .cons (.int x) (Be r)
theorem NV{K:PySem.W.Frag}{H:Hp}{t:Addr}{bs:List Addr}{m:List (List Int)}(h:Tab H t bs m):Ba K H (.ref t) (Pj m):=by
 obtain⟨e,pr⟩:=h
 refine .lst (aU.of e) ?_
 clear e
 induction pr with
 |nil=>exact .nil
 | @cons r b m bs h t ih=>exact .cons (.lst (aU.of h) (Be r)) ih
theorem nW{bs:List Addr}{x:V}(h:x∈bs.map V.ref):∃b,x= .ref b/\b∈bs:=by
 obtain⟨b,hb,e⟩:=List.mem_map.mp h
 exact⟨b,e.symm,hb⟩
noncomputable def ent(m:List (List Int))(i j:Nat):Int:=(m.getD i []).getD j 0
noncomputable def mk3(g:Nat->Nat->Int):List (List Int):=[[g 0 0,g 0 1,g 0 2],[g 1 0,g 1 1,g 1 2],[g 2 0,g 2 1,g 2 2]]
theorem cP(g:Nat->Nat->Int):bE (mk3 g):=⟨rfl,λr hr=>by
 simp only[mk3,List.mem_cons,List.not_mem_nil,or_false]at hr
 rcases hr with rfl|rfl|rfl<;>rfl⟩
theorem aN{i:Nat}(h:i<3):i=0∨i=1∨i=2:=by omega
theorem cZ(g:Nat->Nat->Int){i j:Nat}(hi:i<3)(hj:j<3):ent (mk3 g) i j=g i j:=by
 rcases aN hi with rfl|rfl|rfl<;>rcases aN hj with rfl|rfl|rfl<;>rfl
theorem mF{m:List (List Int)}(h:bE m):m=mk3 (ent m):=by
 obtain⟨h1,h2⟩:=h
 match m,h1,h2 with
 | [r0,r1,r2],_,h2=>
  have l0:=h2 r0 (by simp)
  have l1:=h2 r1 (by simp)
  have l2:=h2 r2 (by simp)
  match r0,r1,r2,l0,l1,l2 with
  | [a,b,c],[d,e,f],[g,h,i],_,_,_=>rfl
theorem iR{xs:List V}{i:Nat}{v:V}(h:xs[i]?=some v):zo xs (i:Int)=some v:=ES h
theorem EZ{H:Hp}{t:Addr}{bs:List Addr}{m:List (List Int)}(h:Tab H t bs m){i:Nat}(hi:i<m.length):∃b row,zo (bs.map V.ref) (i:Int)=some (.ref b)/\H b=some (.lst (row.map V.int))/\m[i]?=some row/\b∈bs:=by
 obtain⟨_,pr⟩:=h
 have q:∀{m:List (List Int)}{bs:List Addr}{i:Nat},Paired (λrow b=>H b=some (.lst (row.map V.int))) m bs->i<m.length-> ∃b row,bs[i]?=some b/\H b=some (.lst (row.map V.int))/\m[i]?=some row:=by
  intro m bs i pr
  induction pr generalizing i with
  |nil=>intro hi;exact absurd hi (Nat.not_lt_zero _)
  | @cons r b m bs h t ih=>
   intro hi
   cases i with
   |zero=>exact⟨b,r,rfl,h,rfl⟩
   |succ i=>
    obtain⟨b',r',e1,e2,e3⟩:=ih (i:=i) (by simpa using hi)
    exact⟨b',r',by simpa using e1,e2,by simpa using e3⟩
 obtain⟨b,row,e1,e2,e3⟩:=q pr hi
 exact⟨b,row,iR (by rw[List.getElem?_map,e1];rfl),e2,e3,List.mem_of_getElem? e1⟩
theorem kQ{H:Hp}{t:Addr}{bs:List Addr}{m:List (List Int)}(h:Tab H t bs m)(b7:bE m){i j:Nat}(hi:i<3)(hj:j<3):
  ∃(b:Addr)(row:List Int),zo (bs.map V.ref) (i:Int)=some (.ref b)/\H b=some (.lst (row.map V.int))/\zo (row.map V.int) (j:Int)=some (.int (ent m i j)):=by
 obtain⟨b,row,e1,e2,e3,_⟩:=EZ h (i:=i) (by rw[b7.1];exact hi)
 refine⟨b,row,e1,e2,iR ?_⟩
 have rl:row.length=3:=b7.2 row (List.mem_of_getElem? e3)
 have e4:m.getD i []=row:=by rw[List.getD_eq_getElem?_getD,e3];rfl
 rw[List.getElem?_map,List.getElem?_eq_getElem (by rw[rl];exact hj)]
 unfold ent
 rw[e4,List.getD_eq_getElem?_getD,List.getElem?_eq_getElem (by rw[rl];exact hj)]
 rfl
theorem aZ{H:Hp}{t:Addr}{bs:List Addr}{m:List (List Int)}(h:Tab H t bs m)(b7:bE m){i:Nat}(hi:i<3):
  ∃b,zo (bs.map V.ref) (i:Int)=some (.ref b)/\H b=some (.lst [.int (ent m i 0),.int (ent m i 1),.int (ent m i 2)])/\b∈bs:=by
 obtain⟨b,row,e1,e2,e3,e5⟩:=EZ h (i:=i) (by rw[b7.1];exact hi)
 refine⟨b,e1,?_,e5⟩
 have rl:row.length=3:=b7.2 row (List.mem_of_getElem? e3)
 have e4:m.getD i []=row:=by rw[List.getD_eq_getElem?_getD,e3];rfl
 rw[e2]
 unfold ent
 rw[e4]
 match row,rl with
 | [a,b,c],_=>rfl
noncomputable def Bd(n:Nat)(m:List (List Int)):Prop:=∀i j,i<3->j<3->(ent m i j).natAbs<2^n
theorem Bd.mono{a b:Nat}{m:List (List Int)}(h:Bd a m)(hab:a<=b):Bd b m:=λi j hi hj=>Nat.lt_of_lt_of_le (h i j hi hj) (Nat.pow_le_pow_right (by decide) hab)
theorem cH{x y:Int}{a b:Nat}(hx:x.natAbs<2^a)(hy:y.natAbs<2^b):(x*y).natAbs<2^(a+b):=by
 rw[Int.natAbs_mul,Nat.pow_add]
 exact Nat.mul_lt_mul_of_lt_of_lt hx hy
theorem mG{x y:Int}{a:Nat}(hx:x.natAbs<2^a)(hy:y.natAbs<2^a):(x+y).natAbs<2^(a+1):=by
 have e:2^(a+1)=2^a+2^a:=by rw[Nat.pow_succ];omega
 omega
theorem lz{x y:Int}{a:Nat}(hx:x.natAbs<2^a)(hy:y.natAbs<2^a):(x-y).natAbs<2^(a+1):=by
 have e:2^(a+1)=2^a+2^a:=by rw[Nat.pow_succ];omega
 omega
theorem aL{x:Int}{a b:Nat}(hx:x.natAbs<2^a)(h:a<=b):x.natAbs<2^b:=Nat.lt_of_lt_of_le hx (Nat.pow_le_pow_right (by decide) h)
noncomputable def gu(a b:List (List Int)):List (List Int):=mk3 λi j=>ent a i 0*ent b 0 j+ent a i 1*ent b 1 j+ent a i 2*ent b 2 j
noncomputable def dH(a:List (List Int)):List (List Int):=mk3 λi j=>ent a j i
theorem uH{a b:List (List Int)}{p q:Nat}(ha:Bd p a)(hb:Bd q b):Bd (p+q+2) (gu a b):=λi j hi hj=>by
 unfold gu
 rw[cZ _ hi hj]
 exact mG (mG (cH (ha i 0 hi (by decide)) (hb 0 j (by decide) hj)) (cH (ha i 1 hi (by decide)) (hb 1 j (by decide) hj))) (aL (cH (ha i 2 hi (by decide)) (hb 2 j (by decide) hj)) (Nat.le_succ _))
theorem Bf{a:List (List Int)}{p:Nat}(ha:Bd p a):Bd p (dH a):=λi j hi hj=>by
 unfold dH
 rw[cZ _ hi hj]
 exact ha j i hj hi
theorem vz(K:PySem.W.Frag)(n:String):PySem.W.kitOne K (.type n) (.type n)=some true:=by
 unfold PySem.W.kitOne
 rw[if_pos (by simp)]
theorem zA(K:PySem.W.Frag):PySem.W.kitOne K (.type "int") (.type "bool")=some false:=by kernel_rfl
theorem Pu{xs:List V}{k:Int}(h0:0<=k)(h:k<(xs.length:Int)):∃v,zo xs k=some v/\xs[k.toNat]?=some v:=by
 have hk:k.toNat<xs.length:=by omega
 have ek:k=((k.toNat:Nat):Int):=by omega
 have q:zo xs ((k.toNat:Nat):Int)=some xs[k.toNat]:=ES (by rw[List.getElem?_eq_getElem hk])
 rw[<-ek]at q
 exact⟨xs[k.toNat],q,by rw[List.getElem?_eq_getElem hk]⟩
theorem Mq{ns:List Int}{k:Int}(h0:0<=k)(h:k<(ns.length:Int)):∃z:Int,zo (ns.map V.int) k=some (.int z):=by
 obtain⟨v,h1,h2⟩:=Pu (xs:=ns.map V.int) h0 (by rw[List.length_map];exact h)
 rw[List.getElem?_map]at h2
 cases q:ns[k.toNat]? with
 |none=>rw[q]at h2;cases h2
 |some z=>rw[q]at h2;cases h2;exact⟨z,h1⟩
theorem at2{x y:V}{i:Int}(h0:0<=i)(h:i<2):∃v,zo [x,y] i=some v/\(v=x∨v=y):=by
 have c:i=0∨i=1:=by omega
 rcases c with rfl|rfl
 ·exact⟨x,rfl,.inl rfl⟩
 ·exact⟨y,rfl,.inr rfl⟩
section
variable{X:Cx}
end
theorem qE{J:It}{xs:List V}{H1:Hp}{σ:St}{te:TE}{Q:VK}{D:Addr}(jw:JW J H1 xs)(h3:xs.length=3)(hD:H1 D=none)(g:Nat->Int)(hs:∀j x,j<3->xs[j]?=some x-> ∀H' (Q':VK),az H1 H'->(∀H2,az H' H2->Q' (.int (g j)) H2) ->te (some x::σ) H' Q')
  (hq:∀H',az H1 H'->H' D=some (.lst [.int (g 0),.int (g 1),.int (g 2)]) ->Q (.ref D) H'):nQ 1 (dZ 0) te σ J H1 D Q:=by
 refine uG jw (by rw[h3];decide) hD (λpre acc H'=>acc=(List.range pre.length).map λj=>V.int (g j)) rfl (λpre x post acc H' Q' e hl sm eD p k=> ?_) (λacc H' hl sm eD p=> ?_)
 ·have hlen:pre.length<3:=by
   have:=congrArg List.length e
   rw[h3]at this
   simp at this
   omega
  refine hs pre.length x hlen (by rw[e];simp) H' Q' sm λH2 s2=>k _ H2 s2 ?_
  rw[p]
  simp[List.range_succ]
 ·refine hq H' sm ?_
  rw[eD,p,h3]
  rfl
theorem zB{J:It}{xs:List V}{H1:Hp}{σ:St}{te:TE}{Q:VK}{D:Addr}(jw:JW J H1 xs)(h3:xs.length=3)(hD:H1 D=none)(g:Nat->Nat->Int)
  (hs:∀i x,i<3->xs[i]?=some x-> ∀H' (Q':VK),az H1 H'->(∀b H2,H' b=none->az H' H2->H2 b=some (.lst [.int (g i 0),.int (g i 1),.int (g i 2)]) ->Q' (.ref b) H2) ->te (some x::σ) H' Q')
  (hq:∀bs H',az H1 H'->(∀b∈bs,H1 b=none) ->D∉bs->Tab H' D bs (mk3 g) ->Q (.ref D) H'):nQ 1 (dZ 0) te σ J H1 D Q:=by
 refine uG jw (by rw[h3];decide) hD (λpre acc H'=> ∃bs:List Addr,acc=bs.map V.ref/\(∀b∈bs,H1 b=none)/\D∉bs/\Paired (λi b=>H' b=some (.lst [.int (g i 0),.int (g i 1),.int (g i 2)])) (List.range pre.length) bs) ⟨[],rfl,λ_ h=>(nomatch h),by simp,.nil⟩ (λpre x post acc H' Q' e hl sm eD p k=> ?_) (λacc H' hl sm eD p=> ?_)
 ·obtain⟨bs,rfl,fr,nD,pr⟩:=p
  have hlen:pre.length<3:=by
   have:=congrArg List.length e
   rw[h3]at this
   simp at this
   omega
  refine hs pre.length x hlen (by rw[e];simp) H' _ sm λb H2 hb s2 eb=>k _ _ s2 ⟨bs++ [b],by simp,?_,?_,?_⟩
  ·intro c hc
   rcases List.mem_append.mp hc with z|z
   ·exact fr c z
   ·rw[List.mem_singleton.mp z];exact sm.none hb
  ·intro z
   rcases List.mem_append.mp z with z|z
   ·exact nD z
   ·rw[<-List.mem_singleton.mp z,eD]at hb;cases hb
  ·have nb:b≠D:=λz=>by rw[z,eD]at hb;cases hb
   have er:List.range (pre++ [x]).length=List.range pre.length++ [pre.length]:=by simp[List.range_succ]
   rw[er]
   refine Paired.snoc (pr.Gy λy c hc q=> ?_) (by rw[aG nb];exact eb)
   rw[aG (λz=>nD (by rw[<-z];exact hc))]
   exact s2 _ _ q
 ·obtain⟨bs,rfl,fr,nD,pr⟩:=p
  refine hq bs H' sm fr nD ⟨eD,?_⟩
  rw[h3]at pr
  have Vs:Paired (λi b=>H' b=some (.lst [.int (g i 0),.int (g i 1),.int (g i 2)])) [0,1,2] bs:=pr
  cases Vs with
  |cons h0 t0=>cases t0 with
   |cons h1 t1=>cases t1 with
    |cons h2 t2=>
     cases t2
     exact .cons h0 (.cons h1 (.cons h2 .nil))
theorem fN{n k:Nat}{x:V}(h:(mE n)[k]?=some x):k<n/\x= .int (k:Int):=by
 unfold mE at h
 rw[List.getElem?_map]at h
 cases q:(List.range n)[k]? with
 |none=>rw[q]at h;cases h
 |some z=>
  rw[q]at h
  have hz:=List.getElem?_eq_some_iff.mp q
  obtain⟨h1,h2⟩:=hz
  have Vt:k<n:=by simpa using h1
  rw[List.getElem_range]at h2
  subst h2
  cases h
  exact⟨Vt,rfl⟩
theorem Vu(val:Nat->Int):preSum val 3=val 0+val 1+val 2:=by simp[preSum]
theorem Jp{d:PyData}(h:SeqAt.shaped d=true):PyData.eqv d d=true:=SeqAt.eqv_refl d (SeqAt.canLay_of_shaped h)
theorem Mr{K:PySem.W.Frag}{H:Hp}{x y:V}{Q:VK}(d:PyData)(hx:Ba K H x d)(hy:Ba K H y d)(hs:SeqAt.shaped d=true)(q:Q (.bl true) H):Sa K false x y H Q:=
 ⟨d,d,hx,hy,hs,hs,by rw[Jp hs];exact q⟩
theorem gm{f g:Nat->Nat->Int}(h:∀i j,i<3->j<3->f i j=g i j):mk3 f=mk3 g:=by
 simp only[mk3,h 0 0 (by decide) (by decide),h 0 1 (by decide) (by decide),h 0 2 (by decide) (by decide),h 1 0 (by decide) (by decide),h 1 1 (by decide) (by decide),h 1 2 (by decide) (by decide),h 2 0 (by decide) (by decide),h 2 1 (by decide) (by decide),h 2 2 (by decide) (by decide)]
theorem aS(a b:List (List Int)){i j:Nat}(hi:i<3)(hj:j<3):ent (gu a b) i j=ent a i 0*ent b 0 j+ent a i 1*ent b 1 j+ent a i 2*ent b 2 j:=cZ _ hi hj
theorem aX(a:List (List Int)){i j:Nat}(hi:i<3)(hj:j<3):ent (dH a) i j=ent a j i:=cZ _ hi hj
theorem vB(a b c:List (List Int)):gu (gu a b) c=gu a (gu b c):=by
 refine gm λi j hi hj=> ?_
 rw[aS a b hi (by decide),aS a b hi (by decide),aS a b hi (by decide),aS b c (by decide) hj,aS b c (by decide) hj,aS b c (by decide) hj]
 grind
theorem pP(a b:List (List Int)):dH (gu a b)=gu (dH b) (dH a):=by
 refine gm λi j hi hj=> ?_
 rw[aS a b hj hi,aX b hi (by decide),aX b hi (by decide),aX b hi (by decide),aX a (by decide) hj,aX a (by decide) hj,aX a (by decide) hj]
 grind
theorem Bg{a:List (List Int)}(h:bE a):dH (dH a)=a:=by
 rw[mF h]
 refine gm λi j hi hj=> ?_
 rw[aX _ hj hi,cZ _ hi hj]
noncomputable def br(m b:List (List Int)):List (List Int):=gu (gu b m) (dH b)
theorem oN(m b c:List (List Int)):br (br m b) c=br m (gu c b):=by
 unfold br
 simp only[pP,vB]
theorem yk{m:List (List Int)}(b:List (List Int))(hb:bE b):dH (br m b)=br (dH m) b:=by
 unfold br
 rw[pP,pP,Bg hb,vB]
noncomputable def iN(m:List (List Int))(i j:Nat):Int:=ent m ((i+1)%3) ((j+1)%3)*ent m ((i+2)%3) ((j+2)%3) -ent m ((i+1)%3) ((j+2)%3)*ent m ((i+2)%3) ((j+1)%3)
noncomputable def aA(m:List (List Int)):Int:=ent m 0 0*iN m 0 0+ent m 0 1*iN m 0 1+ent m 0 2*iN m 0 2
theorem dI(m:List (List Int)):aA m=ent m 0 0*(ent m 1 1*ent m 2 2-ent m 1 2*ent m 2 1)+ent m 0 1*(ent m 1 2*ent m 2 0-ent m 1 0*ent m 2 2)+ent m 0 2*(ent m 1 0*ent m 2 1-ent m 1 1*ent m 2 0):=rfl
theorem lW(a b:List (List Int)):aA (gu a b)=aA a*aA b:=by
 rw[dI,dI,dI]
 simp only[aS a b (show 0<3 by decide) (show 0<3 by decide),aS a b (show 0<3 by decide) (show 1<3 by decide),aS a b (show 0<3 by decide) (show 2<3 by decide),aS a b (show 1<3 by decide) (show 0<3 by decide),aS a b (show 1<3 by decide) (show 1<3 by decide),aS a b (show 1<3 by decide) (show 2<3 by decide),aS a b (show 2<3 by decide) (show 0<3 by decide),aS a b (show 2<3 by decide) (show 1<3 by decide),aS a b (show 2<3 by decide) (show 2<3 by decide)]
 grind
theorem m3(i:Nat)(k:Nat):((i:Int)+(k:Int))%3=(((i+k)%3:Nat):Int):=by omega
theorem wY(i:Nat):i%3<3:=Nat.mod_lt _ (by decide)
theorem zC(f:Nat->Int){c:Nat}(h:c<3):zo [V.int (f 0),.int (f 1),.int (f 2)] (c:Int)=some (.int (f c)):=by
 rcases aN h with rfl|rfl|rfl<;>rfl
theorem Fb{m:List (List Int)}{n:Nat}(h:Bd n m)(i j:Nat):(iN m i j).natAbs<2^(n+n+1):=
 lz (cH (h _ _ (wY _) (wY _)) (h _ _ (wY _) (wY _))) (cH (h _ _ (wY _) (wY _)) (h _ _ (wY _) (wY _)))
theorem kR{H:Hp}{t b0 b1 b2:Addr}(g:Nat->Nat->Int)(e:H t=some (.lst [.ref b0,.ref b1,.ref b2]))(h0:H b0=some (.lst [.int (g 0 0),.int (g 0 1),.int (g 0 2)]))(h1:H b1=some (.lst [.int (g 1 0),.int (g 1 1),.int (g 1 2)]))
  (h2:H b2=some (.lst [.int (g 2 0),.int (g 2 1),.int (g 2 2)])):Tab H t [b0,b1,b2] (mk3 g):=⟨e,.cons h0 (.cons h1 (.cons h2 .nil))⟩
noncomputable def ju(m:List (List Int)):List (List Int):=mk3 λi j=>iN m j i
noncomputable def gU(d:Int):List (List Int):=mk3 λi j=>if i=j then d else 0
theorem nX(m:List (List Int)){i j:Nat}(hi:i<3)(hj:j<3):ent (ju m) i j=iN m j i:=cZ _ hi hj
theorem Bh(m:List (List Int)):gu (ju m) m=gU (aA m):=by
 refine gm λi j hi hj=> ?_
 rw[nX m hi (by decide),nX m hi (by decide),nX m hi (by decide),dI]
 rcases aN hi with rfl|rfl|rfl<;>rcases aN hj with rfl|rfl|rfl<;>simp only[iN,Nat.reduceAdd,Nat.reduceMod,Nat.reduceEqDiff,if_true,if_false]<;>grind
structure Jq(X:Cx)(st:List Stmt)(t:TS):Prop where
 h:yZ X st t
theorem oO{X:Cx}{st:List Stmt}{t:TS}(h:Jq X st t):yZ X st t:=h.h
theorem aB{X:Cx}{a:Stmt}{b:List Stmt}{ta tb:TS}(ha:PS X a ta)(hb:Jq X b tb):Jq X (a::b) (CK ta tb):=⟨Ij ha hb.h⟩
theorem aT{X:Cx}{a:Stmt}{ta:TS}(ha:PS X a ta):Jq X [a] ta:=⟨cF ha⟩
section
variable{X:Cx}{pins:List (Addr×Obj)}{σ:St}{H:Hp}{s:Shared}{h':Heap}
theorem Inv.qF{t':Nat}{ch:List Addr}(I:Inv X pins σ H s)(k:∀b o,b∉ch->s.heap.get? b=some o->h'.get? b=some o)(hf:∀b∈ch,fW X pins H b):Inv X pins σ H {s with heap:=h',toks:=t'}:=by
 have Rn:∀b u,H b=some u->b∉ch:=λb u e z=>by have:=(hf b z).1;rw[e]at this;cases this
 refine I.step (g':=s.gens) (d':=s.drawn) (ch:=ch) (λb hb=> ?_) (λb o _ _ hc e _=>k b o hc e) (λb o _ _ hc e _=>⟨o.slots,k b o hc e⟩) (λ_ _ _ _ n=>n)
  (λb o hc e=>⟨o,k b o hc e⟩) (λ_ _ e=>e) (λ_ _ _ e=>e) (λb ps e=>⟨#[],by rw[e];simp⟩) (λm hm=> ?_) (λb u e=> ?_) (.refl I.bare.bare)
 ·obtain⟨f0,f1,f2,f3,f4,f5⟩:=hf b hb
  exact⟨f3,f1,f4,f5⟩
 ·obtain⟨o,es,ep,ho,r⟩:=hm
  exact⟨o,es,ep,k _ o (λz=>(hf _ z).2.1 rfl) ho,r⟩
 ·refine(I.hok b u e).stay (λc v hc q=>k c v ?_ q) (λ_ q=>q) λ_ _ q=>q
  rcases hc with z|z
  ·rw[z];exact Rn b u e
  ·exact Rn c _ z
theorem Inv.NW{T:Addr}{o:HO}(I:Inv X pins σ H s)(hf:fW X pins H T)(new:f6 X.prog X.w (upd H T o) s.heap T o):Inv X pins σ (upd H T o) s:=by
 obtain⟨f0,f1,f2,f3,f4,f5⟩:=hf
 have ne:∀{b u},H b=some u->b≠T:=λ {b u} e z=>by rw[z,f0]at e;cases e
 refine I.step (g':=s.gens) (d':=s.drawn) (t':=s.toks) (h':=s.heap) (ch:=[T]) (λb hb=> ?_) (λb o _ _ _ e _=>e) (λb o _ _ _ e _=>⟨o.slots,e⟩) (λb o hc _ n=> ?_)
  (λb o _ e=>⟨o,e⟩) (λb xs e=>by rw[aG (ne e)];exact e) (λb _ _ e=>by rw[aG (ne e)];exact e) (λb ps e=>⟨#[],by rw[aG (ne e),e];simp⟩) (λm hm=>hm) (λb u e=> ?_) (.refl I.bare.bare)
 ·have e:b=T:=by simpa using hb
  subst e
  exact⟨f3,f1,f4,f5⟩
 ·rw[aG (λz=>hc (by simp[z]))];exact n
 ·by_cases hb:b=T
  ·subst hb;rw[ao]at e;cases e;exact new
  ·rw[aG hb]at e
   exact(I.hok b u e).stay (λc v _ q=>q) (λc q=>by rw[aG (ne q)];exact q) (λc xs q=>by rw[aG (ne q)];exact q) λc ob xs q=>by rw[aG (ne q)];exact q
end
noncomputable def Se(K:PySem.W.Frag)(a b:Addr):It:=
 ⟨λi H=> ∃xs ys x y,aU K H a xs/\aU K H b ys/\xs[i]?=some x/\ys[i]?=some y,
  λi H v H'=> ∃T x y,v= .ref T/\H T=none/\(∀xs,aU K H a xs->xs[i]?=some x)/\(∀ys,aU K H b ys->ys[i]?=some y)/\H'=upd H T (.tup [x,y]),
  λi H=> ∃xs ys,aU K H a xs/\aU K H b ys/\(xs.length<=i∨ys.length<=i)⟩
noncomputable def Sf(z TI TO i1 i2 a b:Addr)(i:Nat)(h:Heap):Prop:=
 IsZip h z TI TO .none/\IsPair h TI (.ref i1) (.ref i2)/\(∃p q,IsPair h TO p q)/\h.IsListIter i1 a i/\h.IsListIter i2 b i
theorem Jr{P:Program}{w:World}{K:PySem.W.Frag}{elts:List Expr}{x1}{pos:Pos}(z TI TO i1 i2 a b:Addr)(D:ZipApart z TI TO i1 i2 a b):Turn P w K (.Tuple elts x1 pos) (Se K a b) [z,TI,TO,i1,i2] z (Sf z TI TO i1 i2 a b) where
 mem:=by simp
 obj:=λi h st c hc=>by
  obtain⟨hz,hTI,⟨p,q,hTO⟩,⟨o1,e1,c1,d1⟩,⟨o2,e2,c2,d2⟩⟩:=st
  simp only[List.mem_cons,List.not_mem_nil,or_false]at hc
  rcases hc with rfl|rfl|rfl|rfl|rfl
  ·exact⟨_,hz,λv e=>by cases e⟩
  ·exact⟨_,hTI,λv e=>by cases e⟩
  ·exact⟨_,hTO,λv e=>by cases e⟩
  ·exact⟨_,e1,λv e=>by rw[d1]at e;cases e⟩
  ·exact⟨_,e2,λv e=>by rw[d2]at e;cases e⟩
 keep:=λi h h' st k=>by
  obtain⟨hz,hTI,⟨p,q,hTO⟩,h1,h2⟩:=st
  exact⟨k z (by simp) _ hz,k TI (by simp) _ hTI,⟨p,q,k TO (by simp) _ hTO⟩,h1.at λo e=>k i1 (by simp) o e,h2.at λo e=>k i2 (by simp) o e⟩
 item:=by
  intro X hP hw hK hc i pins s σ H E I hf st hg
  subst hP hw hK
  obtain⟨xs,ys,x,y,Uc,Ud,hx,hy⟩:=hg
  obtain⟨hz,hTI,⟨p,q,hTO⟩,h1,h2⟩:=st
  obtain⟨ia,ra,pa,za⟩:=I.list Uc
  obtain⟨ib,rb,pb,zb⟩:=I.list Ud
  obtain⟨u,hu,ru⟩:=ra.get hx
  obtain⟨v,hv,rv⟩:=rb.get hy
  refine wpAny_pyNext_zip_item D hz hTI hTO h1 h2 pa.isList pb.isList (x:=u) (y:=v) (by simpa using hu) (by simpa using hv) λh' a1 a2 a3 a4 a5 a6 hk=> ?_
  refine⟨_,rfl,?_⟩
  have Vv:=hk _ _ D.TIz D.TITO D.TIi1 D.TIi2 hTI
  have f4:∀c∈ [z,TO,i1,i2],fW X pins H c:=λc hc=>hf c (by simp only[List.mem_cons,List.not_mem_nil,or_false]at hc ⊢;rcases hc with rfl|rfl|rfl|rfl<;>simp)
  have I1:Inv X pins σ H {s with heap:=h'}:=I.qF (t':=s.toks) (ch:=[z,TO,i1,i2]) (λc o hc e=>hk c o (λq=>hc (by simp[q])) (λq=>hc (by simp[q])) (λq=>hc (by simp[q])) (λq=>hc (by simp[q])) e) f4
  have hn:H s.heap.objs.size=none:=I.hok.fresh (Nat.le_refl _)
  have fT:=I.Gd (b:=s.heap.objs.size) (Nat.le_refl _) hn
  have I2:Inv X pins σ (upd H s.heap.objs.size (.tup [x,y])) {s with heap:=h'}:=I1.NW fT ⟨by show 2<=sizeLine;decide,[u,v],.cons ru (.cons rv .nil),⟨_,a5,rfl,_,rfl⟩⟩
  refine wpAny_letOwnedTupleGo_zip (s:={s with heap:=h'}) a1 λh2' hz' hs'=> ?_
  have lt:∀{c o},s.heap.get? c=some o->c≠s.heap.objs.size:=λe=>Nat.ne_of_lt (Heap.lt_size e)
  obtain⟨o1,e1,_⟩:=id h1
  obtain⟨o2,e2,_⟩:=id h2
  have neT:∀c∈ [z,TI,TO,i1,i2],c≠s.heap.objs.size:=λc hc=>by
   simp only[List.mem_cons,List.not_mem_nil,or_false]at hc
   rcases hc with rfl|rfl|rfl|rfl|rfl
   ·exact lt hz
   ·exact lt hTI
   ·exact lt hTO
   ·exact lt e1
   ·exact lt e2
  obtain⟨g0,g1,g2,g3,g4,g5⟩:=hf z (by simp)
  have I3:Inv X pins σ (upd H s.heap.objs.size (.tup [x,y])) {s with heap:=h2'}:=Inv.turned (s:={s with heap:=h'}) (h':=h2') I2 (it:=z) (t':=s.toks) (λc o hc e=>hs'.extBut _ _ hc e) (by rw[aG (neT z (by simp))];exact g0) g1 g3 g4 g5
  refine⟨.ref s.heap.objs.size,_,I3,rfl,⟨_,x,y,rfl,hn,λzs hzs=>by rw[I.uQ hzs Uc];exact hx,λzs hzs=>by rw[I.uQ hzs Ud];exact hy,rfl⟩,?_,λc hc=> ?_⟩
  ·exact⟨hz',hs'.extBut _ _ D.TIz Vv,⟨_,_,hs'.extBut _ _ D.TOz a2⟩,a3.extBut hs'.extBut D.i1z,a4.extBut hs'.extBut D.i2z⟩
  ·rw[aG (neT c hc)];exact(hf c hc).1
 done:=by
  intro X hP hw hK hc i pins s σ H E I hf st hg
  subst hP hw hK
  obtain⟨xs,ys,Uc,Ud,hend⟩:=hg
  obtain⟨hz,hTI,⟨p,q,hTO⟩,h1,h2⟩:=st
  obtain⟨ia,ra,pa,za⟩:=I.list Uc
  obtain⟨ib,rb,pb,zb⟩:=I.list Ud
  have la:=ra.length
  have lb:=rb.length
  have f4:∀c∈ [z,TO,i1,i2],fW X pins H c:=λc hc=>hf c (by simp only[List.mem_cons,List.not_mem_nil,or_false]at hc ⊢;rcases hc with rfl|rfl|rfl|rfl<;>simp)
  refine wpAny_pyNext_zip_end (I.ok.hd hc) D hz hTI hTO h1 h2 pa.isList pb.isList (hend.imp (λq=>by simp;omega) (λq=>by simp;omega)) λh' hk=>⟨rfl,?_⟩
  exact I.qF (t':=s.toks) (ch:=[z,TO,i1,i2]) (λc o hc e=>hk c o (λq=>hc (by simp[q])) (λq=>hc (by simp[q])) (λq=>hc (by simp[q])) (λq=>hc (by simp[q])) e) f4
 self:=λ_ _ _ _ _ st h=>wpAny_pyIter_zip st.1 h
noncomputable def Vw(K:PySem.W.Frag)(ta:TA):TI:=λσ H R=>ta σ H λvs H1=> ∃a b xs ys,vs=[.ref a,.ref b]/\aU K H1 a xs/\aU K H1 b ys/\R (Se K a b) H1
section
variable{X:Cx}
theorem Dc{elts:List Expr}{x1}{tpos:Pos}{a b:Expr}{ta:TA}{p pos:Pos}(hg:Gl X "zip")(hm:X.mg "zip"=none)(ha:PA X [a,b] ta)(hs:starEach [a,b] X.env=[(false,eval a X.env),(false,eval b X.env)]:=by rfl)(hs2:starEach [b] X.env=[(false,eval b X.env)]:=by rfl):
  PI X (.Tuple elts x1 tpos) (.Call (.Name "zip" p) [a,b] [] pos) (Vw X.K ta):=by
 intro pins s σ H R I h
 refine Call_ (mh I hg hm boot_zip (PyProof.Rows.callWith_type1 (fZ (ha pos pins s σ H _ I h) λus s1 ⟨vs,H1,I1,r1,q1⟩=> ?_) (by rw[hs,hs2]) (by rw[hs2];rfl)))
 obtain⟨l1,l2,xs,ys,e,q1,q2,q⟩:=q1
 subst e
 cases r1 with
 |cons r rr=>
  cases rr with
  |cons r' rr=>
   cases rr
   cases r
   cases r'
   obtain⟨ia,ra,pa,za⟩:=I1.list q1
   obtain⟨ib,rb,pb,zb⟩:=I1.list q2
   have YD:l1<s1.heap.objs.size:=by obtain⟨o,e,_⟩:=pa.isList;exact Heap.lt_size e
   have Ms:l2<s1.heap.objs.size:=by obtain⟨o,e,_⟩:=pb.isList;exact Heap.lt_size e
   refine call_zip_2 pa.isList pb.isList λh' hz hTI hTO hi1 hi2 hsz hk=> ?_
   refine wpAny_pyIter_zip hz ?_
   refine⟨_,[s1.heap.objs.size+4,s1.heap.objs.size+2,s1.heap.objs.size+3,s1.heap.objs.size,s1.heap.objs.size+1],_,_,H1,rfl,I1.kept (t':=s1.toks) hk,Jr _ _ _ _ _ l1 l2 (zipApart_new YD Ms),⟨hz,hTI,⟨_,_,hTO⟩,hi1,hi2⟩,λc hc=> ?_,q⟩
   have hc':s1.heap.objs.size<=c:=by
    simp only[List.mem_cons,List.not_mem_nil,or_false]at hc
    rcases hc with rfl|rfl|rfl|rfl|rfl<;>first|exact Nat.le_refl _|exact Nat.le_add_right _ _
   exact I1.Gd hc' (I1.hok.fresh hc')
end
section
variable{X:Cx}{sc:Scope}{N2:List Str}{x y:Str}{px Fc tpos:Pos}{x1:Nat}{elt iter:Expr}{jt p pos:Pos}{wi:TI}{te:TE}{P:Addr}
theorem qG{own:List Str}{i:Nat}{z:Str}(B:qA sc.names X.env.scope.names own N2 X.N)(hz:own[i]?=some z)(s:Shared)(H:Hp)(fp:List Addr):PG (X.comp sc (own++N2) s H fp) (.Name z px) (dZ i):=by
 have hi:(X.comp sc (own++N2) s H fp).N[i]?=some z:=by
  show(own++N2)[i]?=some z
  rw[List.getElem?_append_left (List.getElem?_eq_some_iff.mp hz).1];exact hz
 rcases B.own z (List.mem_of_getElem? hz)with e|e
 ·exact aI (i:=i) B.Mc hi (.inl (j9 (env:=X.env) e (.inl rfl))) (.inr (j9 (env:=X.env) e (.inl rfl)))
 ·refine aI (i:=i) B.Mc hi (.inr (j9 (env:=X.env) e (.inr rfl))) (.inl ?_)
  show(sc.names.lookup z==some NameKind.cell)=true
  rw[e];rfl
noncomputable def g2(K:PySem.W.Frag):TG:=RB K 2 (Il (dZ 0) (Il (dZ 1) Rz))
theorem Js(hc:X.calm=true)(B:qA sc.names X.env.scope.names [x,y] N2 X.N)(s:Shared)(H:Hp)(fp:List Addr):PG (X.comp sc ([x,y]++N2) s H fp) (.Tuple [.Name x px,.Name y Fc] x1 tpos) (g2 X.K):=
 nM (X:=X.comp sc ([x,y]++N2) s H fp) hc (aJ (qG (i:=0) B rfl s H fp) (aJ (qG (i:=1) B rfl s H fp) fj))
theorem Dd(hc:X.calm=true)(hi:PI X (.Tuple [.Name x px,.Name y Fc] x1 tpos) iter wi)(hB:AV sc.names X.env.scope.names [x,y] N2 X.N=true)(hk:sc.kind= .function)(he:∀s H fp,PE (X.comp sc ([x,y]++N2) s H fp) elt te)
  (hs:∀x,foldedSetIterable iter X.env x=pure x:=by intro _;rfl):PE X (.ListComp elt [⟨.Tuple [.Name x px,.Name y Fc] x1 tpos,iter,[],0⟩] sc pos) (tP 2 wi (g2 X.K) te):=
 AX (own:=[x,y]) hc hi (j7 hB) hk (λs H fp=>Js hc (j7 hB) s H fp) he hs
end
theorem Bj{K:PySem.W.Frag}{H1:Hp}{a b:Addr}{xs ys:List V}{σ:St}{te:TE}{Q:VK}(ha:aU K H1 a xs)(hb:aU K H1 b ys)(hl:xs.length=ys.length)(hz:xs.length<=sizeLine){D:Addr}(hD:H1 D=none)(f:V->V->V)
  (hs:∀(i:Nat) x y,xs[i]?=some x->ys[i]?=some y-> ∀H' (Q':VK),az H1 H'->Q' (f x y) H'->te (some x::some y::σ) H' Q')
  (hq:∀H',az H1 H'->H' D=some (.lst (List.zipWith f xs ys)) ->Q (.ref D) H'):nQ 2 (g2 K) te σ (Se K a b) H1 D Q:=by
 refine⟨λi m acc σ' H'=>m=xs.length-i/\i<=xs.length/\acc=(List.zipWith f xs ys).take i/\(∃o o',σ'=o::o'::σ)/\az H1 H'/\H' D=some (.lst acc),⟨xs.length,rfl,Nat.zero_le _,by simp,⟨none,none,rfl⟩,az.up hD,ao⟩,?_⟩
 rintro i m acc σ' H' ⟨rfl,hi,hacc,⟨o,o',rfl⟩,sm,eD⟩
 have YE:acc.length=i:=by rw[hacc];simp;omega
 by_cases hlt:i<xs.length
 ·have hlt':i<ys.length:=by omega
  refine .inr ⟨⟨xs,ys,xs[i],ys[i],sm.seq ha,sm.seq hb,by simp[hlt],by simp[hlt']⟩,by omega,λv H2 yl=> ?_⟩
  obtain⟨T,x,y,rfl,hT,hx,hy,rfl⟩:=yl
  have ex:=hx xs (sm.seq ha)
  have ey:=hy ys (sm.seq hb)
  have s2:az H' (upd H' T (.tup [x,y])):=az.up hT
  refine⟨T,[x,y],rfl,pI.of ao,rfl,x,[y],rfl,y,[],rfl,rfl,?_⟩
  show te (some x::some y::σ) _ _
  refine hs i x y ex ey _ _ (sm.trans s2) ?_
  refine⟨s2 _ _ eD,xs.length- (i+1),by omega,rfl,hlt,?_,⟨_,_,rfl⟩,(sm.trans s2).upd hD,ao⟩
  rw[hacc,List.take_succ,List.getElem?_zipWith,ex,ey]
  rfl
 ·have e:i=xs.length:=by omega
  subst e
  refine .inl ⟨⟨xs,ys,sm.seq ha,sm.seq hb,.inl (Nat.le_refl _)⟩,eD,hq H' sm ?_⟩
  rw[eD,hacc]
  rw[List.take_of_length_le (by rw[List.length_zipWith];exact Nat.min_le_left ..)]
section
variable{X:Cx}{sc:Scope}{N2:List Str}{x y:Str}{px Fc:Pos}{elt iter kc:Expr}{jt p pos:Pos}{wi Ji:TI}{te:TE}{P:Addr}
theorem Fd{B:Around}{own:List Str}{i:Nat}{z:Str}(Bk:qA sc.names X.env.scope.names own N2 X.N)(hnc:∀y∈sc.names,y.2≠ .cell)(hz:own[i]?=some z)(code:Value)(s:Shared)(H:Hp)(fp:List Addr):PG (X.gen B sc (own++N2) code s H fp) (.Name z px) (dZ i):=by
 have hi:(X.gen B sc (own++N2) code s H fp).N[i]?=some z:=by
  show(own++N2)[i]?=some z
  rw[List.getElem?_append_left (List.getElem?_eq_some_iff.mp hz).1];exact hz
 rcases Bk.own z (List.mem_of_getElem? hz)with e|e
 ·exact aI (i:=i) Bk.Mc hi (.inl e) (.inr e)
 ·exact absurd rfl (hnc _ (mem_of_lookup e))
end
section
variable{prog:Program}{w:World}{A:Around}{E:Value->Shared->Prop}{s:Shared}
theorem ym{it t:Addr}{items:Array Value}(hne:t≠it):∀(n i:Nat)(s:Shared)(Q:List Value->Shared->Prop),s.heap.IsListIter it t i->s.heap.IsList t items->i+n<=items.size->
  (∀h',h'.IsListIter it t (i+n) ->Heap.SameBut it s.heap h'->Q ((items.toList.drop i).take n) {s with heap:=h'}) ->wpAny (model prog w) A (draw (.ref it) n) Q E s
 |0,i,s,Q,hit,_,_,hQ=>by
  show wpAny _ _ (pure []) Q E s
  exact wpAny_pure (by simpa using hQ s.heap hit (Heap.SameBut.refl ..))
 |n+1,i,s,Q,hit,ht,hle,hQ=>by
  have hlt:i<items.size:=by omega
  show wpAny _ _ (pyNext (.ref it)>>=_) Q E s
  refine wpAny_bind (wpAny_pyNext_list_item hit ht (x:=items[i]) (by simp[hlt]) λh₁ De hs₁=> ?_)
  refine wpAny_bind (wpAny_holding (ym hne n (i+1) _ _ De (ht.extBut hs₁.extBut hne) (by omega) λh₂ Pw hs₂=>wpAny_pure ?_))
  have hd:items.toList.drop i=items[i]::items.toList.drop (i+1):=by simp[List.drop_eq_getElem_cons,hlt]
  have:=hQ h₂ (by rw[show i+(n+1)=i+1+n by omega];exact Pw) (hs₁.trans hs₂)
  rw[hd,List.take_succ_cons]at this
  exact this
theorem zD{t:Addr}{items:Array Value}{targets:List (Bool×(Value->Sem Unit))}{Q:Unit->Shared->Prop}(hh:A.handled=none)(ht:s.heap.IsList t items)
  (hn:targets.length=items.size)(hstar:targets.findIdx? (·.1)=none)
  (h:∀h',Heap.ExtBut s.heap.objs.size s.heap h'->wpAny (model prog w) A (assignInOrder (targets.map (·.2)) items.toList) Q E {s with heap:=h'}):
  wpAny (model prog w) A (unpack (.ref t) targets) Q E s:=by
 have hlt:t≠s.heap.objs.size:=by obtain⟨o,ho,_⟩:=ht;exact Nat.ne_of_lt (Heap.lt_size ho)
 unfold unpack
 rw[hn,hstar]
 refine wpAny_bind (wpAny_holding ?_)
 unfold unpackItems
 refine wpAny_bind ?_
 unfold notIterableAtAll
 refine wpAny_bind (wpAny_specialOf ht.typeIs PySem.F.slot_list_iter.lookup ?_)
 refine wpAny_pure ?_
 simp only[Bool.false_eq_true,if_false]
 refine wpAny_bind (wpAny_holding (wpAny_pyIter_list ht ?_))
 refine wpAny_bind (wpAny_holding (ym hlt items.size 0 _ _ ⟨_,Heap.get?_push_size _ rfl,rfl,rfl⟩ (Heap.IsList.push ht _) (by omega) λh₁ De hs₁=> ?_))
 have hall:List.take items.size (List.drop 0 items.toList)=items.toList:=by
  rw[List.drop_zero];exact List.take_of_length_le (by simp)
 rw[hall]
 rw[if_neg (by simp)]
 have ht₁:h₁.IsList t items:=(Heap.IsList.push ht _).extBut hs₁.extBut hlt
 refine wpAny_bind (wpAny_holding (wpAny_pyNext_list_end hh De ht₁ (by simp) λh₂ Sh=> ?_))
 simp only[Option.isSome_none,Bool.false_eq_true,if_false]
 refine wpAny_pure (h h₂ λb o hb e=>Sh b o hb (hs₁.extBut b o hb (Heap.get?_push_of_some _ e)))
end
section
variable{X:Cx}
noncomputable def Sj(K:PySem.W.Frag)(n:Nat)(t:LP):TG:=λv σ H Q=> ∃a xs,v= .ref a/\aU K H a xs/\xs.length=n/\t xs σ H Q
theorem jc{es:List Expr}{k:Nat}{t:LP}{n:Nat}{pos:Pos}(hc:X.calm=true)(h:Rx X es t)
  (hn:(assignEach es X.env).length=n:=by rfl)(hst:(assignEach es X.env).findIdx? (·.1)=none:=by rfl):PG X (.Tuple es k pos) (Sj X.K n t):=by
 intro pins s σ H v u Q I r hw
 obtain⟨a,xs,e1,hq,hl,hw⟩:=hw
 subst e1
 cases r
 obtain⟨its,rv,ht,hz⟩:=I.list hq
 rw[PyProof.Rows.assign_Tuple]
 refine wpAny_bind (wpAny_standAt (zD (I.ok.hd hc) ht.isList (by simp[hn,<-hl,rv.length]) hst λh' hx=> ?_))
 have I1:Inv X pins σ H {s with heap:=h'}:=I.kept (t':=s.toks) λb o e=>hx b o (Nat.ne_of_lt (Heap.lt_size e)) e
 exact h pins _ σ H xs _ Q I1 (by simpa using rv) hw
end
theorem Vx{X:Cx}{tg iter:Expr}{wi:TI}(h:PI X tg iter wi):PI X tg iter wi:=h
noncomputable def bH(H:Hp)(a:Addr)(x:Nat->Int):Prop:=H a=some (.lst [.int (x 0),.int (x 1),.int (x 2)])
theorem bH.same{H H':Hp}{a:Addr}{x:Nat->Int}(h:bH H a x)(s:az H H'):bH H' a x:=s _ _ h
noncomputable def pairF(m:List (List Int))(x y:Nat->Int)(t:Nat):Int:=x (t/3)*ent m (t/3) (t%3)*y (t%3)
noncomputable def ay(m:List (List Int))(x y:Nat->Int):Int:=PySem.preSum (pairF m x y) 9
theorem aV(m:List (List Int))(x y:Nat->Int):ay m x y=
  x 0*ent m 0 0*y 0+x 0*ent m 0 1*y 1+x 0*ent m 0 2*y 2+x 1*ent m 1 0*y 0+x 1*ent m 1 1*y 1+x 1*ent m 1 2*y 2+x 2*ent m 2 0*y 0+x 2*ent m 2 1*y 1+x 2*ent m 2 2*y 2:=by
 show PySem.preSum (pairF m x y) 9=_
 simp only[PySem.preSum,pairF,Nat.reduceDiv,Nat.reduceMod]
 omega
structure bJ(m:List (List Int)):Prop where
 sym:ent m 1 0=ent m 0 1/\ent m 2 0=ent m 0 2/\ent m 2 1=ent m 1 2
 Sk:∃a b c,ent m 0 0=2*a/\ent m 1 1=2*b/\ent m 2 2=2*c
noncomputable def cI(m:List (List Int))(x:Nat->Int):Int:=ay m x x/2
theorem fP{m:List (List Int)}(h:bJ m)(x:Nat->Int):ay m x x=2*cI m x:=by
 obtain⟨⟨s1,s2,s3⟩,a,b,c,e1,e2,e3⟩:=h
 have q:ay m x x=2*(x 0*a*x 0+x 1*b*x 1+x 2*c*x 2+x 0*ent m 0 1*x 1+x 0*ent m 0 2*x 2+x 1*ent m 1 2*x 2):=by
  rw[aV,s1,s2,s3,e1,e2,e3];grind
 unfold cI
 rw[q,Int.mul_ediv_cancel_left _ (by decide)]
theorem Jt{f:Nat->Int}{n:Nat}:∀k,(∀t,t<k->(f t).natAbs<2^n) ->(PySem.preSum f k).natAbs<2^(n+k)
 |0,_=>Nat.two_pow_pos _
 |k+1,h=>mG (Jt k λt ht=>h t (by omega)) (aL (h k (by omega)) (Nat.le_add_right n k))
theorem jh{m:List (List Int)}{x y:Nat->Int}{a b c:Nat}(hm:Bd a m)(hx:∀i,i<3->(x i).natAbs<2^b)(hy:∀i,i<3->(y i).natAbs<2^c):(ay m x y).natAbs<2^(b+a+c+9):=
 Jt 9 λt ht=>cH (cH (hx _ (by omega)) (hm _ _ (by omega) (Nat.mod_lt _ (by decide)))) (hy _ (Nat.mod_lt _ (by decide)))
section
variable{X:Cx}{pos:Pos}
noncomputable def Sl(i j k:Nat)(ta:TA):TS:=λD σ H=>ta σ H λvs H1=> ∃v w u,vs=[v,w,u]/\D.nx (((σ.set i (some v)).set j (some w)).set k (some u)) H1
theorem Mt{i j k:Nat}{x y z:Str}{a b c:Expr}{ta:TA}{px py pz pt:Pos}{kt k2 OJ}(hc:X.calm=true)(hN:X.N.Nodup)(hi:X.N[i]?=some x)(hj:X.N[j]?=some y)(hk:X.N[k]?=some z)(hij:i≠j)(hik:i≠k)(hjk:j≠k)
  (hx:X.env.scope.names.lookup x=some .local)(hy:X.env.scope.names.lookup y=some .local)(hz:X.env.scope.names.lookup z=some .local)(ha:PA X [a,b,c] ta)
  (hw:swappedStores [.Tuple [.Name x px,.Name y py,.Name z pz] kt pt] (.Tuple [a,b,c] k2 OJ) X.env=pure (some [x,y,z]))
  (hs:swapsWithSole [.Tuple [.Name x px,.Name y py,.Name z pz] kt pt] (.Tuple [a,b,c] k2 OJ) pos.line X.env=pure false:=by rfl):
  PS X (.Assign [.Tuple [.Name x px,.Name y py,.Name z pz] kt pt] (.Tuple [a,b,c] k2 OJ) pos) (Sl i j k ta):=by
 intro pins s σ H D I h
 rw[exec_Assign_arm]
 refine wpAny_bind (wpAny_standAt ?_)
 rw[hs]
 refine wpAny_bind (wpAny_pure ?_)
 rw[if_neg (by decide)]
 refine wpAny_bind (Tuple_ (fZ (ha _ pins s σ H _ I h) λus s1 ⟨vs,H1,I1,r1,q1⟩=> ?_))
 obtain⟨v,w,u,e1,q1⟩:=q1
 subst e1
 obtain⟨u1,u2,u3,rfl,rv,rw',ru⟩:∃u1 u2 u3,us=[u1,u2,u3]/\RelV v u1/\RelV w u2/\RelV u u3:=by
  cases r1 with
  |cons p q=>
   cases q with
   |cons p' q'=>
    cases q' with
    |cons p'' YF=>
     cases YF
     exact⟨_,_,_,rfl,p,p',p''⟩
 refine wpAny_newObj_type ?_ (by show 3<=sizeLine;decide)
 have I2:Inv X pins σ H1 {s1 with heap:=s1.heap.push {cls:= .type "tuple",data:= .seq [u1,u2,u3].toArray}}:=I1.kept (t':=s1.toks) λb o e=>Heap.get?_push_of_some _ e
 rw[hw]
 refine wpAny_bind (wpAny_pure ?_)
 show wpAny (model X.prog X.w) X.A (do rule "assign.swapped-stores";let items<-unpackItems (.ref s1.heap.objs.size) 3 none;assignInOrder [λv=>bindName X.env z v,λv=>bindName X.env y v,λv=>bindName X.env x v] items.reverse;pure Flow.next) _ _ _
 refine wpAny_bind (wpAny_rule (wpAny_bind (unpackItems_tuple (items:= #[u1,u2,u3]) (I.ok.hd hc) (IsTup.new s1.heap _) λh' hx'=> ?_)))
 have I3:=I2.kept (h':=h') (t':=s1.toks) λb o e=>hx' b o (Nat.ne_of_lt (Heap.lt_size e)) e
 show wpAny _ _ (assignInOrder [λv=>bindName X.env z v,λv=>bindName X.env y v,λv=>bindName X.env x v] [u3,u2,u1]>>=λ_=>pure Flow.next) _ _ _
 refine wpAny_bind (assignInOrder_cons (wpAny_bindName (j3 I3 hN hk (.inl hz) ru (λs2 I4=> ?_) (.inr hz))))
 refine assignInOrder_cons (wpAny_bindName (j3 I4 hN hj (.inl hy) rw' (λs3 I5=> ?_) (.inr hy)))
 refine assignInOrder_cons (wpAny_bindName (j3 I5 hN hi (.inl hx) rv (λs4 I6=>assignInOrder_nil (wpAny_pure ?_)) (.inr hx)))
 have e:((σ.set k (some u)).set j (some w)).set i (some v)=((σ.set i (some v)).set j (some w)).set k (some u):=by
  rw[List.set_comm _ _ (Ne.symm hjk),List.set_comm _ _ (Ne.symm hik),List.set_comm _ _ (Ne.symm hij)]
 rw[e]at I6
 exact⟨_,H1,I6,q1⟩
end
noncomputable def mH(a b c p q r:Int):List (List Int):=mk3 λi j=>match i,j with|0,0=>a|0,1=>p|0,_=>q|1,0=>p|1,1=>b|1,_=>r|_,0=>q|_,1=>r|_,_=>c
theorem Ju(a b c p q r:Int):aA (mH a b c p q r)=a*b*c+2*(p*q*r) -a*(r*r) -b*(q*q) -c*(p*p):=by
 rw[dI]
 show a*(b*c-r*r)+p*(r*q-p*c)+q*(p*r-b*q)=_
 grind
theorem Fe{n:Nat}{a b c p q r:Int}(ha:a.natAbs<2^n)(hb:b.natAbs<2^n)(hc:c.natAbs<2^n)(hp:p.natAbs<2^n)(hq:q.natAbs<2^n)(hr:r.natAbs<2^n):Bd n (mH a b c p q r):=λi j hi hj=>by
 unfold mH
 rw[cZ _ hi hj]
 rcases aN hi with rfl|rfl|rfl<;>rcases aN hj with rfl|rfl|rfl<;>assumption
theorem yo(a b c p q r:Int):bJ (mH (2*a) (2*b) (2*c) p q r):=⟨⟨rfl,rfl,rfl⟩,a,b,c,rfl,rfl,rfl⟩
theorem Sm{p a:Int}(h: -a<=p)(h':p<=a):p*p<=a*a:=by
 have h1:0<=a-p:=by omega
 have h2:0<=a+p:=by omega
 have:=Int.mul_nonneg h1 h2
 grind
theorem zE{H:Hp}{a b c d:Addr}{x y z:HO}(h0:H a=none)(h1:upd H a x b=none)(h2:upd (upd H a x) b y c=none)(h3:upd (upd (upd H a x) b y) c z d=none):H d=none/\(∀e∈ [a,b,c],H e=none)/\d∉ [a,b,c]:=by
 have s0:az H (upd H a x):=az.up h0
 have s1:az (upd H a x) (upd (upd H a x) b y):=az.up h1
 have s2:az (upd (upd H a x) b y) (upd (upd (upd H a x) b y) c z):=az.up h2
 refine⟨(s0.trans (s1.trans s2)).none h3,λe he=> ?_,λhd=> ?_⟩
 ·simp only[List.mem_cons,List.not_mem_nil,or_false]at he
  rcases he with rfl|rfl|rfl
  ·exact h0
  ·exact s0.none h1
  ·exact(s0.trans s1).none h2
 ·simp only[List.mem_cons,List.not_mem_nil,or_false]at hd
  rcases hd with rfl|rfl|rfl
  ·have:=(s1.trans s2) _ _ (ao (H:=H) (a:=d) (o:=x));rw[h3]at this;cases this
  ·have:=s2 _ _ (ao (H:=upd H a x) (a:=d) (o:=y));rw[h3]at this;cases this
  ·rw[ao]at h3;cases h3
noncomputable def xm(m:List (List Int))(i:Nat)(g:Nat->Int):List (List Int):=mk3 λr s=>if r=i then g s else ent m r s
theorem zF{H:Hp}{D R:Addr}{bs:List Addr}{m:List (List Int)}{i:Nat}{g:Nat->Int}(hT:Tab H D bs m)(b7:bE m)(hi:i<3)(hR:H R=some (.lst [.int (g 0),.int (g 1),.int (g 2)]))(nR:R≠D)(nD:D∉bs):
  Tab (upd H D (.lst ((bs.map V.ref).set i (.ref R)))) D (bs.set i R) (xm m i g):=by
 obtain⟨b0,x1,x2,_⟩:=aZ hT b7 (i:=0) (by decide)
 obtain⟨b1,y1,y2,_⟩:=aZ hT b7 (i:=1) (by decide)
 obtain⟨b2,w1,w2,_⟩:=aZ hT b7 (i:=2) (by decide)
 have hl3:bs.length=3:=by rw[<-hT.2.length,b7.1]
 obtain⟨a0,a1,a2,rfl⟩:∃a0 a1 a2,bs=[a0,a1,a2]:=by
  match bs,hl3 with
  | [a,b,c],_=>exact⟨a,b,c,rfl⟩
 obtain rfl:a0=b0:=V.ref.inj (Option.some.inj x1)
 obtain rfl:a1=b1:=V.ref.inj (Option.some.inj y1)
 obtain rfl:a2=b2:=V.ref.inj (Option.some.inj w1)
 have n0:a0≠D:=λz=>nD (by rw[<-z];simp)
 have n1:a1≠D:=λz=>nD (by rw[<-z];simp)
 have n2:a2≠D:=λz=>nD (by rw[<-z];simp)
 rcases aN hi with rfl|rfl|rfl
 ·exact kR _ ao (by rw[aG nR];exact hR) (by rw[aG n1];exact y2) (by rw[aG n2];exact w2)
 ·exact kR _ ao (by rw[aG n0];exact x2) (by rw[aG nR];exact hR) (by rw[aG n2];exact w2)
 ·exact kR _ ao (by rw[aG n0];exact x2) (by rw[aG n1];exact y2) (by rw[aG nR];exact hR)
theorem cQ(m:List (List Int)){i r s:Nat}(g:Nat->Int)(hr:r<3)(hs:s<3):ent (xm m i g) r s=if r=i then g s else ent m r s:=cZ _ hr hs
theorem Mu(m:List (List Int)){i j:Nat}(hi:i<3)(hj:j<3)(hij:i≠j)(o:Int):aA (xm m i λs=>ent m i s+o*ent m j s)=aA m:=by
 rw[dI,dI]
 simp only[cQ m _ (show 0<3 by decide) (show 0<3 by decide),cQ m _ (show 0<3 by decide) (show 1<3 by decide),cQ m _ (show 0<3 by decide) (show 2<3 by decide),cQ m _ (show 1<3 by decide) (show 0<3 by decide),cQ m _ (show 1<3 by decide) (show 1<3 by decide),cQ m _ (show 1<3 by decide) (show 2<3 by decide),cQ m _ (show 2<3 by decide) (show 0<3 by decide),cQ m _ (show 2<3 by decide) (show 1<3 by decide),cQ m _ (show 2<3 by decide) (show 2<3 by decide)]
 rcases aN hi with rfl|rfl|rfl<;>rcases aN hj with rfl|rfl|rfl<;>first|(exact absurd rfl hij)|(simp only[Nat.reduceEqDiff,if_true,if_false];grind)
structure FE(X:Cx)(e:Expr)(t:TE):Prop where
 h:PE X e t
structure FA(X:Cx)(es:List Expr)(t:TA):Prop where
 h:PA X es t
variable{X:Cx}
theorem dJ{i j pos}:FE X (.Constant (.int i) j pos) (tC (.int i)):=⟨ah⟩
theorem fe{e t}(h:PE X e t):FE X e t:=⟨h⟩
theorem iS:FA X [] j4:=⟨ak⟩
theorem bg{e es te t}(ha:FE X e te)(hr:FA X es t)(hs:starEach (e::es) X.env=(false,eval e X.env)::starEach es X.env):FA X (e::es) (dw te t):=⟨af ha.h hr.h hs⟩
theorem iT{es t pos}(h:FA X es t):FE X (.List es pos) (OT t):=⟨dR h.h⟩
theorem Px{i:Nat}{x:Str}{e:Expr}{te:TE}{pos' pos:Pos}{b:List Stmt}{tb:TS}(hN:X.N.Nodup)(hi:X.N[i]?=some x)(hx:Loc X.env.scope x)(he:FE X e te)(hs:swapsWith e (some (.Name x pos')) pos.line X.env=pure false)(hf:X.fn x=true∨X.env.scope.names.lookup x=some .local)(hb:Jq X b tb):
  Jq X (.Assign [.Name x pos'] e pos::b) (CK (Im te (dZ i)) tb):=aB (aY hN hi hx he.h hs hf) hb
theorem Df{e:Expr}{te:TE}{pos:Pos}(he:FE X e te):Jq X [.Return (some e) pos] (Ru te):=aT (aW he.h)
theorem toF{st:List Stmt}{R:TS->Prop}(h:∃t,Jq X st t/\R t):∃t,yZ X st t/\R t:=by
 obtain⟨t,a,b⟩:=h
 exact⟨t,a.h,b⟩
noncomputable def b8(m:List (List Int)):Bool:=decide (0<ent m 0 0) && (decide (ent m 0 1*ent m 0 1<ent m 0 0*ent m 1 1) && decide (0<aA m))
theorem jd{m:List (List Int)}(h:dH m=m){i j:Nat}(hi:i<3)(hj:j<3):ent m j i=ent m i j:=by
 rw[<-aX m hi hj,h]
theorem Sn(m:List (List Int)):ay m (λi=>if i=0 then 1 else 0) (λi=>if i=0 then 1 else 0)=ent m 0 0:=by
 rw[aV]
 simp
theorem Sq{m:List (List Int)}(h:dH m=m)(x:Nat->Int)(h0:x 0= -ent m 0 1)(h1:x 1=ent m 0 0)(h2:x 2=0):ay m x x=ent m 0 0*(ent m 0 0*ent m 1 1-ent m 0 1*ent m 0 1):=by
 rw[aV,h0,h1,h2,jd h (i:=0) (j:=1) (by decide) (by decide)]
 grind
theorem Su(m:List (List Int)):ay m (λj=>ent (ju m) 2 j) (λj=>ent (ju m) 2 j)=aA m*ent (ju m) 2 2:=by
 have e:∀j,j<3->ent (ju m) 2 0*ent m 0 j+ent (ju m) 2 1*ent m 1 j+ent (ju m) 2 2*ent m 2 j=if 2=j then aA m else 0:=λj hj=>by
  rw[<-aS _ _ (by decide) hj,Bh,gU,cZ _ (by decide) hj]
 have e0:=e 0 (by decide)
 have e1:=e 1 (by decide)
 have e2:=e 2 (by decide)
 rw[if_neg (by decide)]at e0 e1
 rw[if_pos rfl]at e2
 rw[aV,<-e2]
 grind
theorem NX(m:List (List Int)):ent (ju m) 2 2=ent m 0 0*ent m 1 1-ent m 0 1*ent m 1 0:=by
 rw[nX m (by decide) (by decide)]
 rfl
theorem Jv{H:Hp}{a b c:Addr}{x y:HO}(h0:H a=none)(h1:upd H a x b=none)(h2:upd (upd H a x) b y c=none): [a,b,c].Nodup:=by
 have n1:a≠b:=λe=>by rw[e,ao]at h1;cases h1
 have n2:b≠c:=λe=>by rw[e,ao]at h2;cases h2
 have n3:a≠c:=λe=>by rw[aG (λz=>n2 z.symm),e,ao]at h2;cases h2
 simp[n1,n2,n3]
theorem Py{a:Bool}{X A B:Prop}(hB:B)(h:a=true->B->X):if a=true then X else(if false=true then A else B):=by
 cases a with
 |false=>exact pK (pK hB)
 |true=>exact xh (h rfl hB)
section
variable{X:Cx}
end
noncomputable def vC(x:Nat->Int)(b:List (List Int)):Nat->Int:=λj=>x 0*ent b 0 j+x 1*ent b 1 j+x 2*ent b 2 j
theorem GA(b m:List (List Int))(x y:Nat->Int):ay (gu b m) x y=ay m (vC x b) y:=by
 rw[aV,aV]
 unfold vC
 simp only[aS b m (show 0<3 by decide) (show 0<3 by decide),aS b m (show 0<3 by decide) (show 1<3 by decide),aS b m (show 0<3 by decide) (show 2<3 by decide),aS b m (show 1<3 by decide) (show 0<3 by decide),aS b m (show 1<3 by decide) (show 1<3 by decide),aS b m (show 1<3 by decide) (show 2<3 by decide),aS b m (show 2<3 by decide) (show 0<3 by decide),aS b m (show 2<3 by decide) (show 1<3 by decide),aS b m (show 2<3 by decide) (show 2<3 by decide)]
 grind
theorem Dg(b m:List (List Int))(x y:Nat->Int):ay (gu m (dH b)) x y=ay m x (vC y b):=by
 rw[aV,aV]
 unfold vC
 simp only[aS m (dH b) (show 0<3 by decide) (show 0<3 by decide),aS m (dH b) (show 0<3 by decide) (show 1<3 by decide),aS m (dH b) (show 0<3 by decide) (show 2<3 by decide),aS m (dH b) (show 1<3 by decide) (show 0<3 by decide),aS m (dH b) (show 1<3 by decide) (show 1<3 by decide),aS m (dH b) (show 1<3 by decide) (show 2<3 by decide),aS m (dH b) (show 2<3 by decide) (show 0<3 by decide),aS m (dH b) (show 2<3 by decide) (show 1<3 by decide),aS m (dH b) (show 2<3 by decide) (show 2<3 by decide),
  aX b (show 0<3 by decide) (show 0<3 by decide),aX b (show 0<3 by decide) (show 1<3 by decide),aX b (show 0<3 by decide) (show 2<3 by decide),aX b (show 1<3 by decide) (show 0<3 by decide),aX b (show 1<3 by decide) (show 1<3 by decide),aX b (show 1<3 by decide) (show 2<3 by decide),aX b (show 2<3 by decide) (show 0<3 by decide),aX b (show 2<3 by decide) (show 1<3 by decide),aX b (show 2<3 by decide) (show 2<3 by decide)]
 grind
theorem yp(m b:List (List Int))(x y:Nat->Int):ay (br m b) x y=ay m (vC x b) (vC y b):=by
 unfold br
 rw[Dg,GA]
theorem zG{a b:Int}(h:0<a*b)(ha:0<a):0<b:=by
 rcases Int.lt_or_le 0 b with z|z
 ·exact z
 ·have:=Int.mul_nonpos_of_nonneg_of_nonpos (show 0<=a by omega) z
  omega
noncomputable def Dh(m:List (List Int)):Prop:=∀x:Nat->Int,¬(x 0=0/\x 1=0/\x 2=0) ->0<ay m x x
theorem yq{m:List (List Int)}(hS:dH m=m)(h:Dh m):b8 m=true:=by
 have c1:0<ent m 0 0:=by
  have:=h (λi=>if i=0 then 1 else 0) (λz=>by simp at z)
  rw[Sn]at this
  exact this
 have c2:ent m 0 1*ent m 0 1<ent m 0 0*ent m 1 1:=by
  have:=h (λi=>match i with|0=> -ent m 0 1|1=>ent m 0 0|_=>0) (λz=>by have y:ent m 0 0=0:=z.2.1;omega)
  rw[Sq hS _ rfl rfl rfl]at this
  have:=zG this c1
  omega
 have WX:0<ent (ju m) 2 2:=by
  rw[NX,jd hS (i:=0) (j:=1) (by decide) (by decide)]
  omega
 have c3:0<aA m:=by
  have:=h (λj=>ent (ju m) 2 j) (λz=>by have y:ent (ju m) 2 2=0:=z.2.2;omega)
  rw[Su]at this
  exact zG (by rw[Int.mul_comm];exact this) WX
 unfold b8
 rw[decide_eq_true c1,decide_eq_true c2,decide_eq_true c3]
 rfl
theorem gH{m:List (List Int)}(h:b8 m=true):0<ent m 0 0/\ent m 0 1*ent m 0 1<ent m 0 0*ent m 1 1/\0<aA m:=by
 unfold b8 at h
 simp only[Bool.and_eq_true,decide_eq_true_eq]at h
 exact⟨h.1,h.2.1,h.2.2⟩
theorem bu(a:Int):0<=a*a:=by
 rcases Int.le_total 0 a with h|h
 ·exact Int.mul_nonneg h h
 ·have:=Int.mul_nonneg (show 0<= -a by omega) (show 0<= -a by omega)
  rwa [Int.neg_mul_neg]at this
theorem zH{a:Int}(h:a*a<=0):a=0:=by
 have:=bu a
 have:a*a=0:=by omega
 rcases Int.mul_eq_zero.mp this with z|z<;>exact z
theorem Jw{m:List (List Int)}(hS:dH m=m)(x:Nat->Int):ent m 0 0*(ent m 0 0*ent m 1 1-ent m 0 1*ent m 0 1)*ay m x x=
  (ent m 0 0*ent m 1 1-ent m 0 1*ent m 0 1)*((ent m 0 0*x 0+ent m 0 1*x 1+ent m 0 2*x 2)*(ent m 0 0*x 0+ent m 0 1*x 1+ent m 0 2*x 2))
  +((ent m 0 0*ent m 1 1-ent m 0 1*ent m 0 1)*x 1+(ent m 0 0*ent m 1 2-ent m 0 1*ent m 0 2)*x 2)*((ent m 0 0*ent m 1 1-ent m 0 1*ent m 0 1)*x 1+(ent m 0 0*ent m 1 2-ent m 0 1*ent m 0 2)*x 2)
  +ent m 0 0*aA m*(x 2*x 2):=by
 rw[aV,dI,jd hS (i:=0) (j:=1) (by decide) (by decide),jd hS (i:=0) (j:=2) (by decide) (by decide),jd hS (i:=1) (j:=2) (by decide) (by decide)]
 generalize ent m 0 0=a,ent m 0 1=p,ent m 0 2=q,ent m 1 1=b,ent m 1 2=r,ent m 2 2=c
 generalize x 0=u,x 1=v,x 2=w
 grind
theorem jV{m:List (List Int)}(hS:dH m=m)(h:b8 m=true):Dh m:=by
 intro x n0
 obtain⟨c1,c2,c3⟩:=gH h
 have e:=Jw hS x
 have f1:0<ent m 0 0*ent m 1 1-ent m 0 1*ent m 0 1:=by omega
 generalize ent m 0 0*ent m 1 1-ent m 0 1*ent m 0 1=fl at e f1
 have q1:=bu (ent m 0 0*x 0+ent m 0 1*x 1+ent m 0 2*x 2)
 have q2:=bu (fl*x 1+(ent m 0 0*ent m 1 2-ent m 0 1*ent m 0 2)*x 2)
 have q3:=bu (x 2)
 have r1:=Int.mul_nonneg (show 0<=fl by omega) q1
 have d1:=Int.mul_pos c1 c3
 have r3:=Int.mul_nonneg (show 0<=ent m 0 0*aA m by omega) q3
 have g1:=Int.mul_pos c1 f1
 refine zG ?_ g1
 rcases Int.lt_or_le 0 (ent m 0 0*fl*ay m x x)with z|z
 ·exact z
 ·exfalso
  have s3:ent m 0 0*aA m*(x 2*x 2)<=0:=by omega
  have s2:=zH (a:=fl*x 1+(ent m 0 0*ent m 1 2-ent m 0 1*ent m 0 2)*x 2) (by omega)
  have s1:fl*((ent m 0 0*x 0+ent m 0 1*x 1+ent m 0 2*x 2)*(ent m 0 0*x 0+ent m 0 1*x 1+ent m 0 2*x 2))<=0:=by omega
  have x2:x 2=0:=by
   refine zH ?_
   rcases Int.lt_or_le 0 (x 2*x 2)with y|y
   ·have:=Int.mul_pos d1 y
    omega
   ·exact y
  rw[x2,Int.mul_zero,Int.add_zero]at s2
  have x1:x 1=0:=by
   rcases Int.mul_eq_zero.mp s2 with y|y
   ·omega
   ·exact y
  rw[x1,x2,Int.mul_zero,Int.mul_zero,Int.add_zero,Int.add_zero]at s1
  have x0:x 0=0:=by
   have:ent m 0 0*x 0=0:=by
    refine zH ?_
    rcases Int.lt_or_le 0 (ent m 0 0*x 0*(ent m 0 0*x 0))with y|y
    ·have:=Int.mul_pos f1 y
     omega
    ·exact y
   rcases Int.mul_eq_zero.mp this with y|y
   ·omega
   ·exact y
  exact n0 ⟨x0,x1,x2⟩
theorem Di(b:List (List Int)):aA (dH b)=aA b:=by
 rw[dI,dI]
 simp only[aX b (show 0<3 by decide) (show 0<3 by decide),aX b (show 0<3 by decide) (show 1<3 by decide),aX b (show 0<3 by decide) (show 2<3 by decide),aX b (show 1<3 by decide) (show 0<3 by decide),aX b (show 1<3 by decide) (show 1<3 by decide),aX b (show 1<3 by decide) (show 2<3 by decide),aX b (show 2<3 by decide) (show 0<3 by decide),aX b (show 2<3 by decide) (show 1<3 by decide),aX b (show 2<3 by decide) (show 2<3 by decide)]
 grind
noncomputable def cV(d:Int):Prop:=d=1∨d= -1
theorem vD{m b:List (List Int)}(hb:cV (aA b)):aA (br m b)=aA m:=by
 unfold br
 rw[lW,lW,Di]
 rcases hb with h|h<;>rw[h]<;>omega
noncomputable def yr(b:List (List Int)):List (List Int):=mk3 λi j=>aA b*ent (ju b) i j
theorem yt{b:List (List Int)}(hb:cV (aA b)):gu (yr b) b=gU 1:=by
 have e:=Bh b
 have h2:aA b*aA b=1:=by rcases hb with h|h<;>rw[h]<;>rfl
 refine gm λi j hi hj=> ?_
 have e':ent (gu (ju b) b) i j=ent (gU (aA b)) i j:=by rw[e]
 rw[aS _ _ hi hj,gU,cZ _ hi hj]at e'
 unfold yr
 rw[cZ _ hi (show 0<3 by decide),cZ _ hi (show 1<3 by decide),cZ _ hi (show 2<3 by decide)]
 have:aA b*ent (ju b) i 0*ent b 0 j+aA b*ent (ju b) i 1*ent b 1 j+aA b*ent (ju b) i 2*ent b 2 j=aA b*(ent (ju b) i 0*ent b 0 j+ent (ju b) i 1*ent b 1 j+ent (ju b) i 2*ent b 2 j):=by grind
 rw[this,e']
 split
 ·exact h2
 ·exact Int.mul_zero _
theorem GB{m:List (List Int)}(h:bE m):gu (gU 1) m=m:=by
 rw[mF h]
 refine gm λi j hi hj=> ?_
 unfold gU
 rw[cZ _ hi (show 0<3 by decide),cZ _ hi (show 1<3 by decide),cZ _ hi (show 2<3 by decide),<-mF h]
 rcases aN hi with rfl|rfl|rfl<;>simp
theorem GC:dH (gU 1)=gU 1:=rfl
theorem Dj{m:List (List Int)}(h:bE m):gu m (gU 1)=m:=by
 rw[mF h]
 refine gm λi j hi hj=> ?_
 unfold gU
 rw[cZ _ (show 0<3 by decide) hj,cZ _ (show 1<3 by decide) hj,cZ _ (show 2<3 by decide) hj,<-mF h]
 rcases aN hj with rfl|rfl|rfl<;>simp
theorem Bl{m b:List (List Int)}(hm:bE m)(hb:cV (aA b)):br (br m b) (yr b)=m:=by
 rw[oN,yt hb]
 unfold br
 rw[GC,GB hm,Dj hm]
theorem Jx{b:List (List Int)}(hb:cV (aA b))(x:Nat->Int)(h:vC x b 0=0/\vC x b 1=0/\vC x b 2=0):x 0=0/\x 1=0/\x 2=0:=by
 obtain⟨h0,h1,h2⟩:=h
 unfold vC at h0 h1 h2
 have d0:aA b≠0:=by rcases hb with z|z<;>rw[z]<;>decide
 have k:∀z:Int,aA b*z=0->z=0:=λz e=>by
  rcases Int.mul_eq_zero.mp e with y|y
  ·exact absurd y d0
  ·exact y
 refine⟨k _ ?_,k _ ?_,k _ ?_⟩<;>rw[dI]<;>grind
theorem Jy{m b:List (List Int)}(h:Dh m)(hb:cV (aA b)):Dh (br m b):=λx n0=>by
 rw[yp]
 exact h _ λz=>n0 (Jx hb x z)
theorem pQ{m b:List (List Int)}(hS:dH m=m)(h:b8 m=true)(cb:bE b)(hb:cV (aA b)):b8 (br m b)=true:=
 yq ((yk b cb).trans (congrArg (br · b) hS)) (Jy (jV hS h) hb)
theorem fG{m:List (List Int)}(h:bJ m)(c:bE m):dH m=m:=by
 obtain⟨⟨s1,s2,s3⟩,_⟩:=h
 conv=>rhs;rw[mF c]
 refine gm λi j hi hj=> ?_
 rcases aN hi with rfl|rfl|rfl<;>rcases aN hj with rfl|rfl|rfl<;>first|rfl|assumption|(symm;assumption)
theorem kg(m b:List (List Int)){i j:Nat}(hi:i<3)(hj:j<3):ent (br m b) i j=ay m (λk=>ent b i k) (λk=>ent b j k):=by
 unfold br
 rw[aS _ _ hi hj,aS _ _ hi (by decide),aS _ _ hi (by decide),aS _ _ hi (by decide),aX b (by decide) hj,aX b (by decide) hj,aX b (by decide) hj,aV]
 grind
theorem rB{m b:List (List Int)}(h:bJ m)(c:bE m)(cb:bE b):bJ (br m b):=by
 have hS:=(yk b cb).trans (congrArg (br · b) (fG h c))
 refine⟨⟨jd hS (i:=0) (j:=1) (by decide) (by decide),jd hS (i:=0) (j:=2) (by decide) (by decide),jd hS (i:=1) (j:=2) (by decide) (by decide)⟩,cI m (λk=>ent b 0 k),cI m (λk=>ent b 1 k),cI m (λk=>ent b 2 k),?_,?_,?_⟩<;>rw[kg m b (by decide) (by decide),fP h]
theorem vE{a b c p q r:Int}(ha:0<a)(hab:a<=b)(hp: -a<=p)(l9:p<=a)(hd:0<aA (mH (2*a) (2*b) (2*c) p q r)):b8 (mH (2*a) (2*b) (2*c) p q r)=true:=by
 have h1:=Sm hp l9
 have h2:a*a<=a*b:=Int.mul_le_mul_of_nonneg_left hab (by omega)
 have h3:0<a*b:=Int.mul_pos ha (by omega)
 have h4:p*p<2*a*(2*b):=by
  have:2*a*(2*b)=4*(a*b):=by grind
  omega
 unfold b8
 rw[decide_eq_true hd,decide_eq_true (p:=0<ent (mH (2*a) (2*b) (2*c) p q r) 0 0) (by show 0<2*a;omega),decide_eq_true (p:=ent (mH (2*a) (2*b) (2*c) p q r) 0 1*ent (mH (2*a) (2*b) (2*c) p q r) 0 1<ent (mH (2*a) (2*b) (2*c) p q r) 0 0*ent (mH (2*a) (2*b) (2*c) p q r) 1 1) h4]
 rfl
section
variable{X:Cx}{sc:Scope}{N2:List Str}{x y:Str}{px Fc tpos:Pos}{x1:Nat}{elt iter:Expr}{jt p pos:Pos}{wi:TI}{te:TE}{P:Addr}
end
mutual
inductive DV(H:Hp):V->PyData->Prop
 |gK:DV H .gK .none
 |bl(b:Bool):DV H (.bl b) (.bool b)
 |int(i:Int):DV H (.int i) (.int i)
 |str(x:Str):DV H (.str x) (.str x)
 |lst{a:Addr}{xs:List V}{ds:List PyData}:H a=some (.lst xs) ->Bm H xs ds->DV H (.ref a) (.list ds)
 |tup{a:Addr}{xs:List V}{ds:List PyData}:H a=some (.tup xs) ->Bm H xs ds->DV H (.ref a) (.tuple ds)
inductive Bm(H:Hp):List V->List PyData->Prop
 |nil:Bm H [] []
 |cons{x:V}{d:PyData}{xs:List V}{ds:List PyData}:DV H x d->Bm H xs ds->Bm H (x::xs) (d::ds)
end
mutual
theorem DV.same{H H':Hp}(s:az H H'):∀{x:V}{d:PyData},DV H x d->DV H' x d
 |_,_,.gK=> .gK
 |_,_,.bl b=> .bl b
 |_,_,.int i=> .int i
 |_,_,.str x=> .str x
 |_,_,.lst e q=> .lst (s _ _ e) (Bm.same s q)
 |_,_,.tup e q=> .tup (s _ _ e) (Bm.same s q)
theorem Bm.same{H H':Hp}(s:az H H'):∀{xs:List V}{ds:List PyData},Bm H xs ds->Bm H' xs ds
 |_,_,.nil=> .nil
 |_,_,.cons a q=> .cons (DV.same s a) (Bm.same s q)
end
theorem Bm.length{H:Hp}:∀{xs:List V}{ds:List PyData},Bm H xs ds->xs.length=ds.length
 |_,_,.nil=>rfl
 |_,_,.cons _ q=>congrArg (· +1) (Bm.length q)
theorem Bm.get{H:Hp}:∀{xs:List V}{ds:List PyData}{i:Nat}{x:V},Bm H xs ds->xs[i]?=some x-> ∃d,ds[i]?=some d/\DV H x d
 |_,_,0,_,.cons a q,e=>by cases e;exact⟨_,rfl,a⟩
 |_,_,i+1,_,.cons a q,e=>Bm.get (i:=i) q (by simpa using e)
section
variable{X:Cx}
theorem d9:Jq X [] NH:=⟨LN⟩
end
theorem eE{X:Cx}{c:Expr}{a b:List Stmt}{tc:TT}{t u:TS}{pos:Pos}(hc:PT X c tc)(ha:Jq X a t)(hb:Jq X b u):PS X (.If c a b pos) (Rv tc t u):=Rw hc ha.h hb.h
theorem Jz{J:It}{xs:List V}{H1:Hp}{σ:St}{te:TE}{Q:VK}{D:Addr}(jw:JW J H1 xs)(h3:xs.length=3)(hD:H1 D=none)(g:Nat->Nat->Int)
  (hs:∀i x,i<3->xs[i]?=some x-> ∀H' (Q':VK),az H1 H'->(∀b H2,H' b=none->az H' H2->H2 b=some (.lst [.int (g i 0),.int (g i 1),.int (g i 2)]) ->Q' (.ref b) H2) ->te (some x::σ) H' Q')
  (hq:∀bs H',az H1 H'->(∀b∈bs,H1 b=none) ->D∉bs->bs.Nodup->Tab H' D bs (mk3 g) ->Q (.ref D) H'):nQ 1 (dZ 0) te σ J H1 D Q:=by
 refine uG jw (by rw[h3];decide) hD (λpre acc H'=> ∃bs:List Addr,acc=bs.map V.ref/\(∀b∈bs,H1 b=none/\H' b≠none)/\D∉bs/\bs.Nodup/\Paired (λi b=>H' b=some (.lst [.int (g i 0),.int (g i 1),.int (g i 2)])) (List.range pre.length) bs) ⟨[],rfl,λ_ h=>(nomatch h),by simp,List.nodup_nil,.nil⟩ (λpre x post acc H' Q' e hl sm eD p k=> ?_) (λacc H' hl sm eD p=> ?_)
 ·obtain⟨bs,rfl,fr,nD,nn,pr⟩:=p
  have hlen:pre.length<3:=by
   have:=congrArg List.length e
   rw[h3]at this
   simp at this
   omega
  refine hs pre.length x hlen (by rw[e];simp) H' _ sm λb H2 hb s2 eb=> ?_
  have nb:b≠D:=λz=>by rw[z,eD]at hb;cases hb
  refine k _ _ s2 ⟨bs++ [b],by simp,?_,?_,?_,?_⟩
  ·intro c hc
   rcases List.mem_append.mp hc with z|z
   ·refine⟨(fr c z).1,λy=> ?_⟩
    rw[aG (λw=>nD (by rw[<-w];exact z))]at y
    exact(fr c z).2 (s2.none y)
   ·rw[List.mem_singleton.mp z]
    refine⟨sm.none hb,λy=> ?_⟩
    rw[aG nb,eb]at y
    cases y
  ·intro z
   rcases List.mem_append.mp z with z|z
   ·exact nD z
   ·exact nb (List.mem_singleton.mp z).symm
  ·rw[List.nodup_append]
   refine⟨nn,by simp,λc hc d hd z=> ?_⟩
   rw[List.mem_singleton.mp hd]at z
   exact(fr c hc).2 (by rw[z];exact hb)
  ·have er:List.range (pre++ [x]).length=List.range pre.length++ [pre.length]:=by simp[List.range_succ]
   rw[er]
   refine Paired.snoc (pr.Gy λy c hc q=> ?_) (by rw[aG nb];exact eb)
   rw[aG (λz=>nD (by rw[<-z];exact hc))]
   exact s2 _ _ q
 ·obtain⟨bs,rfl,fr,nD,nn,pr⟩:=p
  refine hq bs H' sm (λb hb=>(fr b hb).1) nD nn ⟨eD,?_⟩
  rw[h3]at pr
  have Vs:Paired (λi b=>H' b=some (.lst [.int (g i 0),.int (g i 1),.int (g i 2)])) [0,1,2] bs:=pr
  cases Vs with
  |cons h0 t0=>cases t0 with
   |cons h1 t1=>cases t1 with
    |cons h2 t2=>
     cases t2
     exact .cons h0 (.cons h1 (.cons h2 .nil))
theorem JA{c:Bool}{K:St->Hp->Prop}{A:Prop}{σ:St}{H:Hp}(P:St->Hp->Prop)(hK:∀σ' H',P σ' H'->K σ' H')(hA:c=true->(∀σ' H',P σ' H'->K σ' H') ->A)(hB:P σ H):if c=true then A else K σ H:=by
 cases c with
 |true=>exact xh (hA rfl hK)
 |false=>exact pK (hK _ _ hB)
theorem Bo(elt target iter c:Expr)(scope:Scope)(pos:Pos)(it acc:Value)(env:Env):
  compTurn (.ListComp elt [⟨target,iter,[c],0⟩] scope pos) 0 it acc env=(standAt iter.pos>>=λ_=>pyNext it>>=λr=>match r with
   |none=>pure (.done .next)
   |some v=>letOwnedTupleGo target it v>>=λ_=>assign target env v>>=λ_=>
    (forIn [c] true λc r=>if r=true then(do let ok<-isTrue c env (eval c env);pure (ForInStep.yield ok))else pure (ForInStep.yield r))>>=λok=>
     if ok=true then(eval elt env>>=λx=>call (.builtin "list.append") [acc,x]>>=λ_=>pure ())>>=λ_=>again (.compLoop (.ListComp elt [⟨target,iter,[c],0⟩] scope pos) 0 it acc env)
     else again (.compLoop (.ListComp elt [⟨target,iter,[c],0⟩] scope pos) 0 it acc env)):=by rfl
section
variable{prog:Program}{w:World}{A:Around}{R:Result->Shared->Prop}{s:Shared}
theorem oZ{elt target iter c:Expr}{scope:Scope}{pos:Pos}{it acc:Value}{env:Env}(I:Nat->Shared->Prop)
  (turn:∀n s,I n s->wpAny (model prog w) A (pyNext it) (λr s₁=>match r with
   |none=>R (.ok .next) s₁
   |some v=>wpAny (model prog w) A (letOwnedTupleGo target it v) (λ_ s₁'=>wpAny (model prog w) A (assign target env v) (λ_ s₂=>wpAny (model prog w) A (isTrue c env (eval c env)) (λok s₂'=>
     if ok=true then wpAny (model prog w) A (eval elt env) (λx s₃=>wpAny (model prog w) A (call (.builtin "list.append") [acc,x]) (λ_ s₄=> ∃m,m<n/\I m s₄) (λ_ _=>False) s₃) (λ_ _=>False) s₂'
     else ∃m,m<n/\I m s₂') (λ_ _=>False) s₂) (λ_ _=>False) s₁') (λ_ _=>False) s₁) (λ_ _=>False) s)
  (n:Nat)(h:I n s):
  codeAny (model prog w) A (.compLoop (.ListComp elt [⟨target,iter,[c],0⟩] scope pos) 0 it acc env) R s:=by
 refine codeAny_loop rfl I (λn s hI=> ?_) n h
 show wpAny _ _ ((compTurn (.ListComp elt [⟨target,iter,[c],0⟩] scope pos) 0 it acc env).onRaise (λx=>do noteFrame x env;theTreesLotGoes x)) _ _ s
 refine wpAny_noted ?_
 rw[Bo]
 refine wpAny_bind (wpAny_standAt (wpAny_bind (wpAny_mono (turn n s hI) (λr s₁ h₁=> ?_) λ_ _ h'=>h'.elim)))
 cases r with
 |none=>exact wpAny_pure h₁
 |some v=>
  refine wpAny_bind (wpAny_mono h₁ (λ_ s₁' h₁'=>wpAny_bind (wpAny_mono h₁' (λ_ s₂ h₂=> ?_) λ_ _ h'=>h'.elim)) λ_ _ h'=>h'.elim)
  refine wpAny_bind ?_
  simp only[List.forIn_cons,List.forIn_nil,if_true]
  refine wpAny_bind (wpAny_bind (wpAny_mono h₂ (λok s₂' h₂'=>wpAny_pure (wpAny_pure ?_)) λ_ _ h'=>h'.elim))
  cases ok with
  |true=>
   rw[if_pos rfl]at h₂'
   show wpAny _ _ _ _ _ _
   refine wpAny_bind (wpAny_bind (wpAny_mono h₂' (λx s₃ h₃=>wpAny_bind (wpAny_mono h₃ (λ_ s₄ h₄=>wpAny_pure (wpAny_pure ⟨rfl,h₄⟩)) λ_ _ h'=>h'.elim)) λ_ _ h'=>h'.elim))
  |false=>
   rw[if_neg Bool.false_ne_true]at h₂'
   exact wpAny_pure ⟨rfl,h₂'⟩
end
noncomputable def Ff(k:Nat)(g:TG)(tt:TT)(te:TE)(σ:St)(J:It)(H1:Hp)(D:Addr)(Q:VK):Prop:=∃W:Nat->Nat->List V->St->Hp->Prop,(∃m,W 0 m [] (List.replicate k none++σ) (upd H1 D (.lst [])))/\
 ∀i m acc σ' H',W i m acc σ' H'->(J.stop i H'/\H' D=some (.lst acc)/\Q (.ref D) H')∨
  (J.go i H'/\acc.length<sizeLine/\ ∀x H2,J.AD i H' x H2->g x σ' H2 λσ3 H3=>tt σ3 H3 λb H4=>if b=true then te σ3 H4 λv H5=>H5 D=some (.lst acc)/\ ∃m',m'<m/\W (i+1) m' (acc++ [v]) σ3 (upd H5 D (.lst (acc++ [v])))else ∃m',m'<m/\W (i+1) m' acc σ3 H4)
noncomputable def Dk(k:Nat)(wi:TI)(g:TG)(tt:TT)(te:TE):TE:=λσ H Q=>wi σ H λJ H1=> ∀D,H1 D=none->Ff k g tt te σ J H1 D Q
section
variable{X:Cx}{sc:Scope}{own N2:List Str}
theorem Bq{elt iter tg c:Expr}{pos IT:Pos}{wi:TI}{g:TG}{tt:TT}{te:TE}{use:Option (Value->Sem Unit)}{Qf:Value->Shared->Prop}(hc:X.calm=true)(hi:PI X tg iter wi)(B:qA sc.names X.env.scope.names own N2 X.N)(hk:sc.kind= .function)
  (hg:∀s H fp,PG (X.comp sc (own++N2) s H fp) tg g)(ht:∀s H fp,PT (X.comp sc (own++N2) s H fp) c tt)(he:∀s H fp,PE (X.comp sc (own++N2) s H fp) elt te)
  (hs:∀x,foldedSetIterable iter X.env x=pure x){pins:List (Addr×Obj)}{s0:Shared}{σ:St}{H0:Hp}{Q:VK}(I0:Inv X pins σ H0 s0)(h0:Dk own.length wi g tt te σ H0 Q)
  (IU:∀s H fp,Inv X pins σ H s->(∀b∈fp,fW X pins H b) -> ∀(σ':St)(H':Hp)(s':Shared),Inv (X.comp sc (own++N2) s H fp) [] σ' H' s'->Q (.ref s.heap.objs.size) H'->
   compPost (model X.prog X.w) X.A X.xe use Qf (.ref s.heap.objs.size) (s.heap.objs.size+1) (.ok .next) s'):
  wpAny (model X.prog X.w) X.A (comprehension (.ListComp elt [⟨tg,iter,[c],0⟩] sc pos) sc X.env IT (newList []) false (eval iter X.env) use) Qf X.xe s0:=by
 refine wpAny_comprehension_free (use:=use) rfl hs (oJ I0 B) hk (λy hy hl=>cu B.nd (by rw[<-hl];exact hy)) ?_
 refine wpAny_mono (hi pins s0 σ H0 _ I0 h0) (λv s1 h1=>wpAny_mono h1 (λitv s h2=> ?_) λ_ _ e=>e) λ_ _ e=>e
 obtain⟨it,fp,tn,J,H,e,I,T,st,hf,rd⟩:=h2
 subst e
 have ho:∀b∈fp,∃o,s.heap.get? b=some o:=λb hb=>let⟨o,e,_⟩:=T.obj 0 _ st b hb;⟨o,e⟩
 obtain⟨W,⟨m0,w0⟩,turn⟩:=rd s.heap.objs.size I.fresh
 refine wpAny_newObj_type ?_
 refine iy ?_
 have IB:=vp I B hk hf ho
 have Mh:∀{H':Hp},(∀b∈fp,H' b=none) -> ∀b∈fp,fW (X.comp sc (own++N2) s H fp) [] H' b:=λhn b hb=>by
  have ok:=IB.ok
  refine⟨hn b hb,(ok.Ls b hb).1,ok.AH b hb,.inl hb,λy c hc=>(ok.Ls b hb).2 y c hc,λp hp=> ?_⟩
  have l9:p∈([]:List (Addr×Obj)):=hp
  cases l9
 have lt:∀b∈fp,b≠s.heap.objs.size:=λb hb=>let⟨o,e⟩:=ho b hb;Nat.ne_of_lt (Heap.lt_size e)
 have fin:=IU s H fp I hf
 have loop:∀s3:Shared,s3={s with heap:=pushCells ((s.heap.push {cls:= .type "list",dict:=none,data:= .seq ([]:List Value).toArray}).push {cls:= .type "dict",data:= .dict #[]}) sc.names} ->
   codeAny (model X.prog X.w) X.A (.compLoop (.ListComp elt [⟨tg,iter,[c],0⟩] sc pos) 0 (.ref it) (.ref s.heap.objs.size) (X.comp sc (own++N2) s H fp).env)
    (compPost (model X.prog X.w) X.A X.xe use Qf (.ref s.heap.objs.size) (s.heap.objs.size+1)) s3:=by
  rintro s3 rfl
  refine oZ (λn s'=> ∃i acc σ' H',Inv (X.comp sc (own++N2) s H fp) [] σ' H' s'/\tn i s'.heap/\(∀b∈fp,H' b=none)/\W i n acc σ' H') ?_ m0
   ⟨0,[],_,_,IB,T.keep _ _ _ st λb _ o e=>pushCells_keeps _ _ b o (Heap.get?_push_of_some _ (Heap.get?_push_of_some _ e)),λb hb=> ?_,w0⟩
  ·rintro n s3 ⟨i,acc,σ3,H3,I3,st3,yd,w3⟩
   rcases turn i n acc σ3 H3 w3 with⟨stop,hD,qn⟩|⟨go,hz,step⟩
   ·refine fZ (T.done (X.comp sc (own++N2) s H fp) rfl rfl rfl hc i [] s3 σ3 H3 _ I3 (Mh yd) st3 stop) λr s4 ⟨hr,I4⟩=> ?_
    subst hr
    exact fin σ3 H3 s4 I4 qn
   ·refine fZ (T.item (X.comp sc (own++N2) s H fp) rfl rfl rfl hc i [] s3 σ3 H3 _ I3 (Mh yd) st3 go) λr s4 ⟨u,hr,h4⟩=> ?_
    subst hr
    refine fZ h4 λ_ s5 ⟨x,H5,I5,r5,y5,AL,OL⟩=> ?_
    have OM:=I5.pinned (Mh OL) (T.obj _ _ AL)
    refine fZ (hg s H fp _ s5 σ3 H5 x u _ OM r5 (step x H5 y5)) λ_ s6 ⟨EI,H6,I6,q6⟩=> ?_
    refine fZ (ht s H fp _ s6 EI H6 _ I6 q6) λok Vy ⟨Vz,Pz,Mv⟩=> ?_
    cases ok with
    |false=>
     rw[if_neg Bool.false_ne_true]at Mv ⊢
     obtain⟨m',hm',w7⟩:=Mv
     refine⟨m',hm',i+1,acc,EI,_,Pz.jf,T.keep _ _ _ AL λb hb o e=>(Pz.pin (b,o) (List.mem_append_right _ (List.mem_append_right _ (cG hb e)))).1,λb hb=> ?_,w7⟩
     obtain⟨o,e,d⟩:=T.obj _ _ AL b hb
     exact(Pz.pin (b,o) (List.mem_append_right _ (List.mem_append_right _ (cG hb e)))).2.1
    |true=>
    rw[if_pos rfl]at Mv ⊢
    refine fZ (he s H fp _ Vy EI Vz _ Pz Mv) λv s7 ⟨y,H7,I7,r7,RQ,m',hm',w7⟩=> ?_
    refine fZ (jU _ s7 EI H7 (.ref s.heap.objs.size) [y] (.ref s.heap.objs.size) [v] (λz H8=>z= .gK/\H8=upd H7 s.heap.objs.size (.lst (acc++ [y]))) I7 rfl (.cons r7 .nil) ⟨s.heap.objs.size,acc,y,rfl,rfl,RQ,hz,rfl,rfl⟩) λz s8 ⟨zz,H8,I8,_,_,e8⟩=> ?_
    subst e8
    refine⟨m',hm',i+1,acc++ [y],EI,_,I8.jf,T.keep _ _ _ AL λb hb o e=>(I8.pin (b,o) (List.mem_append_right _ (List.mem_append_right _ (cG hb e)))).1,λb hb=> ?_,w7⟩
    obtain⟨o,e,d⟩:=T.obj _ _ AL b hb
    exact(I8.pin (b,o) (List.mem_append_right _ (List.mem_append_right _ (cG hb e)))).2.1
  ·rw[aG (lt b hb)]
   exact(hf b hb).1
 have e1:(s.heap.push {cls:= .type "list",dict:=none,data:= .seq ([]:List Value).toArray}).objs.size=s.heap.objs.size+1:=Heap.size_push ..
 dsimp only
 rw[e1]
 exact codeAny_compStart_list (loop _ rfl) (T.self _ 0 _ _ _ (T.keep _ _ _ st λb _ o e=>pushCells_keeps _ _ b o (Heap.get?_push_of_some _ (Heap.get?_push_of_some _ e))) (loop _ rfl))
theorem GD{elt iter tg c:Expr}{pos:Pos}{wi:TI}{g:TG}{tt:TT}{te:TE}(hc:X.calm=true)(hi:PI X tg iter wi)(B:qA sc.names X.env.scope.names own N2 X.N)(hk:sc.kind= .function)
  (hg:∀s H fp,PG (X.comp sc (own++N2) s H fp) tg g)(ht:∀s H fp,PT (X.comp sc (own++N2) s H fp) c tt)(he:∀s H fp,PE (X.comp sc (own++N2) s H fp) elt te)
  (hs:∀x,foldedSetIterable iter X.env x=pure x:=by intro _;rfl):PE X (.ListComp elt [⟨tg,iter,[c],0⟩] sc pos) (Dk own.length wi g tt te):=by
 intro pins s0 σ H0 Q I0 h0
 rw[eval_ListComp]
 refine Bq (use:=none) hc hi B hk hg ht he hs I0 h0 λs H fp I hf σ' H' s' JB q=> ?_
 obtain⟨m,hn,_⟩:=JB.loc
 exact⟨m,hn,λh' sb=>⟨.ref s.heap.objs.size,H',I.IV (I.CP hf JB) JB.free sb,rfl,q⟩⟩
end
section
variable{X:Cx}{sc:Scope}{N2:List Str}{x:Str}{px:Pos}{elt iter c:Expr}{pos:Pos}{wi:TI}{tt:TT}{te:TE}
theorem Mw(hc:X.calm=true)(hi:PI X (.Name x px) iter wi)(hB:AV sc.names X.env.scope.names [x] N2 X.N=true)(hk:sc.kind= .function)(ht:∀s H fp,PT (X.comp sc ([x]++N2) s H fp) c tt)(he:∀s H fp,PE (X.comp sc ([x]++N2) s H fp) elt te)
  (hs:∀x,foldedSetIterable iter X.env x=pure x:=by intro _;rfl):PE X (.ListComp elt [⟨.Name x px,iter,[c],0⟩] sc pos) (Dk 1 wi (dZ 0) tt te):=
 GD (own:=[x]) hc hi (j7 hB) hk (λs H fp=>EY (j7 hB) s H fp) ht he hs
end
end L2
namespace L2
theorem VA{X:Cx}{e:PySem.Expr}{t:TT}(h:PT X e t):PT X e t:=h
end L2
namespace L2
open PySem PySem.Spec PyProof.Rows
noncomputable def lX(H:Hp)(B:Addr):Prop:=∃g s:Int,H B=some (.lst [.int g,.int s])/\0<=g/\0<=s
noncomputable def SB(B:Addr)(H H':Hp):Prop:=(∀a o,a≠B->H a=some o->H' a=some o)/\lX H' B
theorem SB.refl{B:Addr}{H:Hp}(h:lX H B):SB B H H:=⟨λ_ _ _ e=>e,h⟩
theorem SB.trans{B:Addr}{H H' NY:Hp}(h:SB B H H')(h':SB B H' NY):SB B H NY:=⟨λa o n e=>h'.1 a o n (h.1 a o n e),h'.2⟩
theorem lX.same{H H':Hp}{B:Addr}(h:lX H B)(s:az H H'):lX H' B:=by
 obtain⟨g,t,e,r⟩:=h
 exact⟨g,t,s _ _ e,r⟩
theorem SB.of{B:Addr}{H H':Hp}(b:lX H B)(s:az H H'):SB B H H':=⟨λa o _ e=>s _ _ e,b.same s⟩
theorem SB.gone{B:Addr}{H H':Hp}(h:SB B H H'){r:Addr}(e:H' r=none):H r=none:=by
 cases q:H r with
 |none=>rfl
 |some o=>
  by_cases z:r=B
  ·obtain⟨g,t,e2,_⟩:=h.2
   rw[<-z,e]at e2
   cases e2
  ·rw[h.1 r o z q]at e
   cases e
theorem SB.ne{B:Addr}{H H':Hp}(h:SB B H H'){r:Addr}(e:H' r=none):r≠B:=λz=>by
 obtain⟨g,t,e2,_⟩:=h.2
 rw[<-z,e]at e2
 cases e2
theorem lX.ne{H:Hp}{B r:Addr}(h:lX H B)(e:H r=none):r≠B:=(SB.refl h).ne e
theorem Tab.sb{B:Addr}{H H':Hp}{t:Addr}{bs:List Addr}{m:List (List Int)}(h:Tab H t bs m)(s:SB B H H')(nt:t≠B)(nb:B∉bs):Tab H' t bs m:=
 ⟨s.1 _ _ nt h.1,h.2.Gy λr b hb e=>s.1 _ _ (λz=>nb (by rw[<-z];exact hb)) e⟩
theorem JC{B:Addr}{H:Hp}{g s:Int}(hg:0<=g)(hs:0<=s):SB B H (upd H B (.lst [.int g,.int s])):=
 ⟨λa o n e=>by rw[aG n];exact e,g,s,ao,hg,hs⟩
end L2
namespace L2
theorem log2_small{z:Int}(h0:0<=z)(h:z<2^60):z.natAbs.log2<9000:=by
 by_cases hz:z.natAbs=0
 ·rw[hz];decide
 ·have:z.natAbs<2^60:=by omega
  exact Nat.lt_trans ((Nat.log2_lt hz).mpr this) (by decide)
end L2
namespace L2
open PySem PySem.Spec PyProof.Rows
theorem JD(m:List (List Int)){i j:Nat}(hi:i<3)(hj:j<3)(hij:i≠j):aA (xm (xm m i λs=>ent m j s) j λs=>0-ent m i s)=aA m:=by
 rw[dI,dI]
 simp only[cQ _ _ (show 0<3 by decide) (show 0<3 by decide),cQ _ _ (show 0<3 by decide) (show 1<3 by decide),cQ _ _ (show 0<3 by decide) (show 2<3 by decide),cQ _ _ (show 1<3 by decide) (show 0<3 by decide),cQ _ _ (show 1<3 by decide) (show 1<3 by decide),cQ _ _ (show 1<3 by decide) (show 2<3 by decide),cQ _ _ (show 2<3 by decide) (show 0<3 by decide),cQ _ _ (show 2<3 by decide) (show 1<3 by decide),cQ _ _ (show 2<3 by decide) (show 2<3 by decide)]
 rcases aN hi with rfl|rfl|rfl<;>rcases aN hj with rfl|rfl|rfl<;>first|(exact absurd rfl hij)|(simp only[Nat.reduceEqDiff,if_true,if_false];grind)
theorem SB.PB{B D:Addr}{H H':Hp}{o:HO}(h:SB B H H')(f:H D=none)(n:D≠B):SB B H (upd H' D o):=by
 refine⟨λa u na e=> ?_,?_⟩
 ·rw[aG (λz=>by rw[z,f]at e;cases e)]
  exact h.1 a u na e
 ·obtain⟨g,s,e,r⟩:=h.2
  exact⟨g,s,by rw[aG (Ne.symm n)];exact e,r⟩
noncomputable def aK(r:List Int):Nat->Int:=λi=>r.getD i 0
section
variable{X:Cx}{sc:Scope}{N2:List Str}{x y:Str}{px Fc tpos:Pos}{x1:Nat}{elt iter:Expr}{jt p pos:Pos}{wi:TI}{te:TE}{P:Addr}
theorem Mx{B:Around}(hc:X.calm=true)(Bk:qA sc.names X.env.scope.names [x,y] N2 X.N)(hnc:∀y∈sc.names,y.2≠ .cell)(code:Value)(s:Shared)(H:Hp)(fp:List Addr):PG (X.gen B sc ([x,y]++N2) code s H fp) (.Tuple [.Name x px,.Name y Fc] x1 tpos) (g2 X.K):=
 nM (X:=X.gen B sc ([x,y]++N2) code s H fp) hc (aJ (Fd (i:=0) Bk hnc rfl code s H fp) (aJ (Fd (i:=1) Bk hnc rfl code s H fp) fj))
theorem My(hc:X.calm=true)(hr:X.A.depth<recursionLimit)(cd:gP X.K X.env.code P)(bm:BM X.mg X.base)(Jh:Gl X "sum")(hm:X.mg "sum"=none)(hi:PI X (.Tuple [.Name x px,.Name y Fc] x1 tpos) iter wi)(hB:Jm sc X.env.scope.names [x,y] N2 X.N=true)
  (he:∀code s H fp,PE (X.gen X.A.in1.in1 sc ([x,y]++N2) code s H fp) elt te)
  (hs:∀x,genFold iter X.env x=pure x:=by intro _;rfl)(hst:starEach [.GeneratorExp elt [⟨.Tuple [.Name x px,.Name y Fc] x1 tpos,iter,[],0⟩] sc jt] X.env=[(false,eval (.GeneratorExp elt [⟨.Tuple [.Name x px,.Name y Fc] x1 tpos,iter,[],0⟩] sc jt) X.env)]:=by rfl):
  PE X (.Call (.Name "sum" p) [.GeneratorExp elt [⟨.Tuple [.Name x px,.Name y Fc] x1 tpos,iter,[],0⟩] sc jt] [] pos) (AZ 2 P wi (g2 X.K) te):=
 have K:=vt hc hr cd bm hB
 EV (own:=[x,y]) K Jh hm hi (λcode s H fp=>Mx hc K.RY K.nc code s H fp) he hs hst
end
theorem Mz{K:PySem.W.Frag}{H1:Hp}{a b:Addr}{xs ys:List V}{σ:St}{te:TE}{F:Nat->(Nat->V->Prop) ->(Nat->St->Hp->Prop) ->Prop}(ha:aU K H1 a xs)(hb:aU K H1 b ys)(hl:xs.length=ys.length)(R:Nat->V->Prop)
  (hs:∀(i:Nat) x y,xs[i]?=some x->ys[i]?=some y-> ∀H' (Q':VK),az H1 H'->(∀v H2,R i v->az H' H2->Q' v H2) ->te (some x::some y::σ) H' Q')
  (hF:F xs.length R (λ_ σ' H'=>(∃o o',σ'=o::o'::σ)/\az H1 H')):yj 2 (g2 K) te σ F (Se K a b) H1:=by
 refine⟨xs.length,R,_,⟨⟨none,none,rfl⟩,az.refl _⟩,λi σ' H' hi w=> ?_,λσ' H' w=>⟨xs,ys,w.2.seq ha,w.2.seq hb,.inl (Nat.le_refl _)⟩,hF⟩
 obtain⟨⟨o,o',rfl⟩,sm⟩:=w
 have hi':i<ys.length:=by omega
 refine⟨⟨xs,ys,xs[i],ys[i],sm.seq ha,sm.seq hb,by simp[hi],by simp[hi']⟩,λv H2 yl=> ?_⟩
 obtain⟨T,x,y,rfl,hT,hx,hy,rfl⟩:=yl
 have ex:=hx xs (sm.seq ha)
 have ey:=hy ys (sm.seq hb)
 have s2:az H' (upd H' T (.tup [x,y])):=az.up hT
 refine⟨T,[x,y],rfl,pI.of ao,rfl,x,[y],rfl,y,[],rfl,rfl,?_⟩
 show te (some x::some y::σ) _ _
 exact hs i x y ex ey _ _ (sm.trans s2) λv H3 r s3=>⟨r,⟨_,_,rfl⟩,(sm.trans s2).trans s3⟩
theorem MA{K:PySem.W.Frag}{H1:Hp}{a b:Addr}{xs ys:List V}{σ:St}{te:TE}{Q:VK}{P:Addr}(ha:aU K H1 a xs)(hb:aU K H1 b ys)(hl:xs.length=ys.length)(hP:H1 P=some (fE P))(val:Nat->Int)
  (hs:∀(i:Nat) x y,xs[i]?=some x->ys[i]?=some y-> ∀H' (Q':VK),az H1 H'->(∀H2,az H' H2->Q' (.int (val i)) H2) ->te (some x::some y::σ) H' Q')
  (hq:∀H',az H1 H'->Q (.int (preSum val xs.length)) H'):Jf 2 P (g2 K) te σ (Se K a b) H1 Q:=
 ⟨hP,Mz ha hb hl (λi v=>v= .int (val i)) (λi x y ex ey H' Q' sm k=>hs i x y ex ey H' Q' sm λH2 s2=>k _ _ rfl s2) ⟨val,λi v _ r=>r,λσ' H' w=>hq H' w.2⟩⟩
section
variable{X:Cx}{sc:Scope}{N2:List Str}{x:Str}{px:Pos}{elt iter:Expr}{jt p pos:Pos}{wi:TI}{te:TE}{P:Addr}
end
theorem JE{v:V}{r:List V}:zo (v::r) 0=some v:=iR (i:=0) rfl
theorem PC{K:PySem.W.Frag}{H:Hp}{a:Addr}{xs:List Int}(h:aU K H a (xs.map V.int)):Ba K H (.ref a) (iQ xs):= .lst h (Be xs)
noncomputable def rk(sel:Nat->Bool)(k:Nat):Nat:=(List.range k).countP sel
section
variable{X:Cx}{B:Around}{sc:Scope}{N':List Str}{code:Value}{sC:Shared}{HC:Hp}{fp Ss:List Addr}{tn:Nat->Heap->Prop}{N:Nat}{sel:Nat->Bool}{R:Nat->V->Prop}{W:St->Hp->Prop}
variable{elt iter tg c:Expr}{pos:Pos}{it:Addr}{J:It}{g:TG}{tt:TT}{te:TE}
end
section
variable{X:Cx}{sc:Scope}{own N2:List Str}{elt iter tg c:Expr}{pos:Pos}{wi:TI}{g:TG}{tt:TT}{te:TE}{P:Addr}
end
noncomputable def mx(val:Nat->Int):Nat->Int
 |0=>val 0
 |k+1=>if val (k+1)>mx val k then val (k+1)else mx val k
section
variable{X:Cx}{sc:Scope}{N':List Str}{code:Value}{sC:Shared}{HC:Hp}{fp:List Addr}{tn:Nat->Heap->Prop}{cnt:Nat}{R:Nat->V->Prop}{W:Nat->St->Hp->Prop}{a S:Addr}{pins:List (Addr×Obj)}{σ:St}{Rr:Result->Shared->Prop}
end
section
variable{X:Cx}{sc:Scope}{N2:List Str}{x:Str}{px:Pos}{elt iter c:Expr}{jt p pos:Pos}{wi:TI}{tt:TT}{te:TE}{P:Addr}
end
noncomputable def MB(ifs:List Expr)(env:Env):Sem Bool:=forIn ifs true λc r=>if r=true then(do let ok<-isTrue c env (eval c env);pure (ForInStep.yield ok))else pure (ForInStep.yield r)
noncomputable def Sv(elt:Expr)(acc:Value)(env:Env):Sem Unit:=eval elt env>>=λx=>call (.builtin "list.append") [acc,x]>>=λ_=>pure ()
section
variable{X:Cx}
noncomputable def vF(X:Cx)(e elt:Expr)(gens:List Comprehension)(d:Nat)(acc:Value)(Post:Shared->Prop)(s:Shared):Prop:=
 match gens[d+1]? with
 |none=>wpAny (model X.prog X.w) X.A (eval elt X.env) (λx s₃=>wpAny (model X.prog X.w) X.A (call (.builtin "list.append") [acc,x]) (λ_ s₄=>Post s₄) (λ_ _=>False) s₃) (λ_ _=>False) s
 |some g'=>wpAny (model X.prog X.w) X.A (eval g'.iter X.env) (λx s₃=>wpAny (model X.prog X.w) X.A (pyIter x) (λy s₄=>codeAny (model X.prog X.w) X.A (.compStart e (d+1) y acc X.env) (λr s'=>r= .ok .next/\Post s') s₄) (λ_ _=>False) s₃) (λ_ _=>False) s
noncomputable def Sw(e:Expr)(d:Nat)(tg iter:Expr)(ifs:List Expr)(next:Sem Unit)(it acc:Value)(env:Env):Sem Fin:=standAt iter.pos>>=λ_=>pyNext it>>=λr=>match r with
 |none=>pure (.done .next)
 |some v=>letOwnedTupleGo tg it v>>=λ_=>assign tg env v>>=λ_=>MB ifs env>>=λok=>if ok=true then next>>=λ_=>again (.compLoop e d it acc env)else again (.compLoop e d it acc env)
noncomputable def Sx(e:Expr)(d:Nat)(tg iter:Expr)(ifs:List Expr)(kc:Expr)(it acc:Value)(env:Env):Sem Fin:=standAt iter.pos>>=λ_=>pyNext it>>=λr=>match r with
 |none=>pure (.done .next)
 |some v=>letOwnedTupleGo tg it v>>=λ_=>assign tg env v>>=λ_=>MB ifs env>>=λok=>if ok=true then(eval kc env>>=λx=>standAt kc.pos>>=λ_=>foldedSetIterable kc env x>>=λx=>holding [x] (pyIter x)>>=λy=>runOwn (.compStart e (d+1) y acc env) env>>=λ_=>again (.compLoop e d it acc env))else again (.compLoop e d it acc env)
theorem xo{elt tg iter:Expr}{ifs:List Expr}{gens:List Comprehension}{sc:Scope}{pos:Pos}{d:Nat}{it acc:Value}{env:Env}(h0:gens[d]?=some ⟨tg,iter,ifs,0⟩)(h1:gens[d+1]?=none):
  compTurn (.ListComp elt gens sc pos) d it acc env=Sw (.ListComp elt gens sc pos) d tg iter ifs (Sv elt acc env) it acc env:=by
 unfold compTurn
 simp only[h0,h1]
 rfl
theorem xq{elt tg iter RZ kc:Expr}{ifs Sy:List Expr}{gens:List Comprehension}{sc:Scope}{pos:Pos}{d:Nat}{it acc:Value}{env:Env}(h0:gens[d]?=some ⟨tg,iter,ifs,0⟩)(h1:gens[d+1]?=some ⟨RZ,kc,Sy,0⟩):
  compTurn (.ListComp elt gens sc pos) d it acc env=Sx (.ListComp elt gens sc pos) d tg iter ifs kc it acc env:=by
 unfold compTurn
 simp only[h0,h1]
 rfl
theorem qH{elt tg iter:Expr}{ifs:List Expr}{gens:List Comprehension}{sc:Scope}{pos:Pos}{d:Nat}{it acc:Value}{R:Result->Shared->Prop}{s:Shared}(h0:gens[d]?=some ⟨tg,iter,ifs,0⟩)
  (MC:∀g',gens[d+1]?=some g'->g'.is_async=0/\ ∀x,foldedSetIterable g'.iter X.env x=pure x)(I:Nat->Shared->Prop)
  (turn:∀n s,I n s->wpAny (model X.prog X.w) X.A (pyNext it) (λr s₁=>match r with
   |none=>R (.ok .next) s₁
   |some v=>wpAny (model X.prog X.w) X.A (letOwnedTupleGo tg it v) (λ_ s₁'=>wpAny (model X.prog X.w) X.A (assign tg X.env v) (λ_ s₂=>wpAny (model X.prog X.w) X.A (MB ifs X.env) (λok s₂'=>
     if ok=true then vF X (.ListComp elt gens sc pos) elt gens d acc (λs₄=> ∃m,m<n/\I m s₄) s₂' else ∃m,m<n/\I m s₂') (λ_ _=>False) s₂) (λ_ _=>False) s₁') (λ_ _=>False) s₁) (λ_ _=>False) s)
  (n:Nat)(h:I n s):codeAny (model X.prog X.w) X.A (.compLoop (.ListComp elt gens sc pos) d it acc X.env) R s:=by
 refine codeAny_loop rfl I (λn s hI=> ?_) n h
 show wpAny _ _ ((compTurn (.ListComp elt gens sc pos) d it acc X.env).onRaise (λx=>do noteFrame x X.env;theTreesLotGoes x)) _ _ s
 refine wpAny_noted ?_
 cases h1:gens[d+1]? with
 |none=>
  rw[xo h0 h1]
  refine wpAny_bind (wpAny_standAt (wpAny_bind (wpAny_mono (turn n s hI) (λr s₁ h₁=> ?_) λ_ _ h'=>h'.elim)))
  cases r with
  |none=>exact wpAny_pure h₁
  |some v=>
   refine wpAny_bind (wpAny_mono h₁ (λ_ s₁' h₁'=>wpAny_bind (wpAny_mono h₁' (λ_ s₂ h₂=> ?_) λ_ _ h'=>h'.elim)) λ_ _ h'=>h'.elim)
   refine wpAny_bind (wpAny_mono h₂ (λok s₂' h₂'=> ?_) λ_ _ h'=>h'.elim)
   cases ok with
   |true=>
    rw[if_pos rfl]at h₂' ⊢
    unfold vF at h₂'
    rw[h1]at h₂'
    exact wpAny_bind (wpAny_bind (wpAny_mono h₂' (λx s₃ h₃=>wpAny_bind (wpAny_mono h₃ (λ_ s₄ h₄=>wpAny_pure (wpAny_pure ⟨rfl,h₄⟩)) λ_ _ h'=>h'.elim)) λ_ _ h'=>h'.elim))
   |false=>
    rw[if_neg Bool.false_ne_true]at h₂' ⊢
    exact wpAny_pure ⟨rfl,h₂'⟩
 |some g'=>
  obtain⟨RZ,kc,Sy,k⟩:=g'
  obtain⟨hk,hs⟩:=MC _ h1
  have hk':k=0:=hk
  subst hk'
  rw[xq h0 h1]
  refine wpAny_bind (wpAny_standAt (wpAny_bind (wpAny_mono (turn n s hI) (λr s₁ h₁=> ?_) λ_ _ h'=>h'.elim)))
  cases r with
  |none=>exact wpAny_pure h₁
  |some v=>
   refine wpAny_bind (wpAny_mono h₁ (λ_ s₁' h₁'=>wpAny_bind (wpAny_mono h₁' (λ_ s₂ h₂=> ?_) λ_ _ h'=>h'.elim)) λ_ _ h'=>h'.elim)
   refine wpAny_bind (wpAny_mono h₂ (λok s₂' h₂'=> ?_) λ_ _ h'=>h'.elim)
   cases ok with
   |true=>
    rw[if_pos rfl]at h₂' ⊢
    unfold vF at h₂'
    rw[h1]at h₂'
    refine wpAny_bind (wpAny_mono h₂' (λx s₃ h₃=> ?_) λ_ _ h'=>h'.elim)
    refine wpAny_bind (wpAny_standAt (wpAny_bind (wpAny_of_eq (hs x) ?_)))
    refine wpAny_bind (wpAny_holding (wpAny_mono h₃ (λy s₄ h₄=> ?_) λ_ _ h'=>h'.elim))
    refine wpAny_bind (wpAny_runOwn (h:=none) ?_)
    rw[Around.mark_none]
    refine codeAny_mono h₄ λr s' hr=> ?_
    obtain⟨rfl,hp⟩:=hr
    exact wpAny_pure ⟨rfl,hp⟩
   |false=>
    rw[if_neg Bool.false_ne_true]at h₂' ⊢
    exact wpAny_pure ⟨rfl,h₂'⟩
theorem pR{elt tg iter:Expr}{ifs:List Expr}{gens:List Comprehension}{sc:Scope}{pos:Pos}{d:Nat}{it acc:Value}{R:Result->Shared->Prop}{s:Shared}(hg:gens[d]?=some ⟨tg,iter,ifs,0⟩)
  (h0:codeAny (model X.prog X.w) X.A (.compLoop (.ListComp elt gens sc pos) d it acc X.env) R s)
  (h:wpAny (model X.prog X.w) X.A (pyIter it) (λit' s'=>codeAny (model X.prog X.w) X.A (.compLoop (.ListComp elt gens sc pos) d it' acc X.env) R s') (λ_ _=>False) s):
  codeAny (model X.prog X.w) X.A (.compStart (.ListComp elt gens sc pos) d it acc X.env) R s:=by
 refine codeAny_of_tree ?_
 show wpAny _ _ ((compStart (.ListComp elt gens sc pos) d it acc X.env).onRaise (λx=>do noteFrame x X.env;standAt theWindowsPlace)) _ _ s
 refine wpAny_notedAt ?_
 unfold compStart
 have e1:(clausesOf (.ListComp elt gens sc pos))[d]?=some ⟨tg,iter,ifs,0⟩:=hg
 simp only[e1]
 show wpAny _ _ (ask>>=_) _ _ s
 refine wpAny_bind (wpAny_askSetting (wpAny_ite ?_))
 split
 ·first
   |exact wpAny_bind (wpAny_pure (wpAny_pure (And.intro rfl h0)))
   |exact wpAny_pure (And.intro rfl h0)
 ·first
   |exact wpAny_bind (wpAny_rule (wpAny_bind (wpAny_standAt (wpAny_bind (wpAny_mono h (λit' s' h'=>wpAny_pure (And.intro rfl h')) λ_ _ x=>x.elim)))))
   |(refine wpAny_bind (wpAny_rule ?_);show wpAny _ _ (standAt iter.pos>>=_) _ _ s;exact wpAny_bind (wpAny_standAt (wpAny_bind (wpAny_mono h (λit' s' h'=>wpAny_pure (And.intro rfl h')) λ_ _ x=>x.elim))))
noncomputable def Sz(X:Cx)(ifs:List Expr)(tt:TT):Prop:=∀pins s σ H Q,Inv X pins σ H s->tt σ H Q->wpAny (model X.prog X.w) X.A (MB ifs X.env) (λb s'=> ∃H',Inv X pins σ H' s'/\Q b H') X.xe s
noncomputable def JF:TT:=λ_ H Q=>Q true H
theorem Fg:Sz X [] JF:=λpins s σ H Q I h=>wpAny_pure ⟨H,I,h⟩
noncomputable abbrev TB:=St->Hp->(St->Hp->Prop) ->Prop
noncomputable def PN(X:Cx)(e elt:Expr)(gens:List Comprehension)(d:Nat)(D:Addr)(b:TB):Prop:=∀pins s σ H K,Inv X pins σ H s->b σ H K->vF X e elt gens d (.ref D) (λs'=> ∃σ' H',Inv X pins σ' H' s'/\K σ' H') s
noncomputable def JG(te:TE)(D:Addr):TB:=λσ H K=>te σ H λv H'=> ∃acc,H' D=some (.lst acc)/\acc.length<sizeLine/\K σ (upd H' D (.lst (acc++ [v])))
theorem MD{e elt:Expr}{gens:List Comprehension}{d:Nat}{D:Addr}{te:TE}(hx:∀v s,X.xe v s->False)(h1:gens[d+1]?=none)(he:PE X elt te):PN X e elt gens d D (JG te D):=by
 intro pins s σ H K I h
 unfold vF
 rw[h1]
 refine wpAny_mono (he pins s σ H _ I h) (λv s7 ⟨y,H7,I7,r7,acc,RQ,hz,k7⟩=> ?_) λ_ _ z=>(hx _ _ z).elim
 refine wpAny_mono (jU _ s7 σ H7 (.ref D) [y] (.ref D) [v] (λz H8=>z= .gK/\H8=upd H7 D (.lst (acc++ [y]))) I7 rfl (.cons r7 .nil) ⟨D,acc,y,rfl,rfl,RQ,hz,rfl,rfl⟩) (λz s8 ⟨zz,H8,I8,_,_,e8⟩=> ?_) λ_ _ z=>(hx _ _ z).elim
 subst e8
 exact⟨_,_,I8,k7⟩
noncomputable def Dl(J:It)(g:TG)(tt:TT)(b:TB)(σ:St)(H1:Hp)(K:St->Hp->Prop):Prop:=∃W:Nat->Nat->St->Hp->Prop,(∃m,W 0 m σ H1)/\ ∀i m σ' H',W i m σ' H'->
 (J.stop i H'/\K σ' H')∨(J.go i H'/\ ∀x H2,J.AD i H' x H2->g x σ' H2 λσ3 H3=>tt σ3 H3 λok H4=>if ok=true then b σ3 H4 (λYG H5=> ∃m',m'<m/\W (i+1) m' YG H5)else ∃m',m'<m/\W (i+1) m' σ3 H4)
noncomputable def zI(wi:TI)(g:TG)(tt:TT)(b:TB):TB:=λσ H K=>wi σ H λJ H1=>Dl J g tt b σ H1 K
theorem tQ{elt tg iter:Expr}{ifs:List Expr}{gens:List Comprehension}{sc:Scope}{pos:Pos}{d:Nat}{D it:Addr}{fp:List Addr}{tn:Nat->Heap->Prop}{J:It}{g:TG}{tt:TT}{b:TB}{pins:List (Addr×Obj)}{σ:St}{H:Hp}{s:Shared}{R:Result->Shared->Prop}{K:St->Hp->Prop}
  (hx:∀v s,X.xe v s->False)(hc:X.calm=true)(h0:gens[d]?=some ⟨tg,iter,ifs,0⟩)(MC:∀g',gens[d+1]?=some g'->g'.is_async=0/\ ∀x,foldedSetIterable g'.iter X.env x=pure x)
  (T:Turn X.prog X.w X.K tg J fp it tn)(hg:PG X tg g)(ht:Sz X ifs tt)(hb:PN X (.ListComp elt gens sc pos) elt gens d D b)
  (zf:∀{H':Hp},(∀b∈fp,H' b=none) -> ∀b∈fp,fW X pins H' b)(I:Inv X pins σ H s)(st:tn 0 s.heap)(fr:∀b∈fp,H b=none)(lp:Dl J g tt b σ H K)(hR:∀σ' H' s',Inv X pins σ' H' s'->K σ' H'->R (.ok .next) s'):
  codeAny (model X.prog X.w) X.A (.compLoop (.ListComp elt gens sc pos) d (.ref it) (.ref D) X.env) R s:=by
 obtain⟨W,⟨m0,w0⟩,turn⟩:=lp
 refine qH h0 MC (λn s'=> ∃i σ' H',Inv X pins σ' H' s'/\tn i s'.heap/\(∀b∈fp,H' b=none)/\W i n σ' H') ?_ m0 ⟨0,σ,H,I,st,fr,w0⟩
 rintro n s3 ⟨i,σ3,H3,I3,st3,yd,w3⟩
 rcases turn i n σ3 H3 w3 with⟨stop,qn⟩|⟨go,step⟩
 ·refine wpAny_mono (T.done X rfl rfl rfl hc i pins s3 σ3 H3 X.xe I3 (zf yd) st3 stop) (λr s4 ⟨hr,I4⟩=> ?_) λ_ _ z=>(hx _ _ z).elim
  subst hr
  exact hR _ _ _ I4 qn
 ·refine wpAny_mono (T.item X rfl rfl rfl hc i pins s3 σ3 H3 X.xe I3 (zf yd) st3 go) (λr s4 ⟨u,hr,h4⟩=> ?_) λ_ _ z=>(hx _ _ z).elim
  subst hr
  refine wpAny_mono h4 (λ_ s5 ⟨x,H5,I5,r5,y5,AL,OL⟩=> ?_) λ_ _ z=>(hx _ _ z).elim
  have OM:=I5.pinned (zf OL) (T.obj _ _ AL)
  refine wpAny_mono (hg _ s5 σ3 H5 x u _ OM r5 (step x H5 y5)) (λ_ s6 ⟨EI,H6,I6,q6⟩=> ?_) λ_ _ z=>(hx _ _ z).elim
  have back:∀{AE:St}{H7:Hp}{s7:Shared},Inv X (pins++dh fp s5.heap) AE H7 s7->(∃m',m'<n/\W (i+1) m' AE H7) -> ∃m,m<n/\ ∃i σ' H',Inv X pins σ' H' s7/\tn i s7.heap/\(∀b∈fp,H' b=none)/\W i m σ' H':=λ {AE H7 s7} I7 ⟨m',hm,w7⟩=>by
   refine⟨m',hm,i+1,AE,H7,I7.jf,T.keep _ _ _ AL λb hb o e=>(I7.pin (b,o) (List.mem_append_right _ (List.mem_append_right _ (cG hb e)))).1,λb hb=> ?_,w7⟩
   obtain⟨o,e,dd⟩:=T.obj _ _ AL b hb
   exact(I7.pin (b,o) (List.mem_append_right _ (List.mem_append_right _ (cG hb e)))).2.1
  refine wpAny_mono (ht _ s6 EI H6 _ I6 q6) (λok Vy ⟨Vz,Pz,Mv⟩=> ?_) λ_ _ z=>(hx _ _ z).elim
  cases ok with
  |false=>
   rw[if_neg Bool.false_ne_true]at Mv ⊢
   exact back Pz Mv
  |true=>
   rw[if_pos rfl]at Mv ⊢
   have nx:=hb _ Vy EI Vz _ Pz Mv
   unfold vF at nx ⊢
   cases h1:gens[d+1]? with
   |none=>
    rw[h1]at nx
    exact wpAny_mono nx (λx s₃ h₃=>wpAny_mono h₃ (λ_ s₄ ⟨AE,H7,I7,w7⟩=>back I7 w7) λ_ _ z=>z) λ_ _ z=>z
   |some g'=>
    rw[h1]at nx
    exact wpAny_mono nx (λx s₃ h₃=>wpAny_mono h₃ (λy s₄ h₄=>codeAny_mono h₄ λr s' ⟨hr,AE,H7,I7,w7⟩=>⟨hr,back I7 w7⟩) λ_ _ z=>z) λ_ _ z=>z
theorem GF{elt tg iter:Expr}{ifs:List Expr}{gens:List Comprehension}{sc:Scope}{pos:Pos}{d:Nat}{D:Addr}{wi:TI}{g:TG}{tt:TT}{b:TB}(hx:∀v s,X.xe v s->False)(hc:X.calm=true)(h1:gens[d+1]?=some ⟨tg,iter,ifs,0⟩)
  (MC:∀g',gens[d+1+1]?=some g'->g'.is_async=0/\ ∀x,foldedSetIterable g'.iter X.env x=pure x)(hi:PI X tg iter wi)(hg:PG X tg g)(ht:Sz X ifs tt)(hb:PN X (.ListComp elt gens sc pos) elt gens (d+1) D b):
  PN X (.ListComp elt gens sc pos) elt gens d D (zI wi g tt b):=by
 intro pins s σ H K I h
 unfold vF
 rw[h1]
 refine wpAny_mono (hi pins s σ H _ I h) (λv s1 Vt=>wpAny_mono Vt (λitv s2 h2=> ?_) λ_ _ z=>(hx _ _ z).elim) λ_ _ z=>(hx _ _ z).elim
 obtain⟨it,fp,tn,J,H2,e,I2,T,st2,f2,lp⟩:=h2
 subst e
 have zf:∀{H':Hp},(∀b∈fp,H' b=none) -> ∀b∈fp,fW X pins H' b:=λhn b hb=>⟨hn b hb,(f2 b hb).2⟩
 have loop:=tQ (elt:=elt) (sc:=sc) (pos:=pos) (R:=λr s'=>r= .ok .next/\ ∃σ' H',Inv X pins σ' H' s'/\K σ' H') hx hc h1 MC T hg ht hb zf I2 st2 (λb hb=>(f2 b hb).1) lp (λσ' H' s' I' k=>⟨rfl,σ',H',I',k⟩)
 exact pR h1 loop (T.self _ 0 _ _ _ st2 loop)
end
noncomputable def zJ(k:Nat)(g:TG)(tt:TT)(b:Addr->TB)(σ:St)(J:It)(H1:Hp)(D:Addr)(Q:VK):Prop:=Dl J g tt (b D) (List.replicate k none++σ) (upd H1 D (.lst [])) (λ_ H'=>Q (.ref D) H')
noncomputable def Dm(k:Nat)(wi:TI)(g:TG)(tt:TT)(b:Addr->TB):TE:=λσ H Q=>wi σ H λJ H1=> ∀D,H1 D=none->zJ k g tt b σ J H1 D Q
section
variable{X:Cx}{sc:Scope}{own N2:List Str}
theorem Br{elt iter tg:Expr}{ifs:List Expr}{cls:List Comprehension}{pos IT:Pos}{wi:TI}{g:TG}{tt:TT}{b:Addr->TB}{use:Option (Value->Sem Unit)}{Qf:Value->Shared->Prop}(hc:X.calm=true)(hi:PI X tg iter wi)(B:qA sc.names X.env.scope.names own N2 X.N)(hk:sc.kind= .function)
  (hg:∀s H fp,PG (X.comp sc (own++N2) s H fp) tg g)(ht:∀s H fp,Sz (X.comp sc (own++N2) s H fp) ifs tt)(hb:∀s H fp D,PN (X.comp sc (own++N2) s H fp) (.ListComp elt (⟨tg,iter,ifs,0⟩::cls) sc pos) elt (⟨tg,iter,ifs,0⟩::cls) 0 D (b D))
  (MC:∀s H fp g',(⟨tg,iter,ifs,0⟩::cls:List Comprehension)[0+1]?=some g'->g'.is_async=0/\ ∀x,foldedSetIterable g'.iter (X.comp sc (own++N2) s H fp).env x=pure x)
  (hs:∀x,foldedSetIterable iter X.env x=pure x){pins:List (Addr×Obj)}{s0:Shared}{σ:St}{H0:Hp}{Q:VK}(I0:Inv X pins σ H0 s0)(h0:Dm own.length wi g tt b σ H0 Q)
  (IU:∀s H fp,Inv X pins σ H s->(∀b∈fp,fW X pins H b) -> ∀(σ':St)(H':Hp)(s':Shared),Inv (X.comp sc (own++N2) s H fp) [] σ' H' s'->Q (.ref s.heap.objs.size) H'->
   compPost (model X.prog X.w) X.A X.xe use Qf (.ref s.heap.objs.size) (s.heap.objs.size+1) (.ok .next) s'):
  wpAny (model X.prog X.w) X.A (comprehension (.ListComp elt (⟨tg,iter,ifs,0⟩::cls) sc pos) sc X.env IT (newList []) false (eval iter X.env) use) Qf X.xe s0:=by
 refine wpAny_comprehension_free (use:=use) rfl hs (oJ I0 B) hk (λy hy hl=>cu B.nd (by rw[<-hl];exact hy)) ?_
 refine wpAny_mono (hi pins s0 σ H0 _ I0 h0) (λv s1 h1=>wpAny_mono h1 (λitv s h2=> ?_) λ_ _ e=>e) λ_ _ e=>e
 obtain⟨it,fp,tn,J,H,e,I,T,st,hf,rd⟩:=h2
 subst e
 have ho:∀b∈fp,∃o,s.heap.get? b=some o:=λb hb=>let⟨o,e,_⟩:=T.obj 0 _ st b hb;⟨o,e⟩
 have lp:=rd s.heap.objs.size I.fresh
 unfold zJ at lp
 refine wpAny_newObj_type ?_
 refine iy ?_
 have IB:=vp I B hk hf ho
 have Mh:∀{H':Hp},(∀b∈fp,H' b=none) -> ∀b∈fp,fW (X.comp sc (own++N2) s H fp) [] H' b:=λhn b hb=>by
  have ok:=IB.ok
  refine⟨hn b hb,(ok.Ls b hb).1,ok.AH b hb,.inl hb,λy c hc=>(ok.Ls b hb).2 y c hc,λp hp=> ?_⟩
  have l9:p∈([]:List (Addr×Obj)):=hp
  cases l9
 have lt:∀b∈fp,b≠s.heap.objs.size:=λb hb=>let⟨o,e⟩:=ho b hb;Nat.ne_of_lt (Heap.lt_size e)
 have fin:=IU s H fp I hf
 have loop:∀s3:Shared,s3={s with heap:=pushCells ((s.heap.push {cls:= .type "list",dict:=none,data:= .seq ([]:List Value).toArray}).push {cls:= .type "dict",data:= .dict #[]}) sc.names} ->
   codeAny (model X.prog X.w) X.A (.compLoop (.ListComp elt (⟨tg,iter,ifs,0⟩::cls) sc pos) 0 (.ref it) (.ref s.heap.objs.size) (X.comp sc (own++N2) s H fp).env)
    (compPost (model X.prog X.w) X.A X.xe use Qf (.ref s.heap.objs.size) (s.heap.objs.size+1)) s3:=by
  rintro s3 rfl
  refine tQ (X:=X.comp sc (own++N2) s H fp) (λ_ _ z=>z) hc rfl (MC s H fp) T (hg s H fp) (ht s H fp) (hb s H fp s.heap.objs.size) Mh IB (T.keep _ _ _ st λb _ o e=>pushCells_keeps _ _ b o (Heap.get?_push_of_some _ (Heap.get?_push_of_some _ e))) (λb hb=> ?_) lp (λσ' H' s' I' k=>fin σ' H' s' I' k)
  rw[aG (lt b hb)]
  exact(hf b hb).1
 have e1:(s.heap.push {cls:= .type "list",dict:=none,data:= .seq ([]:List Value).toArray}).objs.size=s.heap.objs.size+1:=Heap.size_push ..
 dsimp only
 rw[e1]
 exact codeAny_compStart_list (loop _ rfl) (T.self _ 0 _ _ _ (T.keep _ _ _ st λb _ o e=>pushCells_keeps _ _ b o (Heap.get?_push_of_some _ (Heap.get?_push_of_some _ e))) (loop _ rfl))
theorem GG{elt iter tg:Expr}{ifs:List Expr}{cls:List Comprehension}{pos:Pos}{wi:TI}{g:TG}{tt:TT}{b:Addr->TB}(hc:X.calm=true)(hi:PI X tg iter wi)(B:qA sc.names X.env.scope.names own N2 X.N)(hk:sc.kind= .function)
  (hg:∀s H fp,PG (X.comp sc (own++N2) s H fp) tg g)(ht:∀s H fp,Sz (X.comp sc (own++N2) s H fp) ifs tt)(hb:∀s H fp D,PN (X.comp sc (own++N2) s H fp) (.ListComp elt (⟨tg,iter,ifs,0⟩::cls) sc pos) elt (⟨tg,iter,ifs,0⟩::cls) 0 D (b D))
  (MC:∀s H fp g',(⟨tg,iter,ifs,0⟩::cls:List Comprehension)[0+1]?=some g'->g'.is_async=0/\ ∀x,foldedSetIterable g'.iter (X.comp sc (own++N2) s H fp).env x=pure x)
  (hs:∀x,foldedSetIterable iter X.env x=pure x:=by intro _;rfl):PE X (.ListComp elt (⟨tg,iter,ifs,0⟩::cls) sc pos) (Dm own.length wi g tt b):=by
 intro pins s0 σ H0 Q I0 h0
 rw[eval_ListComp]
 refine Br (use:=none) hc hi B hk hg ht hb MC hs I0 h0 λs H fp I hf σ' H' s' JB q=> ?_
 obtain⟨m,hn,_⟩:=JB.loc
 exact⟨m,hn,λh' sb=>⟨.ref s.heap.objs.size,H',I.IV (I.CP hf JB) JB.free sb,rfl,q⟩⟩
variable{x y:Str}{px Fc:Pos}{elt iter kc:Expr}{pos:Pos}{wi Ji:TI}{te:TE}
theorem ME(hc:X.calm=true)(hi:PI X (.Name x px) iter wi)(hB:AV sc.names X.env.scope.names [x,y] N2 X.N=true)(hk:sc.kind= .function)(hi2:∀s H fp,PI (X.comp sc ([x,y]++N2) s H fp) (.Name y Fc) kc Ji)(he:∀s H fp,PE (X.comp sc ([x,y]++N2) s H fp) elt te)
  (hs2:∀s H fp z,foldedSetIterable kc (X.comp sc ([x,y]++N2) s H fp).env z=pure z:=by intro _ _ _ _;rfl)(hs:∀x,foldedSetIterable iter X.env x=pure x:=by intro _;rfl):
  PE X (.ListComp elt [⟨.Name x px,iter,[],0⟩,⟨.Name y Fc,kc,[],0⟩] sc pos) (Dm 2 wi (dZ 0) JF λD=>zI Ji (dZ 1) JF (JG te D)):=
 GG (own:=[x,y]) hc hi (j7 hB) hk (λs H fp=>qG (i:=0) (j7 hB) rfl s H fp) (λs H fp=>Fg)
  (λs H fp D=>GF (X:=X.comp sc ([x,y]++N2) s H fp) (λ_ _ z=>z) hc rfl (λg' h=>by cases h) (hi2 s H fp) (qG (i:=1) (j7 hB) rfl s H fp) Fg (MD (X:=X.comp sc ([x,y]++N2) s H fp) (λ_ _ z=>z) rfl (he s H fp)))
  (λs H fp g' h=>by cases h;exact⟨rfl,hs2 s H fp⟩) hs
end
section
variable{X:Cx}
end
noncomputable def yu(i:Nat)(z:Int):Nat->Int:=λj=>if j=i then z else 0
theorem jW{m:List (List Int)}(h:bJ m)(x y:Nat->Int):ay m x y=ay m y x:=by
 obtain⟨⟨s1,s2,s3⟩,_⟩:=h
 rw[aV,aV,s1,s2,s3]
 grind
theorem d7{m:List (List Int)}{x y x' y':Nat->Int}(h:∀i,i<3->x i=x' i)(k:∀i,i<3->y i=y' i):ay m x y=ay m x' y':=by
 rw[aV,aV,h 0 (by decide),h 1 (by decide),h 2 (by decide),k 0 (by decide),k 1 (by decide),k 2 (by decide)]
noncomputable def In(M:(Nat->Int) ->Prop)(L:List (List Int)):Prop:=∀r∈L,M (aK r)
end L2
namespace zK
open PySem PyProof.Rows
noncomputable def MF:Bool->Keyed->Array Keyed->Nat->Nat->Nat->StateT SortSt Sem (Option Nat):=sortPriv%PySem.Builtin.gallop
noncomputable def VB:Array Keyed->Array Keyed->StateT SortSt Sem (Array Keyed):=sortPriv%PySem.Builtin.mergeLo
noncomputable def VC:Array Keyed->Array Keyed->StateT SortSt Sem (Array Keyed):=sortPriv%PySem.Builtin.mergeHi
noncomputable def SA:Nat->StateT SortSt Sem Unit:=sortPriv%PySem.Builtin.setMinGallop
noncomputable def WY(lf:Bool)(ky:Keyed)(ar:Array Keyed)(b0 i:Nat):StateT SortSt Sem (Option Bool):=do
 let x<-elem' ar (b0+i)
 if lf then lt' x ky else return(<-lt' ky x).map (!·)
noncomputable abbrev GS:=Option (Option Nat)×Nat×Nat
noncomputable def Ue(bd:Nat->StateT SortSt Sem (Option Bool))(n h mx:Nat):StateT SortSt Sem GS:=
 forIn [:n] ((none,0,1):GS) λ_ c=>
  if c.2.2≥mx then pure (ForInStep.done (none,c.2.1,c.2.2))else do
   let r<-bd (h+c.2.2)
   match r with
   |some more=>if(!more)=true then pure (ForInStep.done (none,c.2.1,c.2.2))else pure (ForInStep.yield (none,c.2.2,2*c.2.2+1))
   |_=>pure (ForInStep.done (some none,c.2.1,c.2.2))
noncomputable def Ug(bd:Nat->StateT SortSt Sem (Option Bool))(n h mx:Nat):StateT SortSt Sem GS:=
 forIn [:n] ((none,0,1):GS) λ_ c=>
  if c.2.2≥mx then pure (ForInStep.done (none,c.2.1,c.2.2))else do
   let r<-bd (h-c.2.2)
   match r with
   |some f=>if f=true then pure (ForInStep.done (none,c.2.1,c.2.2))else pure (ForInStep.yield (none,c.2.2,2*c.2.2+1))
   |_=>pure (ForInStep.done (some none,c.2.1,c.2.2))
noncomputable def SE(bd:Nat->StateT SortSt Sem (Option Bool))(n lo hi:Nat):StateT SortSt Sem (Option Nat):=do
 let c<-forIn [:n] ((none,lo,hi):GS) λ_ c=>
  if c.2.1≥c.2.2 then pure (ForInStep.done (none,c.2.1,c.2.2))else do
   let r<-bd (c.2.1+(c.2.2-c.2.1)/2)
   match r with
   |some more=>if more=true then pure (ForInStep.yield (none,c.2.1+(c.2.2-c.2.1)/2+1,c.2.2))else pure (ForInStep.yield (none,c.2.1,c.2.1+(c.2.2-c.2.1)/2))
   |_=>pure (ForInStep.done (some none,c.2.1,c.2.2))
 match c.1 with
 |some r=>pure r
 |none=>pure (some c.2.2)
noncomputable def MI(bd:Nat->StateT SortSt Sem (Option Bool))(n h:Nat):StateT SortSt Sem (Option Nat):=do
 let r<-bd h
 match r with
 |some right=>
  if right=true then do
   let c<-Ue bd n h (n-h)
   match c.1 with
   |some r=>pure r
   |none=>SE bd n (h+c.2.1+1) (h+min c.2.2 (n-h))
  else do
   let c<-Ug bd n h (h+1)
   match c.1 with
   |some r=>pure r
   |none=>SE bd n (h+1-min c.2.2 (h+1)) (h-c.2.1)
 |_=>pure none
theorem PD(lf:Bool)(ky:Keyed)(ar:Array Keyed)(b0 n h:Nat):MF lf ky ar b0 n h=(do
 let bd (i:Nat):StateT SortSt Sem (Option Bool):=do
  let x<-elem' ar (b0+i)
  if lf then lt' x ky else return(<-lt' ky x).map (!·)
 let mut l:=0
 let mut o:=1
 let mut u:=0
 let mut v:=0
 let some r<-bd h|return none
 if r then
  let mx:=n-h
  for _ in [0:n] do
   if o≥mx then break
   let some m<-bd (h+o)|return none
   if !m then break
   l:=o
   o:=2*o+1
  u:=h+l+1
  v:=h+min o mx
 else
  let mx:=h+1
  for _ in [0:n] do
   if o≥mx then break
   let some m<-bd (h-o)|return none
   if m then break
   l:=o
   o:=2*o+1
  u:=h+1-min o mx
  v:=h-l
 for _ in [0:n] do
  if u≥v then break
  let q:=u+(v-u)/2
  let some m<-bd q|return none
  if m then u:=q+1 else v:=q
 return some v):=rfl
theorem PF(lf:Bool)(ky:Keyed)(ar:Array Keyed)(b0 n h:Nat):MF lf ky ar b0 n h=MI (WY lf ky ar b0) n h:=by
 rw[PD]
 unfold MI Ue Ug SE
 dsimp only
 congr 1
 funext r
 cases r with
 |none=>rfl
 |some r=>
  dsimp only
  split
  ·congr 1
   funext c
   obtain⟨c1,c2,c3⟩:=c
   cases c1 with
   |some c=>rfl
   |none=>
    dsimp only
    congr 1
    funext c
    obtain⟨c1,c2,c3⟩:=c
    cases c1<;>rfl
  ·congr 1
   funext c
   obtain⟨c1,c2,c3⟩:=c
   cases c1 with
   |some c=>rfl
   |none=>
    dsimp only
    congr 1
    funext c
    obtain⟨c1,c2,c3⟩:=c
    cases c1<;>rfl
section
variable{M:Model}{A:Around}{E:Value->Shared->Prop}{s:Shared}{st:SortSt}{b:Nat->Bool}{n:Nat}{bd:Nat->StateT SortSt Sem (Option Bool)}
theorem w_up{h:Nat}{Q:GS->SortSt->Prop}(hb:∀i,i<n-> ∀Q:Option Bool->SortSt->Prop,Q (some (b i)) st->wpS M A E s (bd i) Q st)(mono:∀i j,i<=j->j<n->b j=true->b i=true)
  (hh:h<n)(h0:b h=true)(hq:∀l o,l<o->h+l<n->b (h+l)=true->(n-h<=o∨(h+o<n/\b (h+o)=false)) ->Q (none,l,o) st):wpS M A E s (Ue bd n h (n-h)) Q st:=by
 unfold Ue
 refine wpS_forRange (I:=λx c st'=>st'=st/\ ∃l o,c=(none,l,o)/\l<o/\h+l<n/\b (h+l)=true/\x<o) ?_ ?_ ⟨rfl,0,1,rfl,by omega,by omega,h0,by omega⟩
 ·rintro x c st' _ hx ⟨rfl,l,o,rfl,h1,h2,h3,h4⟩
  dsimp only
  by_cases hm:o≥n-h
  ·rw[if_pos hm]
   exact wpS_pure (hq l o h1 h2 h3 (.inl hm))
  ·rw[if_neg hm]
   refine wpS_bind (hb _ (by omega) _ ?_)
   dsimp only
   cases e:b (h+o)with
   |true=>
    simp only[Bool.not_true,Bool.false_eq_true,if_false]
    exact wpS_pure ⟨rfl,o,2*o+1,rfl,by omega,by omega,e,by omega⟩
   |false=>
    simp only[Bool.not_false,if_true]
    exact wpS_pure (hq l o h1 h2 h3 (.inr ⟨by omega,e⟩))
 ·rintro c st' ⟨rfl,l,o,rfl,h1,h2,h3,h4⟩
  exact hq l o h1 h2 h3 (.inl (by omega))
theorem VD{h:Nat}{Q:GS->SortSt->Prop}(hb:∀i,i<n-> ∀Q:Option Bool->SortSt->Prop,Q (some (b i)) st->wpS M A E s (bd i) Q st)
  (hh:h<n)(h0:b h=false)(hq:∀l o,l<o->l<=h->b (h-l)=false->(h+1<=o∨(o<=h/\b (h-o)=true)) ->Q (none,l,o) st):wpS M A E s (Ug bd n h (h+1)) Q st:=by
 unfold Ug
 refine wpS_forRange (I:=λx c st'=>st'=st/\ ∃l o,c=(none,l,o)/\l<o/\l<=h/\b (h-l)=false/\x<o) ?_ ?_ ⟨rfl,0,1,rfl,by omega,by omega,h0,by omega⟩
 ·rintro x c st' _ hx ⟨rfl,l,o,rfl,h1,h2,h3,h4⟩
  dsimp only
  by_cases hm:o≥h+1
  ·rw[if_pos hm]
   exact wpS_pure (hq l o h1 h2 h3 (.inl hm))
  ·rw[if_neg hm]
   refine wpS_bind (hb _ (by omega) _ ?_)
   dsimp only
   cases e:b (h-o)with
   |true=>
    simp only[if_true]
    exact wpS_pure (hq l o h1 h2 h3 (.inr ⟨by omega,e⟩))
   |false=>
    simp only[Bool.false_eq_true,if_false]
    exact wpS_pure ⟨rfl,o,2*o+1,rfl,by omega,by omega,e,by omega⟩
 ·rintro c st' ⟨rfl,l,o,rfl,h1,h2,h3,h4⟩
  exact hq l o h1 h2 h3 (.inl (by omega))
theorem SG{lo hi:Nat}{Q:Option Nat->SortSt->Prop}(hb:∀i,i<n-> ∀Q:Option Bool->SortSt->Prop,Q (some (b i)) st->wpS M A E s (bd i) Q st)(mono:∀i j,i<=j->j<n->b j=true->b i=true)
  (YH:lo<=hi)(hn:hi<=n)(h1:∀i,i<lo->b i=true)(h2:∀i,hi<=i->i<n->b i=false)(hq:∀k,k<=n->(∀i,i<k->b i=true) ->(∀i,k<=i->i<n->b i=false) ->Q (some k) st):
  wpS M A E s (SE bd n lo hi) Q st:=by
 unfold SE
 refine wpS_bind (wpS_mono (wpS_forRange (I:=λx c st'=>st'=st/\ ∃l o,c=(none,l,o)/\l<=o/\o<=n/\(∀i,i<l->b i=true)/\(∀i,o<=i->i<n->b i=false)/\(o-l)+x<=n)
  (Q:=λc st'=>st'=st/\ ∃o,c=(none,o,o)/\o<=n/\(∀i,i<o->b i=true)/\(∀i,o<=i->i<n->b i=false)) ?_ ?_ ⟨rfl,lo,hi,rfl,YH,hn,h1,h2,by omega⟩) ?_)
 ·rintro x c st' _ hx ⟨rfl,l,o,rfl,a1,a2,a3,a4,a5⟩
  dsimp only
  by_cases hm:l≥o
  ·rw[if_pos hm]
   have e:l=o:=by omega
   subst e
   exact wpS_pure ⟨rfl,l,rfl,a2,a3,a4⟩
  ·rw[if_neg hm]
   refine wpS_bind (hb _ (by omega) _ ?_)
   dsimp only
   cases e:b (l+(o-l)/2)with
   |true=>
    simp only[if_true]
    exact wpS_pure ⟨rfl,_,_,rfl,by omega,a2,λi hi=>mono i _ (by omega) (by omega) e,a4,by omega⟩
   |false=>
    simp only[Bool.false_eq_true,if_false]
    refine wpS_pure ⟨rfl,_,_,rfl,by omega,by omega,a3,λi hi hin=> ?_,by omega⟩
    cases e2:b i with
    |false=>rfl
    |true=>rw[mono _ i hi hin e2]at e;cases e
 ·rintro c st' ⟨rfl,l,o,rfl,a1,a2,a3,a4,a5⟩
  have e:l=o:=by omega
  subst e
  exact⟨rfl,l,rfl,a2,a3,a4⟩
 ·rintro c st' ⟨rfl,o,rfl,a2,a3,a4⟩
  exact wpS_pure (hq o a2 a3 a4)
theorem PJ{h:Nat}{Q:Option Nat->SortSt->Prop}(hb:∀i,i<n-> ∀Q:Option Bool->SortSt->Prop,Q (some (b i)) st->wpS M A E s (bd i) Q st)(mono:∀i j,i<=j->j<n->b j=true->b i=true)
  (hh:h<n)(hq:∀k,k<=n->(∀i,i<k->b i=true) ->(∀i,k<=i->i<n->b i=false) ->Q (some k) st):wpS M A E s (MI bd n h) Q st:=by
 unfold MI
 have anti:∀i j,i<=j->j<n->b i=false->b j=false:=λi j h1 h2 h3=>by
  cases e:b j with
  |false=>rfl
  |true=>rw[mono i j h1 h2 e]at h3;cases h3
 refine wpS_bind (hb h hh _ ?_)
 dsimp only
 cases e:b h with
 |true=>
  simp only[if_true]
  refine wpS_bind (w_up hb mono hh e λl o a1 a2 a3 a4=> ?_)
  dsimp only
  refine SG hb mono (by omega) (by omega) (λi hi=>mono i (h+l) (by omega) a2 a3) (λi hi hin=> ?_) hq
  rcases a4 with a4|a4
  ·omega
  ·exact anti (h+o) i (by omega) hin a4.2
 |false=>
  simp only[Bool.false_eq_true,if_false]
  refine wpS_bind (VD hb hh e λl o a1 a2 a3 a4=> ?_)
  dsimp only
  refine SG hb mono (by omega) (by omega) (λi hi=> ?_) (λi hi hin=>anti (h-l) i (by omega) hin a3) hq
  rcases a4 with a4|a4
  ·omega
  ·exact mono i (h-o) (by omega) (by omega) a4.2
end
noncomputable def qI(prog:Program)(w:World)(A:Around)(E:Value->Shared->Prop)(s:Shared)(κ:SortKind)(K:Keyed->Int)(D:Keyed->Prop):Prop:=
 ∀(st:SortSt)(x y:Keyed)(Q:Option Bool->SortSt->Prop),kindOf st=κ->D x->D y->Q (some (decide (K x<K y))) st->wpS (model prog w) A E s (lt' x y) Q st
section
variable{prog:Program}{w:World}{A:Around}{E:Value->Shared->Prop}{s:Shared}{κ:SortKind}{K:Keyed->Int}{D:Keyed->Prop}{st:SortSt}
theorem bf{ar:Array Keyed}{i:Nat}{x:Keyed}{Q:Keyed->SortSt->Prop}{M:Model}(h:ar[i]?=some x)(hq:Q x st):wpS M A E s (elem' ar i) Q st:=by
 rw[elem'_eq,h]
 exact wpS_pure hq
theorem kT(hL:qI prog w A E s κ K D){lf:Bool}{ky:Keyed}{ar:Array Keyed}{b0 n h:Nat}{Q:Option Nat->SortSt->Prop}(hk:kindOf st=κ)(xs:List Keyed)(hx:∀i,i<n->ar[b0+i]?=xs[i]?)(hn:n=xs.length)
  (hD:∀x∈xs,D x)(WZ:D ky)(hs:xs.Pairwise λx y=>K x<=K y)(hh:h<n)
  (hq:∀k,k<=n->(∀x∈xs.take k,if lf then K x<K ky else K x<=K ky) ->(∀x∈xs.drop k,if lf then K ky<=K x else K ky<K x) ->Q (some k) st):wpS (model prog w) A E s (MF lf ky ar b0 n h) Q st:=by
 rw[PF]
 have gd:∀i,i<n-> ∃x,xs[i]?=some x/\x∈xs:=λi hi=>⟨xs[i]'(by omega),List.getElem?_eq_getElem _,List.getElem_mem _⟩
 refine PJ (b:=λi=>match xs[i]? with|some x=>(if lf then decide (K x<K ky)else !decide (K ky<K x))|none=>false) (λi hi Q hQ=> ?_) (λi j hij hj hb=> ?_) hh (λk hk1 h1 h2=>hq k hk1 (λx hx=> ?_) (λx hx=> ?_))
 ·obtain⟨x,e,m⟩:=gd i hi
  rw[e]at hQ
  dsimp only at hQ
  unfold WY
  refine wpS_bind (bf ((hx i hi).trans e) ?_)
  cases lf with
  |true=>
   simp only[if_true]at hQ ⊢
   exact hL st x ky Q hk (hD x m) WZ hQ
  |false=>
   simp only[Bool.false_eq_true,if_false]at hQ ⊢
   refine wpS_bind (hL st ky x _ hk WZ (hD x m) ?_)
   exact wpS_pure hQ
 ·obtain⟨x,ex,mx⟩:=gd i (by omega)
  obtain⟨y,ey,my⟩:=gd j hj
  have le:K x<=K y:=by
   rcases Nat.lt_or_ge i j with q|q
   ·have a:=List.pairwise_iff_getElem.mp hs i j (by omega) (by omega) q
    rw[List.getElem?_eq_getElem (by omega)]at ex ey
    rw[<-Option.some.inj ex,<-Option.some.inj ey]
    exact a
   ·have:i=j:=by omega
    subst this
    rw[ex]at ey
    rw[Option.some.inj ey]
    exact Int.le_refl _
  rw[ey]at hb
  rw[ex]
  dsimp only at hb ⊢
  cases lf with
  |true=>
   simp only[if_true,decide_eq_true_eq]at hb ⊢
   omega
  |false=>
   simp only[Bool.false_eq_true,if_false,Bool.not_eq_true',decide_eq_false_iff_not]at hb ⊢
   omega
 ·obtain⟨i,hi,rfl⟩:=List.mem_take_iff_getElem.mp hx
  have hi':i<k:=by omega
  have b:=h1 i hi'
  rw[List.getElem?_eq_getElem (by omega)]at b
  dsimp only at b
  cases lf with
  |true=>simpa using b
  |false=>simpa using b
 ·obtain⟨i,hi,rfl⟩:=List.mem_drop_iff_getElem.mp hx
  have b:=h2 (k+i) (by omega) (by omega)
  rw[List.getElem?_eq_getElem (by omega)]at b
  dsimp only at b
  cases lf with
  |true=>simpa using b
  |false=>simpa using b
end
theorem rC(g:Nat):SA g=modify λz=>SortSt.mk' (kindOf z) (arrOf z) (pendingOf z) g (failedOf z):=rfl
structure MG(K:Keyed->Int)(tot out ra rb:List Keyed):Prop where
 perm:(out++(ra++rb)).Perm tot
 so:out.Pairwise λx y=>K x<=K y
 sa:ra.Pairwise λx y=>K x<=K y
 sb:rb.Pairwise λx y=>K x<=K y
 oa:∀x∈out,∀y∈ra,K x<=K y
 ob:∀x∈out,∀y∈rb,K x<=K y
theorem MG.yv{K:Keyed->Int}{tot out l ra rb:List Keyed}(h:MG K tot out (l++ra) rb)(hb:∀x∈l,∀y∈rb,K x<=K y):MG K tot (out++l) ra rb:=by
 have sa:=List.pairwise_append.mp h.sa
 refine⟨?_,List.pairwise_append.mpr ⟨h.so,sa.1,λx hx y hy=>h.oa x hx y (List.mem_append_left _ hy)⟩,sa.2.1,h.sb,λx hx y hy=> ?_,λx hx y hy=> ?_⟩
 ·have:=h.perm
  simpa [List.append_assoc]using this
 ·rcases List.mem_append.mp hx with q|q
  ·exact h.oa x q y (List.mem_append_right _ hy)
  ·exact sa.2.2 x q y hy
 ·rcases List.mem_append.mp hx with q|q
  ·exact h.ob x q y hy
  ·exact hb x q y hy
theorem MG.swap{K:Keyed->Int}{tot out ra rb:List Keyed}(h:MG K tot out ra rb):MG K tot out rb ra:=
 ⟨(List.Perm.append_left out List.perm_append_comm).trans h.perm,h.so,h.sb,h.sa,h.ob,h.oa⟩
theorem MG.tR{K:Keyed->Int}{tot out l ra rb:List Keyed}(h:MG K tot out ra (l++rb))(hb:∀x∈l,∀y∈ra,K x<=K y):MG K tot (out++l) ra rb:=(h.swap.yv hb).swap
theorem MG.iz{K:Keyed->Int}{tot out ra rb:List Keyed}{x:Keyed}(h:MG K tot out (x::ra) rb)(hb:∀y∈rb,K x<=K y):MG K tot (out++ [x]) ra rb:=
 MG.yv (l:=[x]) h λz hz y hy=>by rw[List.mem_singleton.mp hz];exact hb y hy
theorem MG.pF{K:Keyed->Int}{tot out ra rb:List Keyed}{x:Keyed}(h:MG K tot out ra (x::rb))(hb:∀y∈ra,K x<=K y):MG K tot (out++ [x]) ra rb:=(h.swap.iz hb).swap
noncomputable def Good(K:Keyed->Int)(tot r:List Keyed):Prop:=r.Perm tot/\r.Pairwise λx y=>K x<=K y
theorem MG.fin{K:Keyed->Int}{tot out ra rb r:List Keyed}(h:MG K tot out ra rb)(p:r.Perm (ra++rb))(s:r.Pairwise λx y=>K x<=K y):Good K tot (out++r):=by
 refine⟨(List.Perm.append_left out p).trans h.perm,List.pairwise_append.mpr ⟨h.so,s,λx hx y hy=> ?_⟩⟩
 rcases List.mem_append.mp (p.mem_iff.mp hy)with q|q
 ·exact h.oa x hx y q
 ·exact h.ob x hx y q
theorem fC{K:Keyed->Int}{x:Keyed}{l:List Keyed}(h:(x::l).Pairwise λx y=>K x<=K y):∀y∈x::l,K x<=K y:=λy hy=>by
 rcases List.mem_cons.mp hy with e|hy
 ·rw[e];exact Int.le_refl _
 ·exact(List.pairwise_cons.mp h).1 y hy
theorem PK(a b:Array Keyed):VB a b=(do
 rule "list.sort.merge-lo"
 let tt:=a.size+b.size
 let fin (o:Array Keyed) (i j:Nat):=o++a.extract i a.size++b.extract j b.size
 let fla (o:Array Keyed) (i j:Nat):=o++b.extract j b.size++a.extract i a.size
 let mut o:Array Keyed:= #[<-elem' b 0]
 let mut i:=0
 let mut j:=1
 if j==b.size then return fin o i j
 if i+1==a.size then return fla o i j
 let mut g:=gallopOf (<-get)
 for _ in [0:tt] do
  let mut ca:=0
  let mut cb:=0
  for _ in [0:tt] do
   let some bw<-lt' (<-elem' b j) (<-elem' a i)|return fin o i j
   if bw then
    o:=o.push (<-elem' b j);j:=j+1;cb:=cb+1;ca:=0
    if j==b.size then return fin o i j
    if cb≥g then break
   else
    o:=o.push (<-elem' a i);i:=i+1;ca:=ca+1;cb:=0
    if i+1==a.size then return fla o i j
    if ca≥g then break
  rule "list.sort.gallop"
  g:=g+1
  for _ in [0:tt] do
   if g>1 then g:=g-1
   SA g
   let some k<-MF false (<-elem' b j) a i (a.size-i) 0|return fin o i j
   ca:=k
   if k>0 then
    o:=o++a.extract i (i+k);i:=i+k
    if i+1==a.size then return fla o i j
    if i==a.size then return fin o i j
   o:=o.push (<-elem' b j);j:=j+1
   if j==b.size then return fin o i j
   let some k<-MF true (<-elem' a i) b j (b.size-j) 0|return fin o i j
   cb:=k
   if k>0 then
    o:=o++b.extract j (j+k);j:=j+k
    if j==b.size then return fin o i j
   o:=o.push (<-elem' a i);i:=i+1
   if i+1==a.size then return fla o i j
   if ca<7 && cb<7 then break
  g:=g+1
  SA g
 @unsupported _ "internal:list.sort.merge-bound"):=rfl
noncomputable def Sg(st st':SortSt):Prop:=kindOf st'=kindOf st/\arrOf st'=arrOf st/\pendingOf st'=pendingOf st/\failedOf st'=failedOf st
theorem Sg.refl(st:SortSt):Sg st st:=⟨rfl,rfl,rfl,rfl⟩
theorem Sg.set{st st':SortSt}(h:Sg st st')(g:Nat):Sg st (SortSt.mk' (kindOf st') (arrOf st') (pendingOf st') g (failedOf st')):=h
section
variable{prog:Program}{w:World}{A:Around}{E:Value->Shared->Prop}{s:Shared}{κ:SortKind}{K:Keyed->Int}{D:Keyed->Prop}{st:SortSt}
noncomputable def LI(K:Keyed->Int)(a b o:Array Keyed)(i j:Nat):Prop:=MG K (a.toList++b.toList) o.toList (a.toList.drop i) (b.toList.drop j)/\i+1<a.size/\j<b.size
theorem je{a:Array Keyed}{i:Nat}(h:i<a.size):∃x,a[i]?=some x/\x∈a.toList/\a.toList.drop i=x::a.toList.drop (i+1):=
 ⟨a[i],getElem?_pos a i h,by simp,by rw[List.drop_eq_getElem_cons (by simpa using h)];simp⟩
theorem iU(a:Array Keyed)(i k:Nat):a.toList.drop i=(a.toList.drop i).take k++a.toList.drop (i+k):=by
 rw[<-List.drop_drop,List.take_append_drop]
theorem JH{o a b:Array Keyed}{i j:Nat}:(o++a.extract i a.size++b.extract j b.size).toList=o.toList++(a.toList.drop i++b.toList.drop j):=by
 have e1:List.take (a.size-i) (List.drop i a.toList)=List.drop i a.toList:=List.take_of_length_le (by simp)
 have e2:List.take (b.size-j) (List.drop j b.toList)=List.drop j b.toList:=List.take_of_length_le (by simp)
 simp[List.append_assoc,e1,e2]
theorem oQ{a:Array Keyed}{i k:Nat}:(a.extract i (i+k)).toList=(a.toList.drop i).take k:=by
 simp[List.take_drop,Nat.add_comm]
theorem LI.fin{a b o:Array Keyed}{i j:Nat}(h:MG K (a.toList++b.toList) o.toList (a.toList.drop i) (b.toList.drop j))(hj:i=a.size∨j=b.size):Good K (a.toList++b.toList) (o++a.extract i a.size++b.extract j b.size).toList:=by
 rw[JH]
 refine h.fin (.refl _) ?_
 rcases hj with rfl|rfl
 ·rw[List.drop_eq_nil_of_le (by simp),List.nil_append]
  exact h.sb
 ·rw[List.drop_eq_nil_of_le (as:=b.toList) (by simp),List.append_nil]
  exact h.sa
theorem LI.fla{a b o:Array Keyed}{i j:Nat}(h:MG K (a.toList++b.toList) o.toList (a.toList.drop i) (b.toList.drop j))(hj:i+1=a.size)(hl:∀y∈b.toList,∀x∈a.toList.drop (a.size-1),K y<=K x):Good K (a.toList++b.toList) (o++b.extract j b.size++a.extract i a.size).toList:=by
 rw[JH]
 refine h.fin List.perm_append_comm (List.pairwise_append.mpr ⟨h.sb,h.sa,λy hy x hx=>hl y (List.mem_of_mem_drop hy) x ?_⟩)
 rw[<-hj,Nat.add_sub_cancel]
 exact hx
theorem SH(hL:qI prog w A E s κ K D){a b:Array Keyed}{Q:Array Keyed->SortSt->Prop}(hk:kindOf st=κ)(ha:0<a.size)(hb:0<b.size)(Da:∀x∈a.toList,D x)(Db:∀x∈b.toList,D x)
  (sa:a.toList.Pairwise λx y=>K x<=K y)(sb:b.toList.Pairwise λx y=>K x<=K y)(h1:∀y∈b.toList.take 1,∀x∈a.toList,K y<=K x)(h2:∀y∈b.toList,∀x∈a.toList.drop (a.size-1),K y<=K x)
  (hq:∀r st',Sg st st'->Good K (a.toList++b.toList) r.toList->Q r st'):wpS (model prog w) A E s (VB a b) Q st:=by
 rw[PK]
 refine wpS_bind (wpS_lift (wpAny_rule ⟨rfl,?_⟩))
 dsimp only
 obtain⟨b0,e0,m0,d0⟩:=je (a:=b) (i:=0) hb
 refine wpS_bind (bf e0 ?_)
 have M0:MG K (a.toList++b.toList) (#[b0]:Array Keyed).toList (a.toList.drop 0) (b.toList.drop 1):=by
  refine⟨?_,List.pairwise_singleton _ _,sa,?_,λx hx y hy=> ?_,λx hx y hy=> ?_⟩
  ·show([b0]++(a.toList++b.toList.drop 1)).Perm _
   have e:b.toList=b0::b.toList.drop 1:=d0
   conv=>rhs;rw[e]
   exact(List.perm_middle (l₁:=a.toList) (l₂:=b.toList.drop 1) (a:=b0)).symm
  ·exact List.Pairwise.sublist (List.drop_sublist _ _) sb
  ·rw[List.mem_singleton.mp hx]
   have e:b.toList=b0::b.toList.drop 1:=d0
   exact h1 b0 (by rw[e];simp) y hy
  ·rw[List.mem_singleton.mp hx]
   have e:b.toList=b0::b.toList.drop 1:=d0
   rw[e]at sb
   exact fC sb y (List.mem_cons_of_mem _ hy)
 by_cases c1:(1==b.size)=true
 ·rw[if_pos c1]
  exact wpS_pure (hq _ _ (Sg.refl _) (LI.fin M0 (.inr (by simpa using c1))))
 rw[if_neg c1]
 by_cases c2:(0+1==a.size)=true
 ·rw[if_pos c2]
  exact wpS_pure (hq _ _ (Sg.refl _) (LI.fla M0 (by simpa using c2) h2))
 rw[if_neg c2]
 have n1:b.size≠1:=λe=>c1 (by rw[e];rfl)
 have n2:a.size≠1:=λe=>c2 (by rw[e];rfl)
 refine wpS_bind (wpS_get ?_)
 have L0:LI K a b #[b0] 0 1:=⟨M0,by omega,by omega⟩
 refine wpS_bind (wpS_mono (wpS_forRange (I:=λx c st'=>Sg st st'/\ ∃o i j g,c=(none,o,i,j,g)/\LI K a b o i j/\x<=i+j)
  (Q:=λc st'=>Sg st st'/\ ∃r z,c=(some r,z)/\Good K (a.toList++b.toList) r.toList) ?_ ?_ ⟨Sg.refl _,_,0,1,_,rfl,L0,by omega⟩) ?_)
 ·rintro x c s1 _ hx ⟨S1,o,i,j,g,rfl,I1,p1⟩
  dsimp only
  refine wpS_bind (wpS_mono (wpS_forRange (I:=λy c st'=>Sg st st'/\ ∃o i j ca cb,c=(none,o,i,j,ca,cb)/\LI K a b o i j/\y+x<=i+j)
   (Q:=λc st'=>Sg st st'/\((∃r z,c=(some r,z)/\Good K (a.toList++b.toList) r.toList)∨ ∃o i j ca cb,c=(none,o,i,j,ca,cb)/\LI K a b o i j/\x+1<=i+j)) ?_ ?_ ⟨S1,o,i,j,_,_,rfl,I1,by omega⟩) ?_)
  ·rintro y c s2 _ hy ⟨S2,o,i,j,ca,cb,rfl,⟨I2,l1,l2⟩,p2⟩
   dsimp only
   obtain⟨xb,eb,mb,db⟩:=je (a:=b) (i:=j) l2
   obtain⟨xa,ea,ma,da⟩:=je (a:=a) (i:=i) (by omega)
   have sa':=I2.sa
   have sb':=I2.sb
   rw[da]at sa'
   rw[db]at sb'
   refine wpS_bind (bf eb (wpS_bind (bf ea (wpS_bind (hL s2 xb xa _ (S2.1.trans hk) (Db _ mb) (Da _ ma) ?_)))))
   dsimp only
   by_cases lt:K xb<K xa
   ·rw[decide_eq_true lt,if_pos rfl]
    have I3:MG K (a.toList++b.toList) (o.push xb).toList (a.toList.drop i) (b.toList.drop (j+1)):=by
     rw[Array.toList_push]
     refine MG.pF (by rw[<-db];exact I2) λz hz=> ?_
     rw[da]at hz
     exact Int.le_trans (Int.le_of_lt lt) (fC sa' z hz)
    refine wpS_bind (bf eb ?_)
    by_cases c3:(j+1==b.size)=true
    ·rw[if_pos c3]
     exact wpS_pure ⟨S2,.inl ⟨_,_,rfl,LI.fin I3 (.inr (by simpa using c3))⟩⟩
    rw[if_neg c3]
    have n3:j+1≠b.size:=λe=>c3 (by rw[e];simp)
    split
    ·exact wpS_pure ⟨S2,.inr ⟨_,_,_,_,_,rfl,⟨I3,l1,by omega⟩,by omega⟩⟩
    ·exact wpS_pure ⟨S2,_,_,_,_,_,rfl,⟨I3,l1,by omega⟩,by omega⟩
   ·rw[decide_eq_false lt,if_neg (by simp)]
    have I3:MG K (a.toList++b.toList) (o.push xa).toList (a.toList.drop (i+1)) (b.toList.drop j):=by
     rw[Array.toList_push]
     refine MG.iz (by rw[<-da];exact I2) λz hz=> ?_
     rw[db]at hz
     exact Int.le_trans (Int.not_lt.mp lt) (fC sb' z hz)
    refine wpS_bind (bf ea ?_)
    by_cases c3:(i+1+1==a.size)=true
    ·rw[if_pos c3]
     exact wpS_pure ⟨S2,.inl ⟨_,_,rfl,LI.fla I3 (by simpa using c3) h2⟩⟩
    rw[if_neg c3]
    have n3:i+1+1≠a.size:=λe=>c3 (by rw[e];simp)
    split
    ·exact wpS_pure ⟨S2,.inr ⟨_,_,_,_,_,rfl,⟨I3,by omega,l2⟩,by omega⟩⟩
    ·exact wpS_pure ⟨S2,_,_,_,_,_,rfl,⟨I3,by omega,l2⟩,by omega⟩
  ·rintro c s2 ⟨S2,o,i,j,ca,cb,rfl,⟨I2,l1,l2⟩,p2⟩
   omega
  ·rintro c s2 ⟨S2,⟨r,z,rfl,hr⟩|⟨o,i,j,ca,cb,rfl,I2,p2⟩⟩
   ·exact wpS_pure ⟨S2,r,_,rfl,hr⟩
   dsimp only
   refine wpS_bind (wpS_lift (wpAny_rule ⟨rfl,?_⟩))
   refine wpS_bind (wpS_mono (wpS_forRange (I:=λy c st'=>Sg st st'/\ ∃o i j g ca cb,c=(none,o,i,j,g,ca,cb)/\LI K a b o i j/\y+x+1<=i+j)
    (Q:=λc st'=>Sg st st'/\((∃r z,c=(some r,z)/\Good K (a.toList++b.toList) r.toList)∨ ∃o i j g ca cb,c=(none,o,i,j,g,ca,cb)/\LI K a b o i j/\x+1<=i+j)) ?_ ?_ ⟨S2,o,i,j,_,_,_,rfl,I2,by omega⟩) ?_)
   ·rintro y c s3 _ hy ⟨S3,o,i,j,g,ca,cb,rfl,⟨I2,l1,l2⟩,p2⟩
    dsimp only
    by_cases hg:g>1
    ·rw[if_pos hg]
     rw[rC]
     refine wpS_bind (wpS_modify ?_)
     obtain⟨xb,eb,mb,db⟩:=je (a:=b) (i:=j) l2
     have sb':=I2.sb
     rw[db]at sb'
     refine wpS_bind (bf eb (wpS_bind (kT hL ((S3.set _).1.trans hk) (a.toList.drop i) (λz hz=>by simp) (by simp) (λx hx=>Da x (List.mem_of_mem_drop hx)) (Db _ mb) I2.sa (by omega) λk hk1 t1 t2=> ?_)))
     simp only[Bool.false_eq_true,if_false]at t1 t2
     rw[List.drop_drop]at t2
     dsimp only
     have J:MG K (a.toList++b.toList) (o++a.extract i (i+k)).toList (a.toList.drop (i+k)) (b.toList.drop j):=by
      rw[Array.toList_append,oQ]
      refine MG.yv (by rw[<-iU];exact I2) λx hx y hy=> ?_
      rw[db]at hy
      exact Int.le_trans (t1 x hx) (fC sb' y hy)
     have tJ:=t2
     by_cases hk0:k>0
     ·rw[if_pos hk0]
      by_cases c3:(i+k+1==a.size)=true
      ·rw[if_pos c3]
       exact wpS_pure ⟨S3.set _,.inl ⟨_,_,rfl,LI.fla J (by simpa using c3) h2⟩⟩
      rw[if_neg c3]
      have n3:i+k+1≠a.size:=λe=>c3 (by rw[e];simp)
      by_cases c4:(i+k==a.size)=true
      ·rw[if_pos c4]
       exact wpS_pure ⟨S3.set _,.inl ⟨_,_,rfl,LI.fin J (.inl (by simpa using c4))⟩⟩
      rw[if_neg c4]
      have n4:i+k≠a.size:=λe=>c4 (by rw[e];simp)
      obtain⟨xa,ea,ma,da⟩:=je (a:=a) (i:=i+k) (by omega)
      have sa':=J.sa
      rw[da]at sa'
      have I4:MG K (a.toList++b.toList) ((o++a.extract i (i+k)).push xb).toList (a.toList.drop (i+k)) (b.toList.drop (j+1)):=by
       rw[Array.toList_push]
       exact MG.pF (by rw[<-db];exact J) λz hz=>Int.le_of_lt (tJ z hz)
      refine wpS_bind (bf eb ?_)
      by_cases c5:(j+1==b.size)=true
      ·rw[if_pos c5]
       exact wpS_pure ⟨S3.set _,.inl ⟨_,_,rfl,LI.fin I4 (.inr (by simpa using c5))⟩⟩
      rw[if_neg c5]
      have n5:j+1≠b.size:=λe=>c5 (by rw[e];simp)
      refine wpS_bind (bf ea (wpS_bind (kT hL ((S3.set _).1.trans hk) (b.toList.drop (j+1)) (λz hz=>by simp) (by simp) (λx hx=>Db x (List.mem_of_mem_drop hx)) (Da _ ma) I4.sb (by omega) λk2 hk2 u1 u2=> ?_)))
      simp only[if_true]at u1 u2
      rw[List.drop_drop]at u2
      dsimp only
      have I5:MG K (a.toList++b.toList) ((o++a.extract i (i+k)).push xb++b.extract (j+1) (j+1+k2)).toList (a.toList.drop (i+k)) (b.toList.drop (j+1+k2)):=by
       rw[Array.toList_append,oQ]
       refine MG.tR (by rw[<-iU];exact I4) λx hx y hy=> ?_
       rw[da]at hy
       exact Int.le_trans (Int.le_of_lt (u1 x hx)) (fC sa' y hy)
      by_cases hk2:k2>0
      ·rw[if_pos hk2]
       by_cases c6:(j+1+k2==b.size)=true
       ·rw[if_pos c6]
        exact wpS_pure ⟨S3.set _,.inl ⟨_,_,rfl,LI.fin I5 (.inr (by simpa using c6))⟩⟩
       rw[if_neg c6]
       have n6:j+1+k2≠b.size:=λe=>c6 (by rw[e];simp)
       have I6:MG K (a.toList++b.toList) (((o++a.extract i (i+k)).push xb++b.extract (j+1) (j+1+k2)).push xa).toList (a.toList.drop (i+k+1)) (b.toList.drop (j+1+k2)):=by
        rw[Array.toList_push]
        exact MG.iz (by rw[<-da];exact I5) u2
       refine wpS_bind (bf ea ?_)
       by_cases c7:(i+k+1+1==a.size)=true
       ·rw[if_pos c7]
        exact wpS_pure ⟨S3.set _,.inl ⟨_,_,rfl,LI.fla I6 (by simpa using c7) h2⟩⟩
       rw[if_neg c7]
       have n7:i+k+1+1≠a.size:=λe=>c7 (by rw[e];simp)
       split
       ·exact wpS_pure ⟨S3.set _,.inr ⟨_,_,_,_,_,_,rfl,⟨I6,by omega,by omega⟩,by omega⟩⟩
       ·exact wpS_pure ⟨S3.set _,_,_,_,_,_,_,rfl,⟨I6,by omega,by omega⟩,by omega⟩
      ·rw[if_neg hk2]
       have z2:k2=0:=by omega
       subst z2
       have I6:MG K (a.toList++b.toList) (((o++a.extract i (i+k)).push xb).push xa).toList (a.toList.drop (i+k+1)) (b.toList.drop (j+1)):=by
        rw[Array.toList_push]
        exact MG.iz (by rw[<-da];exact I4) u2
       refine wpS_bind (bf ea ?_)
       by_cases c7:(i+k+1+1==a.size)=true
       ·rw[if_pos c7]
        exact wpS_pure ⟨S3.set _,.inl ⟨_,_,rfl,LI.fla I6 (by simpa using c7) h2⟩⟩
       rw[if_neg c7]
       have n7:i+k+1+1≠a.size:=λe=>c7 (by rw[e];simp)
       split
       ·exact wpS_pure ⟨S3.set _,.inr ⟨_,_,_,_,_,_,rfl,⟨I6,by omega,by omega⟩,by omega⟩⟩
       ·exact wpS_pure ⟨S3.set _,_,_,_,_,_,_,rfl,⟨I6,by omega,by omega⟩,by omega⟩
     ·rw[if_neg hk0]
      have z0:k=0:=by omega
      subst z0
      replace J:=I2
      obtain⟨xa,ea,ma,da⟩:=je (a:=a) (i:=i) (by omega)
      have sa':=J.sa
      rw[da]at sa'
      have I4:MG K (a.toList++b.toList) (o.push xb).toList (a.toList.drop (i)) (b.toList.drop (j+1)):=by
       rw[Array.toList_push]
       exact MG.pF (by rw[<-db];exact J) λz hz=>Int.le_of_lt (tJ z hz)
      refine wpS_bind (bf eb ?_)
      by_cases c5:(j+1==b.size)=true
      ·rw[if_pos c5]
       exact wpS_pure ⟨S3.set _,.inl ⟨_,_,rfl,LI.fin I4 (.inr (by simpa using c5))⟩⟩
      rw[if_neg c5]
      have n5:j+1≠b.size:=λe=>c5 (by rw[e];simp)
      refine wpS_bind (bf ea (wpS_bind (kT hL ((S3.set _).1.trans hk) (b.toList.drop (j+1)) (λz hz=>by simp) (by simp) (λx hx=>Db x (List.mem_of_mem_drop hx)) (Da _ ma) I4.sb (by omega) λk2 hk2 u1 u2=> ?_)))
      simp only[if_true]at u1 u2
      rw[List.drop_drop]at u2
      dsimp only
      have I5:MG K (a.toList++b.toList) (o.push xb++b.extract (j+1) (j+1+k2)).toList (a.toList.drop (i)) (b.toList.drop (j+1+k2)):=by
       rw[Array.toList_append,oQ]
       refine MG.tR (by rw[<-iU];exact I4) λx hx y hy=> ?_
       rw[da]at hy
       exact Int.le_trans (Int.le_of_lt (u1 x hx)) (fC sa' y hy)
      by_cases hk2:k2>0
      ·rw[if_pos hk2]
       by_cases c6:(j+1+k2==b.size)=true
       ·rw[if_pos c6]
        exact wpS_pure ⟨S3.set _,.inl ⟨_,_,rfl,LI.fin I5 (.inr (by simpa using c6))⟩⟩
       rw[if_neg c6]
       have n6:j+1+k2≠b.size:=λe=>c6 (by rw[e];simp)
       have I6:MG K (a.toList++b.toList) ((o.push xb++b.extract (j+1) (j+1+k2)).push xa).toList (a.toList.drop (i+1)) (b.toList.drop (j+1+k2)):=by
        rw[Array.toList_push]
        exact MG.iz (by rw[<-da];exact I5) u2
       refine wpS_bind (bf ea ?_)
       by_cases c7:(i+1+1==a.size)=true
       ·rw[if_pos c7]
        exact wpS_pure ⟨S3.set _,.inl ⟨_,_,rfl,LI.fla I6 (by simpa using c7) h2⟩⟩
       rw[if_neg c7]
       have n7:i+1+1≠a.size:=λe=>c7 (by rw[e];simp)
       split
       ·exact wpS_pure ⟨S3.set _,.inr ⟨_,_,_,_,_,_,rfl,⟨I6,by omega,by omega⟩,by omega⟩⟩
       ·exact wpS_pure ⟨S3.set _,_,_,_,_,_,_,rfl,⟨I6,by omega,by omega⟩,by omega⟩
      ·rw[if_neg hk2]
       have z2:k2=0:=by omega
       subst z2
       have I6:MG K (a.toList++b.toList) ((o.push xb).push xa).toList (a.toList.drop (i+1)) (b.toList.drop (j+1)):=by
        rw[Array.toList_push]
        exact MG.iz (by rw[<-da];exact I4) u2
       refine wpS_bind (bf ea ?_)
       by_cases c7:(i+1+1==a.size)=true
       ·rw[if_pos c7]
        exact wpS_pure ⟨S3.set _,.inl ⟨_,_,rfl,LI.fla I6 (by simpa using c7) h2⟩⟩
       rw[if_neg c7]
       have n7:i+1+1≠a.size:=λe=>c7 (by rw[e];simp)
       split
       ·exact wpS_pure ⟨S3.set _,.inr ⟨_,_,_,_,_,_,rfl,⟨I6,by omega,by omega⟩,by omega⟩⟩
       ·exact wpS_pure ⟨S3.set _,_,_,_,_,_,_,rfl,⟨I6,by omega,by omega⟩,by omega⟩
    ·rw[if_neg hg]
     rw[rC]
     refine wpS_bind (wpS_modify ?_)
     obtain⟨xb,eb,mb,db⟩:=je (a:=b) (i:=j) l2
     have sb':=I2.sb
     rw[db]at sb'
     refine wpS_bind (bf eb (wpS_bind (kT hL ((S3.set _).1.trans hk) (a.toList.drop i) (λz hz=>by simp) (by simp) (λx hx=>Da x (List.mem_of_mem_drop hx)) (Db _ mb) I2.sa (by omega) λk hk1 t1 t2=> ?_)))
     simp only[Bool.false_eq_true,if_false]at t1 t2
     rw[List.drop_drop]at t2
     dsimp only
     have J:MG K (a.toList++b.toList) (o++a.extract i (i+k)).toList (a.toList.drop (i+k)) (b.toList.drop j):=by
      rw[Array.toList_append,oQ]
      refine MG.yv (by rw[<-iU];exact I2) λx hx y hy=> ?_
      rw[db]at hy
      exact Int.le_trans (t1 x hx) (fC sb' y hy)
     have tJ:=t2
     by_cases hk0:k>0
     ·rw[if_pos hk0]
      by_cases c3:(i+k+1==a.size)=true
      ·rw[if_pos c3]
       exact wpS_pure ⟨S3.set _,.inl ⟨_,_,rfl,LI.fla J (by simpa using c3) h2⟩⟩
      rw[if_neg c3]
      have n3:i+k+1≠a.size:=λe=>c3 (by rw[e];simp)
      by_cases c4:(i+k==a.size)=true
      ·rw[if_pos c4]
       exact wpS_pure ⟨S3.set _,.inl ⟨_,_,rfl,LI.fin J (.inl (by simpa using c4))⟩⟩
      rw[if_neg c4]
      have n4:i+k≠a.size:=λe=>c4 (by rw[e];simp)
      obtain⟨xa,ea,ma,da⟩:=je (a:=a) (i:=i+k) (by omega)
      have sa':=J.sa
      rw[da]at sa'
      have I4:MG K (a.toList++b.toList) ((o++a.extract i (i+k)).push xb).toList (a.toList.drop (i+k)) (b.toList.drop (j+1)):=by
       rw[Array.toList_push]
       exact MG.pF (by rw[<-db];exact J) λz hz=>Int.le_of_lt (tJ z hz)
      refine wpS_bind (bf eb ?_)
      by_cases c5:(j+1==b.size)=true
      ·rw[if_pos c5]
       exact wpS_pure ⟨S3.set _,.inl ⟨_,_,rfl,LI.fin I4 (.inr (by simpa using c5))⟩⟩
      rw[if_neg c5]
      have n5:j+1≠b.size:=λe=>c5 (by rw[e];simp)
      refine wpS_bind (bf ea (wpS_bind (kT hL ((S3.set _).1.trans hk) (b.toList.drop (j+1)) (λz hz=>by simp) (by simp) (λx hx=>Db x (List.mem_of_mem_drop hx)) (Da _ ma) I4.sb (by omega) λk2 hk2 u1 u2=> ?_)))
      simp only[if_true]at u1 u2
      rw[List.drop_drop]at u2
      dsimp only
      have I5:MG K (a.toList++b.toList) ((o++a.extract i (i+k)).push xb++b.extract (j+1) (j+1+k2)).toList (a.toList.drop (i+k)) (b.toList.drop (j+1+k2)):=by
       rw[Array.toList_append,oQ]
       refine MG.tR (by rw[<-iU];exact I4) λx hx y hy=> ?_
       rw[da]at hy
       exact Int.le_trans (Int.le_of_lt (u1 x hx)) (fC sa' y hy)
      by_cases hk2:k2>0
      ·rw[if_pos hk2]
       by_cases c6:(j+1+k2==b.size)=true
       ·rw[if_pos c6]
        exact wpS_pure ⟨S3.set _,.inl ⟨_,_,rfl,LI.fin I5 (.inr (by simpa using c6))⟩⟩
       rw[if_neg c6]
       have n6:j+1+k2≠b.size:=λe=>c6 (by rw[e];simp)
       have I6:MG K (a.toList++b.toList) (((o++a.extract i (i+k)).push xb++b.extract (j+1) (j+1+k2)).push xa).toList (a.toList.drop (i+k+1)) (b.toList.drop (j+1+k2)):=by
        rw[Array.toList_push]
        exact MG.iz (by rw[<-da];exact I5) u2
       refine wpS_bind (bf ea ?_)
       by_cases c7:(i+k+1+1==a.size)=true
       ·rw[if_pos c7]
        exact wpS_pure ⟨S3.set _,.inl ⟨_,_,rfl,LI.fla I6 (by simpa using c7) h2⟩⟩
       rw[if_neg c7]
       have n7:i+k+1+1≠a.size:=λe=>c7 (by rw[e];simp)
       split
       ·exact wpS_pure ⟨S3.set _,.inr ⟨_,_,_,_,_,_,rfl,⟨I6,by omega,by omega⟩,by omega⟩⟩
       ·exact wpS_pure ⟨S3.set _,_,_,_,_,_,_,rfl,⟨I6,by omega,by omega⟩,by omega⟩
      ·rw[if_neg hk2]
       have z2:k2=0:=by omega
       subst z2
       have I6:MG K (a.toList++b.toList) (((o++a.extract i (i+k)).push xb).push xa).toList (a.toList.drop (i+k+1)) (b.toList.drop (j+1)):=by
        rw[Array.toList_push]
        exact MG.iz (by rw[<-da];exact I4) u2
       refine wpS_bind (bf ea ?_)
       by_cases c7:(i+k+1+1==a.size)=true
       ·rw[if_pos c7]
        exact wpS_pure ⟨S3.set _,.inl ⟨_,_,rfl,LI.fla I6 (by simpa using c7) h2⟩⟩
       rw[if_neg c7]
       have n7:i+k+1+1≠a.size:=λe=>c7 (by rw[e];simp)
       split
       ·exact wpS_pure ⟨S3.set _,.inr ⟨_,_,_,_,_,_,rfl,⟨I6,by omega,by omega⟩,by omega⟩⟩
       ·exact wpS_pure ⟨S3.set _,_,_,_,_,_,_,rfl,⟨I6,by omega,by omega⟩,by omega⟩
     ·rw[if_neg hk0]
      have z0:k=0:=by omega
      subst z0
      replace J:=I2
      obtain⟨xa,ea,ma,da⟩:=je (a:=a) (i:=i) (by omega)
      have sa':=J.sa
      rw[da]at sa'
      have I4:MG K (a.toList++b.toList) (o.push xb).toList (a.toList.drop (i)) (b.toList.drop (j+1)):=by
       rw[Array.toList_push]
       exact MG.pF (by rw[<-db];exact J) λz hz=>Int.le_of_lt (tJ z hz)
      refine wpS_bind (bf eb ?_)
      by_cases c5:(j+1==b.size)=true
      ·rw[if_pos c5]
       exact wpS_pure ⟨S3.set _,.inl ⟨_,_,rfl,LI.fin I4 (.inr (by simpa using c5))⟩⟩
      rw[if_neg c5]
      have n5:j+1≠b.size:=λe=>c5 (by rw[e];simp)
      refine wpS_bind (bf ea (wpS_bind (kT hL ((S3.set _).1.trans hk) (b.toList.drop (j+1)) (λz hz=>by simp) (by simp) (λx hx=>Db x (List.mem_of_mem_drop hx)) (Da _ ma) I4.sb (by omega) λk2 hk2 u1 u2=> ?_)))
      simp only[if_true]at u1 u2
      rw[List.drop_drop]at u2
      dsimp only
      have I5:MG K (a.toList++b.toList) (o.push xb++b.extract (j+1) (j+1+k2)).toList (a.toList.drop (i)) (b.toList.drop (j+1+k2)):=by
       rw[Array.toList_append,oQ]
       refine MG.tR (by rw[<-iU];exact I4) λx hx y hy=> ?_
       rw[da]at hy
       exact Int.le_trans (Int.le_of_lt (u1 x hx)) (fC sa' y hy)
      by_cases hk2:k2>0
      ·rw[if_pos hk2]
       by_cases c6:(j+1+k2==b.size)=true
       ·rw[if_pos c6]
        exact wpS_pure ⟨S3.set _,.inl ⟨_,_,rfl,LI.fin I5 (.inr (by simpa using c6))⟩⟩
       rw[if_neg c6]
       have n6:j+1+k2≠b.size:=λe=>c6 (by rw[e];simp)
       have I6:MG K (a.toList++b.toList) ((o.push xb++b.extract (j+1) (j+1+k2)).push xa).toList (a.toList.drop (i+1)) (b.toList.drop (j+1+k2)):=by
        rw[Array.toList_push]
        exact MG.iz (by rw[<-da];exact I5) u2
       refine wpS_bind (bf ea ?_)
       by_cases c7:(i+1+1==a.size)=true
       ·rw[if_pos c7]
        exact wpS_pure ⟨S3.set _,.inl ⟨_,_,rfl,LI.fla I6 (by simpa using c7) h2⟩⟩
       rw[if_neg c7]
       have n7:i+1+1≠a.size:=λe=>c7 (by rw[e];simp)
       split
       ·exact wpS_pure ⟨S3.set _,.inr ⟨_,_,_,_,_,_,rfl,⟨I6,by omega,by omega⟩,by omega⟩⟩
       ·exact wpS_pure ⟨S3.set _,_,_,_,_,_,_,rfl,⟨I6,by omega,by omega⟩,by omega⟩
      ·rw[if_neg hk2]
       have z2:k2=0:=by omega
       subst z2
       have I6:MG K (a.toList++b.toList) ((o.push xb).push xa).toList (a.toList.drop (i+1)) (b.toList.drop (j+1)):=by
        rw[Array.toList_push]
        exact MG.iz (by rw[<-da];exact I4) u2
       refine wpS_bind (bf ea ?_)
       by_cases c7:(i+1+1==a.size)=true
       ·rw[if_pos c7]
        exact wpS_pure ⟨S3.set _,.inl ⟨_,_,rfl,LI.fla I6 (by simpa using c7) h2⟩⟩
       rw[if_neg c7]
       have n7:i+1+1≠a.size:=λe=>c7 (by rw[e];simp)
       split
       ·exact wpS_pure ⟨S3.set _,.inr ⟨_,_,_,_,_,_,rfl,⟨I6,by omega,by omega⟩,by omega⟩⟩
       ·exact wpS_pure ⟨S3.set _,_,_,_,_,_,_,rfl,⟨I6,by omega,by omega⟩,by omega⟩
   ·rintro c s3 ⟨S3,o,i,j,g,ca,cb,rfl,⟨I2,l1,l2⟩,p2⟩
    omega
   ·rintro c s3 ⟨S3,⟨r,z,rfl,hr⟩|⟨o,i,j,g,ca,cb,rfl,I2,p2⟩⟩
    ·exact wpS_pure ⟨S3,r,_,rfl,hr⟩
    dsimp only
    rw[rC]
    exact wpS_bind (wpS_modify (wpS_pure ⟨S3.set _,_,_,_,_,rfl,I2,by omega⟩))
 ·rintro c s1 ⟨S1,o,i,j,g,rfl,⟨I1,l1,l2⟩,p1⟩
  omega
 ·rintro c s1 ⟨S1,r,z,rfl,hr⟩
  exact wpS_pure (hq r s1 S1 hr)
end
theorem PL(a b:Array Keyed):VC a b=(do
 rule "list.sort.merge-hi"
 let tt:=a.size+b.size
 let fin (o:Array Keyed) (i j:Nat):=a.extract 0 i++b.extract 0 j++o.reverse
 let Dn (o:Array Keyed) (i j:Nat):=b.extract 0 j++a.extract 0 i++o.reverse
 let mut i:=a.size-1
 let mut j:=b.size
 let mut o:Array Keyed:= #[<-elem' a i]
 if i==0 then return fin o i j
 if j==1 then return Dn o i j
 let mut g:=gallopOf (<-get)
 for _ in [0:tt] do
  let mut ca:=0
  let mut cb:=0
  for _ in [0:tt] do
   let some aw<-lt' (<-elem' b (j-1)) (<-elem' a (i-1))|return fin o i j
   if aw then
    i:=i-1;o:=o.push (<-elem' a i);ca:=ca+1;cb:=0
    if i==0 then return fin o i j
    if ca≥g then break
   else
    j:=j-1;o:=o.push (<-elem' b j);cb:=cb+1;ca:=0
    if j==1 then return Dn o i j
    if cb≥g then break
  rule "list.sort.gallop"
  g:=g+1
  for _ in [0:tt] do
   if g>1 then g:=g-1
   SA g
   let some at_<-MF false (<-elem' b (j-1)) a 0 i (i-1)|return fin o i j
   let k:=i-at_
   ca:=k
   if k>0 then
    o:=o++(a.extract at_ i).reverse;i:=at_
    if i==0 then return fin o i j
   j:=j-1;o:=o.push (<-elem' b j)
   if j==1 then return Dn o i j
   let some at_<-MF true (<-elem' a (i-1)) b 0 j (j-1)|return fin o i j
   let k:=j-at_
   cb:=k
   if k>0 then
    o:=o++(b.extract at_ j).reverse;j:=at_
    if j==1 then return Dn o i j
    if j==0 then return fin o i j
   i:=i-1;o:=o.push (<-elem' a i)
   if i==0 then return fin o i j
   if ca<7 && cb<7 then break
  g:=g+1
  SA g
 @unsupported _ "internal:list.sort.merge-bound"):=rfl
section
variable{prog:Program}{w:World}{A:Around}{E:Value->Shared->Prop}{s:Shared}{κ:SortKind}{K:Keyed->Int}{D:Keyed->Prop}{st:SortSt}
noncomputable abbrev rv(a:Array Keyed)(i:Nat):List Keyed:=(a.toList.take i).reverse
noncomputable abbrev MH(K:Keyed->Int)(a b o:Array Keyed)(i j:Nat):Prop:=MG (λx=> -(K x)) (a.toList++b.toList) o.toList (rv a i) (rv b j)
theorem qJ{a:Array Keyed}{i:Nat}(h0:0<i)(h:i<=a.size):∃x,a[i-1]?=some x/\x∈a.toList/\rv a i=x::rv a (i-1):=by
 have h1:i-1<a.toList.length:=by simp;omega
 refine⟨a[i-1]'(by omega),getElem?_pos a (i-1) (by omega),by simp,?_⟩
 have e:a.toList.take i=a.toList.take (i-1)++ [a[i-1]'(by omega)]:=by
  have:=List.take_add_one (l:=a.toList) (i:=i-1)
  rw[show i-1+1=i by omega]at this
  rw[this,List.getElem?_eq_getElem h1]
  simp
 show(a.toList.take i).reverse=_
 rw[e,List.reverse_append]
 rfl
theorem lY(a:Array Keyed){i k:Nat}(h:k<=i):rv a i=((a.toList.take i).drop k).reverse++rv a k:=by
 show(a.toList.take i).reverse=_++(a.toList.take k).reverse
 rw[<-List.reverse_append]
 congr 1
 conv=>lhs;rw[<-List.take_append_drop k (a.toList.take i)]
 rw[List.take_take,Nat.min_eq_left h]
theorem rD{a:Array Keyed}{i k:Nat}:(a.extract k i).reverse.toList=((a.toList.take i).drop k).reverse:=by
 simp[List.drop_take]
theorem Bs{K:Keyed->Int}{l:List Keyed}(h:l.Pairwise λx y=>K x<=K y):l.reverse.Pairwise λx y=> -(K x)<= -(K y):=
 List.pairwise_reverse.mpr (h.imp λq=>Int.neg_le_neg q)
theorem JI{K:Keyed->Int}{l:List Keyed}(h:l.Pairwise λx y=> -(K x)<= -(K y)):l.reverse.Pairwise λx y=>K x<=K y:=
 List.pairwise_reverse.mpr (h.imp λq=>by omega)
theorem Good.rev{K:Keyed->Int}{tot l:List Keyed}(h:Good (λx=> -(K x)) tot l):Good K tot l.reverse:=⟨(List.reverse_perm _).trans h.1,JI h.2⟩
theorem SI{K:Keyed->Int}{a:Array Keyed}{i:Nat}(h:a.toList.Pairwise λx y=>K x<=K y):(rv a i).Pairwise λx y=> -(K x)<= -(K y):=Bs (List.Pairwise.sublist (List.take_sublist _ _) h)
theorem MH.fin{a b o:Array Keyed}{i j:Nat}(h:MH K a b o i j)(hj:i=0∨j=0):Good K (a.toList++b.toList) (a.extract 0 i++b.extract 0 j++o.reverse).toList:=by
 have e:(a.extract 0 i++b.extract 0 j++o.reverse).toList=(o.toList++(rv b j++rv a i)).reverse:=by
  simp[rv,List.reverse_append,List.append_assoc]
 rw[e]
 refine(MG.fin h List.perm_append_comm ?_).rev
 rcases hj with rfl|rfl
 ·rw[show rv a 0=[]from rfl,List.append_nil]
  exact h.sb
 ·rw[show rv b 0=[]from rfl,List.nil_append]
  exact h.sa
theorem MH.Dn{a b o:Array Keyed}{i j:Nat}(h:MH K a b o i j)(hj:j=1)(hl:∀y∈b.toList.take 1,∀x∈a.toList,K y<=K x):Good K (a.toList++b.toList) (b.extract 0 j++a.extract 0 i++o.reverse).toList:=by
 have e:(b.extract 0 j++a.extract 0 i++o.reverse).toList=(o.toList++(rv a i++rv b j)).reverse:=by
  simp[rv,List.reverse_append,List.append_assoc]
 rw[e]
 refine(MG.fin h (.refl _) (List.pairwise_append.mpr ⟨h.sa,h.sb,λx hx y hy=> ?_⟩)).rev
 subst hj
 have:=hl y (List.mem_reverse.mp hy) x (List.mem_of_mem_take (List.mem_reverse.mp hx))
 show-(K x)<= -(K y)
 omega
theorem SJ(hL:qI prog w A E s κ K D){a b:Array Keyed}{Q:Array Keyed->SortSt->Prop}(hk:kindOf st=κ)(ha:0<a.size)(hb:0<b.size)(Da:∀x∈a.toList,D x)(Db:∀x∈b.toList,D x)
  (sa:a.toList.Pairwise λx y=>K x<=K y)(sb:b.toList.Pairwise λx y=>K x<=K y)(h1:∀y∈b.toList.take 1,∀x∈a.toList,K y<=K x)(h2:∀y∈b.toList,∀x∈a.toList.drop (a.size-1),K y<=K x)
  (hq:∀r st',Sg st st'->Good K (a.toList++b.toList) r.toList->Q r st'):wpS (model prog w) A E s (VC a b) Q st:=by
 rw[PL]
 refine wpS_bind (wpS_lift (wpAny_rule ⟨rfl,?_⟩))
 dsimp only
 obtain⟨a0,e0,m0,d0⟩:=qJ (a:=a) (i:=a.size) ha (Nat.le_refl _)
 refine wpS_bind (bf e0 ?_)
 have M0:MH K a b #[a0] (a.size-1) b.size:=by
  have ea:a.toList.reverse=a0::rv a (a.size-1):=by
   rw[<-d0]
   show _=(a.toList.take a.size).reverse
   rw[List.take_of_length_le (by simp)]
  have eb:rv b b.size=b.toList.reverse:=by
   show(b.toList.take b.size).reverse=_
   rw[List.take_of_length_le (by simp)]
  have sa':=Bs sa
  rw[ea]at sa'
  refine⟨?_,List.pairwise_singleton _ _,(List.pairwise_cons.mp sa').2,SI sb,λx hx y hy=> ?_,λx hx y hy=> ?_⟩
  ·show([a0]++(rv a (a.size-1)++rv b b.size)).Perm _
   rw[List.singleton_append,<-List.cons_append,<-ea,eb]
   exact List.Perm.append (List.reverse_perm _) (List.reverse_perm _)
  ·rw[List.mem_singleton.mp hx]
   exact(List.pairwise_cons.mp sa').1 y hy
  ·rw[List.mem_singleton.mp hx]
   have:K y<=K a0:=by
    refine h2 y (by rw[eb]at hy;exact List.mem_reverse.mp hy) a0 ?_
    obtain⟨x,e1,e2,e3⟩:=je (a:=a) (i:=a.size-1) (by omega)
    rw[e0]at e1
    rw[e3,<-Option.some.inj e1]
    exact List.mem_cons_self
   show-(K a0)<= -(K y)
   omega
 by_cases c1:(a.size-1==0)=true
 ·rw[if_pos c1]
  exact wpS_pure (hq _ _ (Sg.refl _) (M0.fin (.inl (by simpa using c1))))
 rw[if_neg c1]
 by_cases c2:(b.size==1)=true
 ·rw[if_pos c2]
  exact wpS_pure (hq _ _ (Sg.refl _) (M0.Dn (by simpa using c2) h1))
 rw[if_neg c2]
 have n1:a.size-1≠0:=λe=>c1 (by rw[e];rfl)
 have n2:b.size≠1:=λe=>c2 (by rw[e];rfl)
 refine wpS_bind (wpS_get ?_)
 refine wpS_bind (wpS_mono (wpS_forRange (I:=λx c st'=>Sg st st'/\ ∃i j o g,c=(none,i,j,o,g)/\(MH K a b o i j/\0<i/\i<=a.size/\1<j/\j<=b.size)/\x+i+j<=a.size+b.size)
  (Q:=λc st'=>Sg st st'/\ ∃r z,c=(some r,z)/\Good K (a.toList++b.toList) r.toList) ?_ ?_ ⟨Sg.refl _,_,_,_,_,rfl,⟨M0,by omega,by omega,by omega,by omega⟩,by omega⟩) ?_)
 ·rintro x c s1 _ hx ⟨S1,i,j,o,g,rfl,I1,p1⟩
  dsimp only
  refine wpS_bind (wpS_mono (wpS_forRange (I:=λy c st'=>Sg st st'/\ ∃i j o ca cb,c=(none,i,j,o,ca,cb)/\(MH K a b o i j/\0<i/\i<=a.size/\1<j/\j<=b.size)/\y+x+i+j<=a.size+b.size)
   (Q:=λc st'=>Sg st st'/\((∃r z,c=(some r,z)/\Good K (a.toList++b.toList) r.toList)∨ ∃i j o ca cb,c=(none,i,j,o,ca,cb)/\(MH K a b o i j/\0<i/\i<=a.size/\1<j/\j<=b.size)/\x+1+i+j<=a.size+b.size)) ?_ ?_ ⟨S1,i,j,o,_,_,rfl,I1,by omega⟩) ?_)
  ·rintro y c s2 _ hy ⟨S2,i,j,o,ca,cb,rfl,⟨I2,l1,l2,l3,l4⟩,p2⟩
   dsimp only
   obtain⟨xb,eb,mb,db⟩:=qJ (a:=b) (i:=j) (by omega) l4
   obtain⟨xa,ea,ma,da⟩:=qJ (a:=a) (i:=i) l1 l2
   have sa':=I2.sa
   have sb':=I2.sb
   rw[da]at sa'
   rw[db]at sb'
   refine wpS_bind (bf eb (wpS_bind (bf ea (wpS_bind (hL s2 xb xa _ (S2.1.trans hk) (Db _ mb) (Da _ ma) ?_)))))
   dsimp only
   by_cases lt:K xb<K xa
   ·rw[decide_eq_true lt,if_pos rfl]
    have I3:MH K a b (o.push xa) (i-1) j:=by
     show MG _ _ (o.push xa).toList _ _
     rw[Array.toList_push]
     refine MG.iz (by rw[<-da];exact I2) λz hz=> ?_
     rw[db]at hz
     exact Int.le_trans (by show-(K xa)<= -(K xb);omega) (fC sb' z hz)
    refine wpS_bind (bf ea ?_)
    by_cases c3:(i-1==0)=true
    ·rw[if_pos c3]
     exact wpS_pure ⟨S2,.inl ⟨_,_,rfl,I3.fin (.inl (by simpa using c3))⟩⟩
    rw[if_neg c3]
    have n3:i-1≠0:=λe=>c3 (by rw[e];rfl)
    split
    ·exact wpS_pure ⟨S2,.inr ⟨_,_,_,_,_,rfl,⟨I3,by omega,by omega,by omega,by omega⟩,by omega⟩⟩
    ·exact wpS_pure ⟨S2,_,_,_,_,_,rfl,⟨I3,by omega,by omega,by omega,by omega⟩,by omega⟩
   ·rw[decide_eq_false lt,if_neg (by simp)]
    have I3:MH K a b (o.push xb) i (j-1):=by
     show MG _ _ (o.push xb).toList _ _
     rw[Array.toList_push]
     refine MG.pF (by rw[<-db];exact I2) λz hz=> ?_
     rw[da]at hz
     exact Int.le_trans (by show-(K xb)<= -(K xa);omega) (fC sa' z hz)
    refine wpS_bind (bf eb ?_)
    by_cases c3:(j-1==1)=true
    ·rw[if_pos c3]
     exact wpS_pure ⟨S2,.inl ⟨_,_,rfl,I3.Dn (by simpa using c3) h1⟩⟩
    rw[if_neg c3]
    have n3:j-1≠1:=λe=>c3 (by rw[e];rfl)
    split
    ·exact wpS_pure ⟨S2,.inr ⟨_,_,_,_,_,rfl,⟨I3,by omega,by omega,by omega,by omega⟩,by omega⟩⟩
    ·exact wpS_pure ⟨S2,_,_,_,_,_,rfl,⟨I3,by omega,by omega,by omega,by omega⟩,by omega⟩
  ·rintro c s2 ⟨S2,i,j,o,ca,cb,rfl,⟨I2,l1,l2,l3,l4⟩,p2⟩
   omega
  ·rintro c s2 ⟨S2,⟨r,z,rfl,hr⟩|⟨i,j,o,ca,cb,rfl,I2,p2⟩⟩
   ·exact wpS_pure ⟨S2,r,_,rfl,hr⟩
   dsimp only
   refine wpS_bind (wpS_lift (wpAny_rule ⟨rfl,?_⟩))
   refine wpS_bind (wpS_mono (wpS_forRange (I:=λy c st'=>Sg st st'/\ ∃i j o g ca cb,c=(none,i,j,o,g,ca,cb)/\(MH K a b o i j/\0<i/\i<=a.size/\1<j/\j<=b.size)/\y+x+1+i+j<=a.size+b.size)
    (Q:=λc st'=>Sg st st'/\((∃r z,c=(some r,z)/\Good K (a.toList++b.toList) r.toList)∨ ∃i j o g ca cb,c=(none,i,j,o,g,ca,cb)/\(MH K a b o i j/\0<i/\i<=a.size/\1<j/\j<=b.size)/\x+1+i+j<=a.size+b.size)) ?_ ?_ ⟨S2,_,_,_,_,_,_,rfl,I2,by omega⟩) ?_)
   ·rintro y c s3 _ hy ⟨S3,i,j,o,g,ca,cb,rfl,⟨I2,l1,l2,l3,l4⟩,p2⟩
    dsimp only
    by_cases hg:g>1
    ·rw[if_pos hg]
     rw[rC]
     refine wpS_bind (wpS_modify ?_)
     obtain⟨xb,eb,mb,db⟩:=qJ (a:=b) (i:=j) (by omega) l4
     have sb':=I2.sb
     rw[db]at sb'
     refine wpS_bind (bf eb (wpS_bind (kT hL ((S3.set _).1.trans hk) (a.toList.take i) (λz hz=>by rw[Nat.zero_add,List.getElem?_take_of_lt hz];simp) (by simp;omega) (λx hx=>Da x (List.mem_of_mem_take hx)) (Db _ mb) (List.Pairwise.sublist (List.take_sublist _ _) sa) (by omega) λk hk1 t1 t2=> ?_)))
     simp only[Bool.false_eq_true,if_false]at t1 t2
     rw[List.take_take,Nat.min_eq_left hk1]at t1
     dsimp only
     have J:MH K a b (o++(a.extract k i).reverse) k j:=by
      show MG _ _ (o++(a.extract k i).reverse).toList _ _
      rw[Array.toList_append,rD]
      refine MG.yv (by rw[<-lY a hk1];exact I2) λx hx y hy=> ?_
      rw[db]at hy
      have:=t2 x (List.mem_reverse.mp hx)
      exact Int.le_trans (by show-(K x)<= -(K xb);omega) (fC sb' y hy)
     have tJ:=t1
     by_cases hk0:i-k>0
     ·rw[if_pos hk0]
      by_cases c4:(k==0)=true
      ·rw[if_pos c4]
       exact wpS_pure ⟨S3.set _,.inl ⟨_,_,rfl,J.fin (.inl (by simpa using c4))⟩⟩
      rw[if_neg c4]
      have n4:k≠0:=λe=>c4 (by rw[e];rfl)
      obtain⟨xa,ea,ma,da⟩:=qJ (a:=a) (i:=k) (by omega) (by omega)
      have sa':=J.sa
      rw[da]at sa'
      have I4:MH K a b ((o++(a.extract k i).reverse).push xb) (k) (j-1):=by
       show MG _ _ ((o++(a.extract k i).reverse).push xb).toList _ _
       rw[Array.toList_push]
       refine MG.pF (by rw[<-db];exact J) λz hz=> ?_
       have:=tJ z (List.mem_reverse.mp hz)
       show-(K xb)<= -(K z)
       omega
      refine wpS_bind (bf eb ?_)
      by_cases c5:(j-1==1)=true
      ·rw[if_pos c5]
       exact wpS_pure ⟨S3.set _,.inl ⟨_,_,rfl,I4.Dn (by simpa using c5) h1⟩⟩
      rw[if_neg c5]
      have n5:j-1≠1:=λe=>c5 (by rw[e];rfl)
      refine wpS_bind (bf ea (wpS_bind (kT hL ((S3.set _).1.trans hk) (b.toList.take (j-1)) (λz hz=>by rw[Nat.zero_add,List.getElem?_take_of_lt hz];simp) (by simp;omega) (λx hx=>Db x (List.mem_of_mem_take hx)) (Da _ ma) (List.Pairwise.sublist (List.take_sublist _ _) sb) (by omega) λk2 hk2 u1 u2=> ?_)))
      simp only[if_true]at u1 u2
      rw[List.take_take,Nat.min_eq_left hk2]at u1
      dsimp only
      have I5:MH K a b ((o++(a.extract k i).reverse).push xb++(b.extract k2 (j-1)).reverse) (k) k2:=by
       show MG _ _ ((o++(a.extract k i).reverse).push xb++(b.extract k2 (j-1)).reverse).toList _ _
       rw[Array.toList_append,rD]
       refine MG.tR (by rw[<-lY b hk2];exact I4) λx hx y hy=> ?_
       rw[da]at hy
       have:=u2 x (List.mem_reverse.mp hx)
       exact Int.le_trans (by show-(K x)<= -(K xa);omega) (fC sa' y hy)
      have cR:∀y∈rv b k2,-(K xa)<= -(K y):=λy hy=>by
       have:=u1 y (List.mem_reverse.mp hy)
       omega
      by_cases vG:j-1-k2>0
      ·rw[if_pos vG]
       by_cases c6:(k2==1)=true
       ·rw[if_pos c6]
        exact wpS_pure ⟨S3.set _,.inl ⟨_,_,rfl,I5.Dn (by simpa using c6) h1⟩⟩
       rw[if_neg c6]
       have n6:k2≠1:=λe=>c6 (by rw[e];rfl)
       by_cases c8:(k2==0)=true
       ·rw[if_pos c8]
        exact wpS_pure ⟨S3.set _,.inl ⟨_,_,rfl,I5.fin (.inr (by simpa using c8))⟩⟩
       rw[if_neg c8]
       have n8:k2≠0:=λe=>c8 (by rw[e];rfl)
       have I6:MH K a b (((o++(a.extract k i).reverse).push xb++(b.extract k2 (j-1)).reverse).push xa) (k-1) k2:=by
        show MG _ _ (((o++(a.extract k i).reverse).push xb++(b.extract k2 (j-1)).reverse).push xa).toList _ _
        rw[Array.toList_push]
        exact MG.iz (by rw[<-da];exact I5) cR
       refine wpS_bind (bf ea ?_)
       by_cases c7:(k-1==0)=true
       ·rw[if_pos c7]
        exact wpS_pure ⟨S3.set _,.inl ⟨_,_,rfl,I6.fin (.inl (by simpa using c7))⟩⟩
       rw[if_neg c7]
       have n7:k-1≠0:=λe=>c7 (by rw[e];rfl)
       split
       ·exact wpS_pure ⟨S3.set _,.inr ⟨_,_,_,_,_,_,rfl,⟨I6,by omega,by omega,by omega,by(clear c7 c8 c6 cR u2 u1 hk2 n5 c5 da ea n4 c4 hk0 tJ t2 t1 hk1 db eb hg l3 l2 l1 p2 hy p1 I1 hx n2 n1 c2 c1 d0 e0 hq h2 h1 Db Da hb ha hk;omega)⟩,by(clear c7 c8 c6 cR u2 u1 hk2 n5 c5 da ea n4 c4 hk0 tJ t2 t1 db eb hg l4 l3 l2 l1 hy p1 I1 hx n2 n1 c2 c1 d0 e0 hq h2 h1 Db Da hb ha hk;omega)⟩⟩
       ·exact wpS_pure ⟨S3.set _,_,_,_,_,_,_,rfl,⟨I6,by omega,by omega,by omega,by(clear c7 c8 c6 cR u2 u1 hk2 n5 c5 da ea n4 c4 hk0 tJ t2 t1 hk1 db eb hg l3 l2 l1 p2 hy p1 I1 hx n2 n1 c2 c1 d0 e0 hq h2 h1 Db Da hb ha hk;omega)⟩,by(clear c7 c8 c6 cR u2 u1 hk2 n5 c5 da ea n4 c4 hk0 tJ t2 t1 db eb hg l4 l3 l2 l1 hy p1 I1 hx n2 n1 c2 c1 d0 e0 hq h2 h1 Db Da hb ha hk;omega)⟩
      ·rw[if_neg vG]
       have z2:k2=j-1:=by omega
       subst z2
       have I6:MH K a b (((o++(a.extract k i).reverse).push xb).push xa) (k-1) (j-1):=by
        show MG _ _ (((o++(a.extract k i).reverse).push xb).push xa).toList _ _
        rw[Array.toList_push]
        exact MG.iz (by rw[<-da];exact I4) cR
       refine wpS_bind (bf ea ?_)
       by_cases c7:(k-1==0)=true
       ·rw[if_pos c7]
        exact wpS_pure ⟨S3.set _,.inl ⟨_,_,rfl,I6.fin (.inl (by simpa using c7))⟩⟩
       rw[if_neg c7]
       have n7:k-1≠0:=λe=>c7 (by rw[e];rfl)
       split
       ·exact wpS_pure ⟨S3.set _,.inr ⟨_,_,_,_,_,_,rfl,⟨I6,by omega,by omega,by(clear c7 cR u2 u1 hk2 c5 da ea n4 c4 hk0 tJ t2 t1 hk1 db eb hg l4 l2 l1 p2 hy p1 I1 hx n2 n1 c2 c1 d0 e0 hq h2 h1 Db Da hb ha hk;omega),by(clear c7 cR u2 u1 hk2 n5 c5 da ea n4 c4 hk0 tJ t2 t1 hk1 db eb hg l2 l1 p2 hy p1 I1 hx n2 n1 c2 c1 d0 e0 hq h2 h1 Db Da hb ha hk;omega)⟩,by(clear c7 cR u2 u1 hk2 n5 c5 da ea n4 c4 hk0 tJ t2 t1 db eb hg l4 l2 l1 hy p1 I1 hx n2 n1 c2 c1 d0 e0 hq h2 h1 Db Da hb ha hk;omega)⟩⟩
       ·exact wpS_pure ⟨S3.set _,_,_,_,_,_,_,rfl,⟨I6,by omega,by omega,by(clear c7 cR u2 u1 hk2 c5 da ea n4 c4 hk0 tJ t2 t1 hk1 db eb hg l4 l2 l1 p2 hy p1 I1 hx n2 n1 c2 c1 d0 e0 hq h2 h1 Db Da hb ha hk;omega),by(clear c7 cR u2 u1 hk2 n5 c5 da ea n4 c4 hk0 tJ t2 t1 hk1 db eb hg l2 l1 p2 hy p1 I1 hx n2 n1 c2 c1 d0 e0 hq h2 h1 Db Da hb ha hk;omega)⟩,by(clear c7 cR u2 u1 hk2 n5 c5 da ea n4 c4 hk0 tJ t2 t1 db eb hg l4 l2 l1 hy p1 I1 hx n2 n1 c2 c1 d0 e0 hq h2 h1 Db Da hb ha hk;omega)⟩
     ·rw[if_neg hk0]
      have z0:k=i:=by omega
      subst z0
      replace J:=I2
      obtain⟨xa,ea,ma,da⟩:=qJ (a:=a) (i:=k) (by omega) (by omega)
      have sa':=J.sa
      rw[da]at sa'
      have I4:MH K a b (o.push xb) (k) (j-1):=by
       show MG _ _ (o.push xb).toList _ _
       rw[Array.toList_push]
       refine MG.pF (by rw[<-db];exact J) λz hz=> ?_
       have:=tJ z (List.mem_reverse.mp hz)
       show-(K xb)<= -(K z)
       omega
      refine wpS_bind (bf eb ?_)
      by_cases c5:(j-1==1)=true
      ·rw[if_pos c5]
       exact wpS_pure ⟨S3.set _,.inl ⟨_,_,rfl,I4.Dn (by simpa using c5) h1⟩⟩
      rw[if_neg c5]
      have n5:j-1≠1:=λe=>c5 (by rw[e];rfl)
      refine wpS_bind (bf ea (wpS_bind (kT hL ((S3.set _).1.trans hk) (b.toList.take (j-1)) (λz hz=>by rw[Nat.zero_add,List.getElem?_take_of_lt hz];simp) (by simp;omega) (λx hx=>Db x (List.mem_of_mem_take hx)) (Da _ ma) (List.Pairwise.sublist (List.take_sublist _ _) sb) (by omega) λk2 hk2 u1 u2=> ?_)))
      simp only[if_true]at u1 u2
      rw[List.take_take,Nat.min_eq_left hk2]at u1
      dsimp only
      have I5:MH K a b (o.push xb++(b.extract k2 (j-1)).reverse) (k) k2:=by
       show MG _ _ (o.push xb++(b.extract k2 (j-1)).reverse).toList _ _
       rw[Array.toList_append,rD]
       refine MG.tR (by rw[<-lY b hk2];exact I4) λx hx y hy=> ?_
       rw[da]at hy
       have:=u2 x (List.mem_reverse.mp hx)
       exact Int.le_trans (by show-(K x)<= -(K xa);omega) (fC sa' y hy)
      have cR:∀y∈rv b k2,-(K xa)<= -(K y):=λy hy=>by
       have:=u1 y (List.mem_reverse.mp hy)
       omega
      by_cases vG:j-1-k2>0
      ·rw[if_pos vG]
       by_cases c6:(k2==1)=true
       ·rw[if_pos c6]
        exact wpS_pure ⟨S3.set _,.inl ⟨_,_,rfl,I5.Dn (by simpa using c6) h1⟩⟩
       rw[if_neg c6]
       have n6:k2≠1:=λe=>c6 (by rw[e];rfl)
       by_cases c8:(k2==0)=true
       ·rw[if_pos c8]
        exact wpS_pure ⟨S3.set _,.inl ⟨_,_,rfl,I5.fin (.inr (by simpa using c8))⟩⟩
       rw[if_neg c8]
       have n8:k2≠0:=λe=>c8 (by rw[e];rfl)
       have I6:MH K a b ((o.push xb++(b.extract k2 (j-1)).reverse).push xa) (k-1) k2:=by
        show MG _ _ ((o.push xb++(b.extract k2 (j-1)).reverse).push xa).toList _ _
        rw[Array.toList_push]
        exact MG.iz (by rw[<-da];exact I5) cR
       refine wpS_bind (bf ea ?_)
       by_cases c7:(k-1==0)=true
       ·rw[if_pos c7]
        exact wpS_pure ⟨S3.set _,.inl ⟨_,_,rfl,I6.fin (.inl (by simpa using c7))⟩⟩
       rw[if_neg c7]
       have n7:k-1≠0:=λe=>c7 (by rw[e];rfl)
       split
       ·exact wpS_pure ⟨S3.set _,.inr ⟨_,_,_,_,_,_,rfl,⟨I6,by omega,by omega,by omega,by omega⟩,by omega⟩⟩
       ·exact wpS_pure ⟨S3.set _,_,_,_,_,_,_,rfl,⟨I6,by omega,by omega,by omega,by omega⟩,by omega⟩
      ·rw[if_neg vG]
       have z2:k2=j-1:=by omega
       subst z2
       have I6:MH K a b ((o.push xb).push xa) (k-1) (j-1):=by
        show MG _ _ ((o.push xb).push xa).toList _ _
        rw[Array.toList_push]
        exact MG.iz (by rw[<-da];exact I4) cR
       refine wpS_bind (bf ea ?_)
       by_cases c7:(k-1==0)=true
       ·rw[if_pos c7]
        exact wpS_pure ⟨S3.set _,.inl ⟨_,_,rfl,I6.fin (.inl (by simpa using c7))⟩⟩
       rw[if_neg c7]
       have n7:k-1≠0:=λe=>c7 (by rw[e];rfl)
       split
       ·exact wpS_pure ⟨S3.set _,.inr ⟨_,_,_,_,_,_,rfl,⟨I6,by omega,by omega,by(clear c7 cR u2 u1 hk2 c5 da ea hk0 t2 hk1 l2 p2 tJ t1 db eb hg l4 hy p1 I1 hx n2 n1 c2 c1 d0 e0 hq h2 h1 Db Da hb ha hk;omega),by(clear c7 cR u2 u1 hk2 n5 c5 da ea hk0 t2 hk1 l2 p2 tJ t1 db eb hg hy p1 I1 hx n2 n1 c2 c1 d0 e0 hq h2 h1 Db Da hb ha hk;omega)⟩,by(clear c7 cR u2 u1 hk2 n5 c5 da ea hk0 t2 hk1 l2 tJ t1 db eb hg l4 hy p1 I1 hx n2 n1 c2 c1 d0 e0 hq h2 h1 Db Da hb ha hk;omega)⟩⟩
       ·exact wpS_pure ⟨S3.set _,_,_,_,_,_,_,rfl,⟨I6,by omega,by omega,by(clear c7 cR u2 u1 hk2 c5 da ea hk0 t2 hk1 l2 p2 tJ t1 db eb hg l4 hy p1 I1 hx n2 n1 c2 c1 d0 e0 hq h2 h1 Db Da hb ha hk;omega),by(clear c7 cR u2 u1 hk2 n5 c5 da ea hk0 t2 hk1 l2 p2 tJ t1 db eb hg hy p1 I1 hx n2 n1 c2 c1 d0 e0 hq h2 h1 Db Da hb ha hk;omega)⟩,by(clear c7 cR u2 u1 hk2 n5 c5 da ea hk0 t2 hk1 l2 tJ t1 db eb hg l4 hy p1 I1 hx n2 n1 c2 c1 d0 e0 hq h2 h1 Db Da hb ha hk;omega)⟩
    ·rw[if_neg hg]
     rw[rC]
     refine wpS_bind (wpS_modify ?_)
     obtain⟨xb,eb,mb,db⟩:=qJ (a:=b) (i:=j) (by omega) l4
     have sb':=I2.sb
     rw[db]at sb'
     refine wpS_bind (bf eb (wpS_bind (kT hL ((S3.set _).1.trans hk) (a.toList.take i) (λz hz=>by rw[Nat.zero_add,List.getElem?_take_of_lt hz];simp) (by simp;omega) (λx hx=>Da x (List.mem_of_mem_take hx)) (Db _ mb) (List.Pairwise.sublist (List.take_sublist _ _) sa) (by omega) λk hk1 t1 t2=> ?_)))
     simp only[Bool.false_eq_true,if_false]at t1 t2
     rw[List.take_take,Nat.min_eq_left hk1]at t1
     dsimp only
     have J:MH K a b (o++(a.extract k i).reverse) k j:=by
      show MG _ _ (o++(a.extract k i).reverse).toList _ _
      rw[Array.toList_append,rD]
      refine MG.yv (by rw[<-lY a hk1];exact I2) λx hx y hy=> ?_
      rw[db]at hy
      have:=t2 x (List.mem_reverse.mp hx)
      exact Int.le_trans (by show-(K x)<= -(K xb);omega) (fC sb' y hy)
     have tJ:=t1
     by_cases hk0:i-k>0
     ·rw[if_pos hk0]
      by_cases c4:(k==0)=true
      ·rw[if_pos c4]
       exact wpS_pure ⟨S3.set _,.inl ⟨_,_,rfl,J.fin (.inl (by simpa using c4))⟩⟩
      rw[if_neg c4]
      have n4:k≠0:=λe=>c4 (by rw[e];rfl)
      obtain⟨xa,ea,ma,da⟩:=qJ (a:=a) (i:=k) (by omega) (by omega)
      have sa':=J.sa
      rw[da]at sa'
      have I4:MH K a b ((o++(a.extract k i).reverse).push xb) (k) (j-1):=by
       show MG _ _ ((o++(a.extract k i).reverse).push xb).toList _ _
       rw[Array.toList_push]
       refine MG.pF (by rw[<-db];exact J) λz hz=> ?_
       have:=tJ z (List.mem_reverse.mp hz)
       show-(K xb)<= -(K z)
       omega
      refine wpS_bind (bf eb ?_)
      by_cases c5:(j-1==1)=true
      ·rw[if_pos c5]
       exact wpS_pure ⟨S3.set _,.inl ⟨_,_,rfl,I4.Dn (by simpa using c5) h1⟩⟩
      rw[if_neg c5]
      have n5:j-1≠1:=λe=>c5 (by rw[e];rfl)
      refine wpS_bind (bf ea (wpS_bind (kT hL ((S3.set _).1.trans hk) (b.toList.take (j-1)) (λz hz=>by rw[Nat.zero_add,List.getElem?_take_of_lt hz];simp) (by simp;omega) (λx hx=>Db x (List.mem_of_mem_take hx)) (Da _ ma) (List.Pairwise.sublist (List.take_sublist _ _) sb) (by omega) λk2 hk2 u1 u2=> ?_)))
      simp only[if_true]at u1 u2
      rw[List.take_take,Nat.min_eq_left hk2]at u1
      dsimp only
      have I5:MH K a b ((o++(a.extract k i).reverse).push xb++(b.extract k2 (j-1)).reverse) (k) k2:=by
       show MG _ _ ((o++(a.extract k i).reverse).push xb++(b.extract k2 (j-1)).reverse).toList _ _
       rw[Array.toList_append,rD]
       refine MG.tR (by rw[<-lY b hk2];exact I4) λx hx y hy=> ?_
       rw[da]at hy
       have:=u2 x (List.mem_reverse.mp hx)
       exact Int.le_trans (by show-(K x)<= -(K xa);omega) (fC sa' y hy)
      have cR:∀y∈rv b k2,-(K xa)<= -(K y):=λy hy=>by
       have:=u1 y (List.mem_reverse.mp hy)
       omega
      by_cases vG:j-1-k2>0
      ·rw[if_pos vG]
       by_cases c6:(k2==1)=true
       ·rw[if_pos c6]
        exact wpS_pure ⟨S3.set _,.inl ⟨_,_,rfl,I5.Dn (by simpa using c6) h1⟩⟩
       rw[if_neg c6]
       have n6:k2≠1:=λe=>c6 (by rw[e];rfl)
       by_cases c8:(k2==0)=true
       ·rw[if_pos c8]
        exact wpS_pure ⟨S3.set _,.inl ⟨_,_,rfl,I5.fin (.inr (by simpa using c8))⟩⟩
       rw[if_neg c8]
       have n8:k2≠0:=λe=>c8 (by rw[e];rfl)
       have I6:MH K a b (((o++(a.extract k i).reverse).push xb++(b.extract k2 (j-1)).reverse).push xa) (k-1) k2:=by
        show MG _ _ (((o++(a.extract k i).reverse).push xb++(b.extract k2 (j-1)).reverse).push xa).toList _ _
        rw[Array.toList_push]
        exact MG.iz (by rw[<-da];exact I5) cR
       refine wpS_bind (bf ea ?_)
       by_cases c7:(k-1==0)=true
       ·rw[if_pos c7]
        exact wpS_pure ⟨S3.set _,.inl ⟨_,_,rfl,I6.fin (.inl (by simpa using c7))⟩⟩
       rw[if_neg c7]
       have n7:k-1≠0:=λe=>c7 (by rw[e];rfl)
       split
       ·exact wpS_pure ⟨S3.set _,.inr ⟨_,_,_,_,_,_,rfl,⟨I6,by omega,by omega,by omega,by(clear c7 c8 c6 cR u2 u1 hk2 n5 c5 da ea n4 c4 hk0 tJ t2 t1 hk1 db eb hg l3 l2 l1 p2 hy p1 I1 hx n2 n1 c2 c1 d0 e0 hq h2 h1 Db Da hb ha hk;omega)⟩,by(clear c7 c8 c6 cR u2 u1 hk2 n5 c5 da ea n4 c4 hk0 tJ t2 t1 db eb hg l4 l3 l2 l1 hy p1 I1 hx n2 n1 c2 c1 d0 e0 hq h2 h1 Db Da hb ha hk;omega)⟩⟩
       ·exact wpS_pure ⟨S3.set _,_,_,_,_,_,_,rfl,⟨I6,by omega,by omega,by omega,by(clear c7 c8 c6 cR u2 u1 hk2 n5 c5 da ea n4 c4 hk0 tJ t2 t1 hk1 db eb hg l3 l2 l1 p2 hy p1 I1 hx n2 n1 c2 c1 d0 e0 hq h2 h1 Db Da hb ha hk;omega)⟩,by(clear c7 c8 c6 cR u2 u1 hk2 n5 c5 da ea n4 c4 hk0 tJ t2 t1 db eb hg l4 l3 l2 l1 hy p1 I1 hx n2 n1 c2 c1 d0 e0 hq h2 h1 Db Da hb ha hk;omega)⟩
      ·rw[if_neg vG]
       have z2:k2=j-1:=by omega
       subst z2
       have I6:MH K a b (((o++(a.extract k i).reverse).push xb).push xa) (k-1) (j-1):=by
        show MG _ _ (((o++(a.extract k i).reverse).push xb).push xa).toList _ _
        rw[Array.toList_push]
        exact MG.iz (by rw[<-da];exact I4) cR
       refine wpS_bind (bf ea ?_)
       by_cases c7:(k-1==0)=true
       ·rw[if_pos c7]
        exact wpS_pure ⟨S3.set _,.inl ⟨_,_,rfl,I6.fin (.inl (by simpa using c7))⟩⟩
       rw[if_neg c7]
       have n7:k-1≠0:=λe=>c7 (by rw[e];rfl)
       split
       ·exact wpS_pure ⟨S3.set _,.inr ⟨_,_,_,_,_,_,rfl,⟨I6,by omega,by omega,by(clear c7 cR u2 u1 hk2 c5 da ea n4 c4 hk0 tJ t2 t1 hk1 db eb hg l4 l2 l1 p2 hy p1 I1 hx n2 n1 c2 c1 d0 e0 hq h2 h1 Db Da hb ha hk;omega),by(clear c7 cR u2 u1 hk2 n5 c5 da ea n4 c4 hk0 tJ t2 t1 hk1 db eb hg l2 l1 p2 hy p1 I1 hx n2 n1 c2 c1 d0 e0 hq h2 h1 Db Da hb ha hk;omega)⟩,by(clear c7 cR u2 u1 hk2 n5 c5 da ea n4 c4 hk0 tJ t2 t1 db eb hg l4 l2 l1 hy p1 I1 hx n2 n1 c2 c1 d0 e0 hq h2 h1 Db Da hb ha hk;omega)⟩⟩
       ·exact wpS_pure ⟨S3.set _,_,_,_,_,_,_,rfl,⟨I6,by omega,by omega,by(clear c7 cR u2 u1 hk2 c5 da ea n4 c4 hk0 tJ t2 t1 hk1 db eb hg l4 l2 l1 p2 hy p1 I1 hx n2 n1 c2 c1 d0 e0 hq h2 h1 Db Da hb ha hk;omega),by(clear c7 cR u2 u1 hk2 n5 c5 da ea n4 c4 hk0 tJ t2 t1 hk1 db eb hg l2 l1 p2 hy p1 I1 hx n2 n1 c2 c1 d0 e0 hq h2 h1 Db Da hb ha hk;omega)⟩,by(clear c7 cR u2 u1 hk2 n5 c5 da ea n4 c4 hk0 tJ t2 t1 db eb hg l4 l2 l1 hy p1 I1 hx n2 n1 c2 c1 d0 e0 hq h2 h1 Db Da hb ha hk;omega)⟩
     ·rw[if_neg hk0]
      have z0:k=i:=by omega
      subst z0
      replace J:=I2
      obtain⟨xa,ea,ma,da⟩:=qJ (a:=a) (i:=k) (by omega) (by omega)
      have sa':=J.sa
      rw[da]at sa'
      have I4:MH K a b (o.push xb) (k) (j-1):=by
       show MG _ _ (o.push xb).toList _ _
       rw[Array.toList_push]
       refine MG.pF (by rw[<-db];exact J) λz hz=> ?_
       have:=tJ z (List.mem_reverse.mp hz)
       show-(K xb)<= -(K z)
       omega
      refine wpS_bind (bf eb ?_)
      by_cases c5:(j-1==1)=true
      ·rw[if_pos c5]
       exact wpS_pure ⟨S3.set _,.inl ⟨_,_,rfl,I4.Dn (by simpa using c5) h1⟩⟩
      rw[if_neg c5]
      have n5:j-1≠1:=λe=>c5 (by rw[e];rfl)
      refine wpS_bind (bf ea (wpS_bind (kT hL ((S3.set _).1.trans hk) (b.toList.take (j-1)) (λz hz=>by rw[Nat.zero_add,List.getElem?_take_of_lt hz];simp) (by simp;omega) (λx hx=>Db x (List.mem_of_mem_take hx)) (Da _ ma) (List.Pairwise.sublist (List.take_sublist _ _) sb) (by omega) λk2 hk2 u1 u2=> ?_)))
      simp only[if_true]at u1 u2
      rw[List.take_take,Nat.min_eq_left hk2]at u1
      dsimp only
      have I5:MH K a b (o.push xb++(b.extract k2 (j-1)).reverse) (k) k2:=by
       show MG _ _ (o.push xb++(b.extract k2 (j-1)).reverse).toList _ _
       rw[Array.toList_append,rD]
       refine MG.tR (by rw[<-lY b hk2];exact I4) λx hx y hy=> ?_
       rw[da]at hy
       have:=u2 x (List.mem_reverse.mp hx)
       exact Int.le_trans (by show-(K x)<= -(K xa);omega) (fC sa' y hy)
      have cR:∀y∈rv b k2,-(K xa)<= -(K y):=λy hy=>by
       have:=u1 y (List.mem_reverse.mp hy)
       omega
      by_cases vG:j-1-k2>0
      ·rw[if_pos vG]
       by_cases c6:(k2==1)=true
       ·rw[if_pos c6]
        exact wpS_pure ⟨S3.set _,.inl ⟨_,_,rfl,I5.Dn (by simpa using c6) h1⟩⟩
       rw[if_neg c6]
       have n6:k2≠1:=λe=>c6 (by rw[e];rfl)
       by_cases c8:(k2==0)=true
       ·rw[if_pos c8]
        exact wpS_pure ⟨S3.set _,.inl ⟨_,_,rfl,I5.fin (.inr (by simpa using c8))⟩⟩
       rw[if_neg c8]
       have n8:k2≠0:=λe=>c8 (by rw[e];rfl)
       have I6:MH K a b ((o.push xb++(b.extract k2 (j-1)).reverse).push xa) (k-1) k2:=by
        show MG _ _ ((o.push xb++(b.extract k2 (j-1)).reverse).push xa).toList _ _
        rw[Array.toList_push]
        exact MG.iz (by rw[<-da];exact I5) cR
       refine wpS_bind (bf ea ?_)
       by_cases c7:(k-1==0)=true
       ·rw[if_pos c7]
        exact wpS_pure ⟨S3.set _,.inl ⟨_,_,rfl,I6.fin (.inl (by simpa using c7))⟩⟩
       rw[if_neg c7]
       have n7:k-1≠0:=λe=>c7 (by rw[e];rfl)
       split
       ·exact wpS_pure ⟨S3.set _,.inr ⟨_,_,_,_,_,_,rfl,⟨I6,by omega,by omega,by omega,by omega⟩,by omega⟩⟩
       ·exact wpS_pure ⟨S3.set _,_,_,_,_,_,_,rfl,⟨I6,by omega,by omega,by omega,by omega⟩,by omega⟩
      ·rw[if_neg vG]
       have z2:k2=j-1:=by omega
       subst z2
       have I6:MH K a b ((o.push xb).push xa) (k-1) (j-1):=by
        show MG _ _ ((o.push xb).push xa).toList _ _
        rw[Array.toList_push]
        exact MG.iz (by rw[<-da];exact I4) cR
       refine wpS_bind (bf ea ?_)
       by_cases c7:(k-1==0)=true
       ·rw[if_pos c7]
        exact wpS_pure ⟨S3.set _,.inl ⟨_,_,rfl,I6.fin (.inl (by simpa using c7))⟩⟩
       rw[if_neg c7]
       have n7:k-1≠0:=λe=>c7 (by rw[e];rfl)
       split
       ·exact wpS_pure ⟨S3.set _,.inr ⟨_,_,_,_,_,_,rfl,⟨I6,by omega,by omega,by(clear c7 cR u2 u1 hk2 c5 da ea hk0 t2 hk1 l2 p2 tJ t1 db eb hg l4 hy p1 I1 hx n2 n1 c2 c1 d0 e0 hq h2 h1 Db Da hb ha hk;omega),by(clear c7 cR u2 u1 hk2 n5 c5 da ea hk0 t2 hk1 l2 p2 tJ t1 db eb hg hy p1 I1 hx n2 n1 c2 c1 d0 e0 hq h2 h1 Db Da hb ha hk;omega)⟩,by(clear c7 cR u2 u1 hk2 n5 c5 da ea hk0 t2 hk1 l2 tJ t1 db eb hg l4 hy p1 I1 hx n2 n1 c2 c1 d0 e0 hq h2 h1 Db Da hb ha hk;omega)⟩⟩
       ·exact wpS_pure ⟨S3.set _,_,_,_,_,_,_,rfl,⟨I6,by omega,by omega,by(clear c7 cR u2 u1 hk2 c5 da ea hk0 t2 hk1 l2 p2 tJ t1 db eb hg l4 hy p1 I1 hx n2 n1 c2 c1 d0 e0 hq h2 h1 Db Da hb ha hk;omega),by(clear c7 cR u2 u1 hk2 n5 c5 da ea hk0 t2 hk1 l2 p2 tJ t1 db eb hg hy p1 I1 hx n2 n1 c2 c1 d0 e0 hq h2 h1 Db Da hb ha hk;omega)⟩,by(clear c7 cR u2 u1 hk2 n5 c5 da ea hk0 t2 hk1 l2 tJ t1 db eb hg l4 hy p1 I1 hx n2 n1 c2 c1 d0 e0 hq h2 h1 Db Da hb ha hk;omega)⟩
   ·rintro c s3 ⟨S3,i,j,o,g,ca,cb,rfl,⟨I2,l1,l2,l3,l4⟩,p2⟩
    omega
   ·rintro c s3 ⟨S3,⟨r,z,rfl,hr⟩|⟨i,j,o,g,ca,cb,rfl,I2,p2⟩⟩
    ·exact wpS_pure ⟨S3,r,_,rfl,hr⟩
    dsimp only
    rw[rC]
    exact wpS_bind (wpS_modify (wpS_pure ⟨S3.set _,_,_,_,_,rfl,I2,by omega⟩))
 ·rintro c s1 ⟨S1,i,j,o,g,rfl,⟨I1,l1,l2,l3,l4⟩,p1⟩
  omega
 ·rintro c s1 ⟨S1,r,z,rfl,hr⟩
  exact wpS_pure (hq r s1 S1 hr)
end
noncomputable def kA(K:Keyed->Int)(xs:Array Keyed)(i:Nat):Int:=match xs[i]? with
 |some p=>K p
 |none=>0
theorem kh{K:Keyed->Int}{xs ys:Array Keyed}{i j:Nat}(h:xs[i]?=ys[j]?):kA K xs i=kA K ys j:=by unfold kA;rw[h]
noncomputable def So(K:Keyed->Int)(xs:Array Keyed)(lo n:Nat):Prop:=∀i j,i<=j->j<n->kA K xs (lo+i)<=kA K xs (lo+j)
noncomputable def Si(K:Keyed->Int)(xs:Array Keyed)(lo n:Nat):Prop:=∀i j,i<=j->j<n->kA K xs (lo+j)<=kA K xs (lo+i)
theorem rE{K:Keyed->Int}{xs:Array Keyed}{i j:Nat}(hj:j<=xs.size)(k:Nat):
  kA K (mirror xs i j ((j-i)/2)) k=if i<=k/\k<j then kA K xs (i+j-1-k)else kA K xs k:=by
 have e:=getElem?_mirror_all (i:=i) hj k
 by_cases h1:i<=k/\k<j
 ·rw[if_pos h1]at e ⊢;exact kh e
 ·rw[if_neg h1]at e ⊢;exact kh e
theorem zL{K:Keyed->Int}{xs:Array Keyed}{i j:Nat}(hj:j<=xs.size)(heq:∀k,i<=k->k<j->kA K xs k=kA K xs (j-1))(k:Nat):kA K (mirror xs i j ((j-i)/2)) k=kA K xs k:=by
 rw[rE hj]
 split
 ·rw[heq _ (by omega) (by omega),heq k (by omega) (by omega)]
 ·rfl
theorem GH{K:Keyed->Int}{xs:Array Keyed}{src d:Nat}(hs:src<xs.size)(hd:d<=src)(k:Nat):
  kA K (bubble xs src d) k=if k=src-d then kA K xs src else if src-d<k/\k<=src then kA K xs (k-1)else kA K xs k:=by
 have e:=getElem?_bubble hs d hd k
 by_cases h1:k=src-d
 ·rw[if_pos h1]at e ⊢;exact kh e
 ·rw[if_neg h1]at e ⊢
  by_cases h2:src-d<k/\k<=src
  ·rw[if_pos h2]at e ⊢;exact kh e
  ·rw[if_neg h2]at e ⊢;exact kh e
structure SC(lo:Nat)(s0 st:SortSt):Prop where
 perm:(arrOf st).Perm (arrOf s0)
 kind:kindOf st=kindOf s0
 failed:failedOf st=failedOf s0
 pend:pendingOf st=pendingOf s0
 low:∀i,i<lo->(arrOf st)[i]?=(arrOf s0)[i]?
theorem SC.refl(lo:Nat)(st:SortSt):SC lo st st:=⟨Array.Perm.refl _,rfl,rfl,rfl,λ_ _=>rfl⟩
theorem SC.trans{lo:Nat}{a b c:SortSt}(x:SC lo a b)(y:SC lo b c):SC lo a c:=⟨y.perm.trans x.perm,y.kind.trans x.kind,y.failed.trans x.failed,y.pend.trans x.pend,λi h=>(y.low i h).trans (x.low i h)⟩
theorem SC.size{lo:Nat}{a b:SortSt}(x:SC lo a b):(arrOf b).size=(arrOf a).size:=x.perm.size_eq
theorem SC.mirror{lo:Nat}{s0 st:SortSt}(x:SC lo s0 st){i j:Nat}(hi:lo<=i)(hj:j<=(arrOf st).size):SC lo s0 (setArr st (mirror (arrOf st) i j ((j-i)/2))):=
 x.trans ⟨mirror_perm _ _ _ _,rfl,rfl,rfl,λk hk=>by
  show(PyProof.Rows.mirror (arrOf st) i j ((j-i)/2))[k]?=_
  rw[getElem?_mirror_all hj,if_neg (by omega)]⟩
theorem SC.bubble{lo:Nat}{s0 st:SortSt}(x:SC lo s0 st){src d:Nat}(hs:src<(arrOf st).size)(hd:lo+d<=src):SC lo s0 (setArr st (bubble (arrOf st) src d)):=
 x.trans ⟨bubble_perm _ _ _,rfl,rfl,rfl,λk hk=>by
  show(PyProof.Rows.bubble (arrOf st) src d)[k]?=_
  rw[getElem?_bubble hs d (by(clear hs;omega)),if_neg (by(clear hs;omega)),if_neg (by(clear hs;omega))]⟩
structure SB(κ:SortKind)(D:Keyed->Prop)(st:SortSt):Prop where
 kind:kindOf st=κ
 failed:failedOf st=none
 all:∀x∈(arrOf st).toList,D x
theorem SB.sc{κ:SortKind}{D:Keyed->Prop}{lo:Nat}{s0 st:SortSt}(b:SB κ D s0)(x:SC lo s0 st):SB κ D st:=
 ⟨x.kind.trans b.kind,x.failed.trans b.failed,λy hy=>b.all y ((Array.perm_iff_toList_perm.mp x.perm).mem_iff.mp hy)⟩
section
variable{prog:Program}{w:World}{A:Around}{E:Value->Shared->Prop}{s:Shared}{κ:SortKind}{K:Keyed->Int}{D:Keyed->Prop}{st:SortSt}
theorem rF(hL:qI prog w A E s κ K D){i j:Nat}{Q:Option Bool->SortSt->Prop}(hB:SB κ D st)(hi:i<(arrOf st).size)(hj:j<(arrOf st).size)
  (h:Q (some (decide (kA K (arrOf st) i<kA K (arrOf st) j))) st):wpS (model prog w) A E s (ltAt' i j) Q st:=by
 rw[ltAt'_eq]
 refine wpS_bind (wpS_get ?_)
 show wpS _ _ _ _ (do let x<-elem' (arrOf st) i;let y<-elem' (arrOf st) j;lt' x y) Q st
 have e1:(arrOf st)[i]?=some (arrOf st)[i]:=getElem?_pos _ i hi
 have e2:(arrOf st)[j]?=some (arrOf st)[j]:=getElem?_pos _ j hj
 refine wpS_bind (bf e1 (wpS_bind (bf e2 ?_)))
 refine hL st _ _ _ hB.kind (hB.all _ (by simp)) (hB.all _ (by simp)) ?_
 unfold kA at h
 rw[e1,e2]at h
 exact h
theorem w_rev{M:Model}{i j:Nat}{Q:Unit->SortSt->Prop}(h:Q ⟨⟩ (setArr st (mirror (arrOf st) i j ((j-i)/2)))):wpS M A E s (reverseSlice' i j) Q st:=by
 rw[reverseSlice'_eq]
 exact wpS_modify h
theorem w_count(hL:qI prog w A E s κ K D){lo nrem:Nat}{Q:Option Nat->SortSt->Prop}(hB:SB κ D st)(h1:1<=nrem)(hz:lo+nrem<=(arrOf st).size)
  (hq:∀n st',SC lo st st'->1<=n->n<=nrem->So K (arrOf st') lo n->Q (some n) st'):wpS (model prog w) A E s (countRun' lo nrem) Q st:=by
 rw[countRun'_eq]
 refine wpS_bind (wpS_mono (wpS_forRange (I:=λx c st'=>st'=st/\c=(none,x)/\So K (arrOf st) lo x)
  (Q:=λc st'=>st'=st/\ ∃n,c=(none,n)/\1<=n/\n<=nrem/\So K (arrOf st) lo n/\(n=nrem∨kA K (arrOf st) (lo+n)<kA K (arrOf st) (lo+n-1))) ?_ ?_ ⟨rfl,rfl,λi j hij hj=> ?_⟩) ?_)
 ·rintro x c st' ha hx ⟨rfl,rfl,hs⟩
  dsimp only
  refine wpS_bind (rF hL hB (by omega) (by omega) ?_)
  dsimp only
  by_cases lt:kA K (arrOf st') (lo+x)<kA K (arrOf st') (lo+x-1)
  ·rw[decide_eq_true lt,if_pos rfl]
   exact wpS_pure ⟨rfl,x,rfl,ha,by omega,hs,.inr lt⟩
  ·rw[decide_eq_false lt,if_neg (by simp)]
   refine wpS_pure ⟨rfl,rfl,λi j hij hj=> ?_⟩
   by_cases c:j=x
   ·subst c
    by_cases c2:i=j
    ·subst c2;exact Int.le_refl _
    ·have:=hs i (j-1) (by omega) (by omega)
     rw[show lo+(j-1)=lo+j-1 by(clear this c2 hj lt hx hij hq hz h1;omega)]at this
     omega
   ·exact hs i j hij (by omega)
 ·rintro c st' ⟨rfl,rfl,hs⟩
  rw[Nat.max_eq_right h1]at hs ⊢
  exact⟨rfl,nrem,rfl,h1,Nat.le_refl _,hs,.inl rfl⟩
 ·have:i=j:=by omega
  subst this
  exact Int.le_refl _
 rintro c st' ⟨rfl,n,rfl,n1,n2,hs,hend⟩
 dsimp only
 by_cases c1:(n==nrem)=true
 ·rw[if_pos c1]
  exact wpS_pure (hq n st' (.refl _ _) n1 n2 hs)
 rw[if_neg c1]
 have nn:n<nrem:=by
  have:n≠nrem:=λe=>c1 (by rw[e];simp)
  omega
 have hlt:kA K (arrOf st') (lo+n)<kA K (arrOf st') (lo+n-1):=hend.resolve_left (by omega)
 have part:∀s1:SortSt,SC lo st' s1->(∀k,kA K (arrOf s1) k=kA K (arrOf st') k) ->Si K (arrOf st') lo (n+1) -> ∀F:StateT SortSt Sem (Option Nat),F=(do
   rule "list.sort.descending-run"
   let mut n:=n
   n:=n+1
   let mut q:=0
   for _ in [n:nrem] do
    let some m<-ltAt' (lo+n) (lo+n-1)|return none
    if m then
     if q>0 then reverseSlice' (lo+n- (q+1)) (lo+n)
     q:=0
    else
     let some g<-ltAt' (lo+n-1) (lo+n)|return none
     if g then break
     q:=q+1
    n:=n+1
   if q>0 then reverseSlice' (lo+n- (q+1)) (lo+n)
   reverseSlice' lo (lo+n)
   for _ in [n:nrem] do
    let some m<-ltAt' (lo+n) (lo+n-1)|return none
    if m then break
    n:=n+1
   return some n) ->wpS (model prog w) A E s F Q s1:=by
  intro s1 S1 hk1 hd F hF
  subst hF
  refine wpS_bind (wpS_lift (wpAny_rule ⟨rfl,?_⟩))
  dsimp only
  have rest:∀(s2:SortSt)(m:Nat),SC lo st' s2->n+1<=m->m<=nrem->Si K (arrOf s2) lo m-> ∀F:StateT SortSt Sem (Option Nat),F=(do
    reverseSlice' lo (lo+m)
    let mut n:=m
    for _ in [n:nrem] do
     let some m<-ltAt' (lo+n) (lo+n-1)|return none
     if m then break
     n:=n+1
    return some n) ->wpS (model prog w) A E s F Q s2:=by
   intro s2 m S2 m1 m2 hd2 F hF
   subst hF
   have z2:=S2.size
   refine wpS_bind (w_rev ?_)
   have S3:=S2.mirror (i:=lo) (j:=lo+m) (Nat.le_refl _) (by omega)
   have Xa:So K (arrOf (setArr s2 (mirror (arrOf s2) lo (lo+m) ((lo+m-lo)/2)))) lo m:=by
    intro i j hij hj
    show kA K (mirror (arrOf s2) lo (lo+m) ((lo+m-lo)/2)) (lo+i)<=kA K (mirror (arrOf s2) lo (lo+m) ((lo+m-lo)/2)) (lo+j)
    rw[rE (by omega),rE (by omega),if_pos (by(clear z2 m2 m1 hk1 hlt nn c1 hend n2 n1 hq hz h1;omega)),if_pos (by omega)]
    have:=hd2 (m-1-j) (m-1-i) (by(clear z2 m2 m1 hk1 hlt nn c1 hend n2 n1 hq hz h1;omega)) (by(clear z2 m2 m1 hk1 hlt nn c1 hend n2 n1 hq hz h1;omega))
    rw[show lo+(m-1-i)=lo+(lo+m) -1- (lo+i)by(clear this z2 m2 m1 hk1 hlt nn c1 hend n2 n1 hq hz h1;omega),show lo+(m-1-j)=lo+(lo+m) -1- (lo+j)by(clear this hij z2 m2 m1 hk1 hlt nn c1 hend n2 n1 hq hz h1;omega)]at this
    exact this
   generalize setArr s2 (mirror (arrOf s2) lo (lo+m) ((lo+m-lo)/2))=s3 at S3 Xa ⊢
   have z3:=S3.size
   have YI:=hB.sc S3
   refine wpS_bind (wpS_mono (wpS_forRange (I:=λx c st''=>st''=s3/\c=(none,x)/\So K (arrOf s3) lo x)
    (Q:=λc st''=>st''=s3/\ ∃n,c=(none,n)/\1<=n/\n<=nrem/\So K (arrOf s3) lo n) ?_ ?_ ⟨rfl,rfl,Xa⟩) ?_)
   ·rintro x c st'' ha hx ⟨rfl,rfl,hs⟩
    dsimp only
    refine wpS_bind (rF hL YI (by omega) (by omega) ?_)
    dsimp only
    by_cases lt:kA K (arrOf st'') (lo+x)<kA K (arrOf st'') (lo+x-1)
    ·rw[decide_eq_true lt,if_pos rfl]
     exact wpS_pure ⟨rfl,x,rfl,by omega,by omega,hs⟩
    ·rw[decide_eq_false lt,if_neg (by simp)]
     refine wpS_pure ⟨rfl,rfl,λi j hij hj=> ?_⟩
     by_cases c:j=x
     ·subst c
      by_cases c2:i=j
      ·subst c2;exact Int.le_refl _
      ·have:=hs i (j-1) (by(clear hj lt hx ha z3 z2 m2 m1 hk1 hlt nn c1 hend n2 n1 hq hz h1;omega)) (by omega)
       rw[show lo+(j-1)=lo+j-1 by(clear this c2 hj lt hx hij z3 z2 m2 hk1 hlt nn c1 hend n2 hq hz h1;omega)]at this
       omega
     ·exact hs i j hij (by omega)
   ·rintro c st'' ⟨rfl,rfl,hs⟩
    rw[Nat.max_eq_right m2]at hs ⊢
    exact⟨rfl,nrem,rfl,by omega,Nat.le_refl _,hs⟩
   ·rintro c st'' ⟨rfl,n',rfl,a1,a2,a3⟩
    exact wpS_pure (hq n' st'' S3 a1 a2 a3)
  refine wpS_bind (wpS_mono (wpS_forRange (I:=λx c s2=> ∃q,c=(none,x,q)/\SC lo st' s2/\Si K (arrOf s2) lo x/\q+1<=x/\ ∀i,x- (q+1)<=i->i<x->kA K (arrOf s2) (lo+i)=kA K (arrOf s2) (lo+x-1))
   (Q:=λc s2=> ∃x q,c=(none,x,q)/\n+1<=x/\x<=nrem/\SC lo st' s2/\Si K (arrOf s2) lo x/\q+1<=x/\ ∀i,x- (q+1)<=i->i<x->kA K (arrOf s2) (lo+i)=kA K (arrOf s2) (lo+x-1)) ?_ ?_ ⟨0,rfl,S1,λi j hij hj=> ?_,by omega,λi h1 h2=> ?_⟩) ?_)
  ·rintro x c s2 ha hx ⟨q,rfl,S2,hd2,hq1,heq⟩
   dsimp only
   have z2:=S2.size
   have hB2:=hB.sc S2
   refine wpS_bind (rF hL hB2 (by omega) (by omega) ?_)
   dsimp only
   by_cases lt:kA K (arrOf s2) (lo+x)<kA K (arrOf s2) (lo+x-1)
   ·rw[decide_eq_true lt,if_pos rfl]
    have Xb:∀s3:SortSt,SC lo st' s3->(∀k,kA K (arrOf s3) k=kA K (arrOf s2) k) -> ∃q,((none,x+1,0):Option (Option Nat)×Nat×Nat)=(none,x+1,q)/\SC lo st' s3/\Si K (arrOf s3) lo (x+1)/\q+1<=x+1/\ ∀i,x+1- (q+1)<=i->i<x+1->kA K (arrOf s3) (lo+i)=kA K (arrOf s3) (lo+(x+1) -1):=by
     intro s3 S3 Mf
     refine⟨0,rfl,S3,λi j hij hj=> ?_,by omega,λi h1 h2=> ?_⟩
     ·rw[Mf,Mf]
      by_cases c:j=x
      ·subst c
       by_cases c2:i=j
       ·subst c2;exact Int.le_refl _
       ·have:=hd2 i (j-1) (by omega) (by omega)
        rw[show lo+(j-1)=lo+j-1 by(clear this c2 hj lt heq hx ha hij Mf z2 rest hk1 hlt nn c1 hend n2 n1 hq hz h1;omega)]at this
        omega
      ·exact hd2 i j hij (by omega)
     ·have:i=x:=by omega
      subst this
      rfl
    by_cases SK:q>0
    ·rw[if_pos SK]
     refine wpS_bind (w_rev (wpS_pure (Xb _ (S2.mirror (by omega) (by omega)) λk=> ?_)))
     refine zL (by omega) (λk k1 k2=> ?_) k
     have:=heq (k-lo) (by omega) (by omega)
     rw[show lo+(k-lo)=k by omega]at this
     exact this
    ·rw[if_neg SK]
     exact wpS_pure (Xb s2 S2 λ_=>rfl)
   ·rw[decide_eq_false lt,if_neg (by simp)]
    refine wpS_bind (rF hL hB2 (by omega) (by omega) ?_)
    dsimp only
    by_cases Ms:kA K (arrOf s2) (lo+x-1)<kA K (arrOf s2) (lo+x)
    ·rw[decide_eq_true Ms,if_pos rfl]
     exact wpS_pure ⟨x,q,rfl,ha,by omega,S2,hd2,hq1,heq⟩
    ·rw[decide_eq_false Ms,if_neg (by simp)]
     have e:kA K (arrOf s2) (lo+x)=kA K (arrOf s2) (lo+x-1):=by omega
     refine wpS_pure ⟨q+1,rfl,S2,λi j hij hj=> ?_,by omega,λi h1 h2=> ?_⟩
     ·by_cases c:j=x
      ·subst c
       by_cases c2:i=j
       ·subst c2;exact Int.le_refl _
       ·have:=hd2 i (j-1) (by omega) (by omega)
        rw[show lo+(j-1)=lo+j-1 by(clear this c2 hj e Ms lt heq hx ha hij z2 rest hk1 hlt nn c1 hend n2 n1 hq hz h1;omega)]at this
        omega
      ·exact hd2 i j hij (by omega)
     ·rw[show lo+(x+1) -1=lo+x by omega,e]
      by_cases c:i=x
      ·subst c;exact e
      ·exact heq i (by omega) (by omega)
  ·rintro c s2 ⟨q,rfl,S2,hd2,hq1,heq⟩
   rw[Nat.max_eq_right (show n+1<=nrem by omega)]at hd2 hq1 heq ⊢
   exact⟨nrem,q,rfl,by omega,Nat.le_refl _,S2,hd2,hq1,heq⟩
  ·rw[hk1,hk1]
   exact hd i j hij hj
  ·have:i=n:=by omega
   subst this
   rfl
  ·rintro c s2 ⟨x,q,rfl,x1,x2,S2,hd2,hq1,heq⟩
   dsimp only
   have z2:=S2.size
   by_cases SK:q>0
   ·rw[if_pos SK]
    refine wpS_bind (w_rev ?_)
    have hk:∀k,kA K (arrOf (setArr s2 (mirror (arrOf s2) (lo+x- (q+1)) (lo+x) ((lo+x- (lo+x- (q+1)))/2)))) k=kA K (arrOf s2) k:=λk=>by
     refine zL (by omega) (λk k1 k2=> ?_) k
     have:=heq (k-lo) (by omega) (by omega)
     rw[show lo+(k-lo)=k by omega]at this
     exact this
    exact rest _ x (S2.mirror (by omega) (by omega)) x1 x2 (λi j hij hj=>by rw[hk,hk];exact hd2 i j hij hj) _ rfl
   ·rw[if_neg SK]
    exact rest s2 x S2 x1 x2 hd2 _ rfl
 by_cases gt:n>1
 ·rw[if_pos gt]
  refine wpS_bind (rF hL hB (by omega) (by omega) ?_)
  dsimp only
  by_cases PM:kA K (arrOf st') lo<kA K (arrOf st') (lo+n-1)
  ·rw[decide_eq_true PM,if_pos rfl]
   exact wpS_pure (hq n st' (.refl _ _) n1 n2 hs)
  ·rw[decide_eq_false PM,if_neg (by simp)]
   have hall:∀k,lo<=k->k<lo+n->kA K (arrOf st') k=kA K (arrOf st') (lo+n-1):=λk k1 k2=>by
    have a1:=hs 0 (k-lo) (by omega) (by omega)
    have a2:=hs (k-lo) (n-1) (by omega) (by omega)
    rw[show lo+(k-lo)=k by omega]at a1 a2
    rw[show lo+(n-1)=lo+n-1 by(clear a2 a1 k1 PM part hlt nn c1 hend n2 n1 hq hz h1;omega)]at a2
    rw[Nat.add_zero]at a1
    omega
   refine wpS_bind (w_rev (part _ ((SC.refl lo st').mirror (Nat.le_refl _) (by omega)) (λk=>zL (by omega) hall k) (λi j hij hj=> ?_) _ rfl))
   by_cases c:j=n
   ·subst c
    by_cases c2:i=j
    ·subst c2;exact Int.le_refl _
    ·rw[hall (lo+i) (by omega) (by omega)]
     omega
   ·rw[hall (lo+i) (by omega) (by omega),hall (lo+j) (by omega) (by omega)]
    exact Int.le_refl _
 ·rw[if_neg gt]
  have e1:n=1:=by omega
  subst e1
  refine part st' (.refl _ _) (λ_=>rfl) (λi j hij hj=> ?_) _ rfl
  by_cases c2:i=j
  ·subst c2;exact Int.le_refl _
  ·have:i=0:=by omega
   have:j=1:=by omega
   subst_vars
   rw[show lo+1-1=lo+0 by omega]at hlt
   omega
theorem NZ(hL:qI prog w A E s κ K D){lo n ok:Nat}{Q:Bool->SortSt->Prop}(hB:SB κ D st)(hok:ok<=n)(hz:lo+n<=(arrOf st).size)(hs:So K (arrOf st) lo ok)
  (h:∀st',SC lo st st'->So K (arrOf st') lo n->Q true st'):wpS (model prog w) A E s (binarySort' lo n ok) Q st:=by
 rw[binarySort'_eq]
 refine wpS_bind (wpS_mono (wpS_forRange (I:=λk c st'=>c=(none,())/\SC lo st st'/\So K (arrOf st') lo (min k n))
  (Q:=λc st'=>c=(none,())/\SC lo st st'/\So K (arrOf st') lo n) ?_ ?_ ⟨rfl,.refl _ _,λi j hij hj=> ?_⟩) ?_)
 ·rintro k c st' Bt hkn ⟨rfl,S,hs'⟩
  rw[show min k n=k by omega]at hs'
  have z:=S.size
  have hk:lo+k<(arrOf st').size:=by omega
  have YJ:=hB.sc S
  refine wpS_bind (wpS_mono (wpS_forRange (I:=λx c s2=>s2=st'/\ ∃l r,c=(none,l,r)/\l<=r/\r<=k/\r-l<=k-x/\
    (∀i,i<l->kA K (arrOf st') (lo+i)<=kA K (arrOf st') (lo+k))/\(∀i,r<=i->i<k->kA K (arrOf st') (lo+k)<kA K (arrOf st') (lo+i)))
   (Q:=λc s2=>s2=st'/\ ∃l r,c=(none,l,r)/\l<=k/\
    (∀i,i<l->kA K (arrOf st') (lo+i)<=kA K (arrOf st') (lo+k))/\(∀i,l<=i->i<k->kA K (arrOf st') (lo+k)<kA K (arrOf st') (lo+i))) ?_ ?_ ⟨rfl,0,k,rfl,by omega,by omega,by omega,λi hi=>by omega,λi h1 h2=>by(clear hk z hkn Bt h hz hok;omega)⟩) ?_)
  ·rintro x c s2 _ hxk ⟨rfl,l,r,rfl,hlr,hrk,hm,hlo,hhi⟩
   dsimp only
   by_cases hge:l≥r
   ·rw[if_pos hge]
    have:l=r:=by omega
    subst this
    exact wpS_pure ⟨rfl,l,l,rfl,hrk,hlo,hhi⟩
   ·rw[if_neg hge]
    refine wpS_bind (rF hL YJ hk (by omega) ?_)
    by_cases less:kA K (arrOf s2) (lo+k)<kA K (arrOf s2) (lo+(l+r)/2)
    ·simp only[less,decide_true,if_true]
     refine wpS_pure ⟨rfl,l,(l+r)/2,rfl,by(clear less hhi hlo hm hrk hlr hk z hxk hkn Bt h hz hok;omega),by omega,by(clear less hhi hlo hrk hlr hk z hkn Bt h hz hok;omega),hlo,λi h1 h2=> ?_⟩
     exact Int.lt_of_lt_of_le less (hs' _ _ h1 h2)
    ·simp only[less,decide_false,Bool.false_eq_true,if_false]
     refine wpS_pure ⟨rfl,(l+r)/2+1,r,rfl,by(clear less hhi hlo hm hrk hlr hk z hxk hkn Bt h hz hok;omega),by omega,by(clear less hhi hlo hrk hlr hk z hkn Bt h hz hok;omega),λi h1=> ?_,hhi⟩
     exact Int.le_trans (hs' i ((l+r)/2) (by omega) (by omega)) (Int.not_lt.mp less)
  ·rintro c s2 ⟨rfl,l,r,rfl,hlr,hrk,hm,hlo,hhi⟩
   have:l=r:=by(clear hhi hlo hrk hk z hkn Bt h hz hok;omega)
   subst this
   exact⟨rfl,l,l,rfl,hrk,hlo,hhi⟩
  ·rintro c s2 ⟨rfl,l,r,rfl,hlk,hlo,hhi⟩
   dsimp only
   rw[moveDown'_eq,show lo+k- (lo+l)=k-l by(clear hhi hlo hk z hkn Bt h hz hok;omega)]
   refine wpS_bind (wpS_modify (wpS_pure ⟨rfl,S.bubble hk (by(clear hhi hlo hk z hkn Bt h hz hok;omega)),?_⟩))
   rw[show min (k+1) n=k+1 by omega]
   intro i j hij hj
   show kA K (bubble (arrOf s2) (lo+k) (k-l)) (lo+i)<=kA K (bubble (arrOf s2) (lo+k) (k-l)) (lo+j)
   have e:∀t,t<k+1->kA K (bubble (arrOf s2) (lo+k) (k-l)) (lo+t)=if t=l then kA K (arrOf s2) (lo+k)else if l<t then kA K (arrOf s2) (lo+(t-1))else kA K (arrOf s2) (lo+t):=by
    intro t ht
    rw[GH hk (by(clear ht hj hij hhi hlo hk z hkn Bt h hz hok;omega))]
    by_cases c1:t=l
    ·rw[if_pos (by omega),if_pos c1]
    ·rw[if_neg (by(clear ht hj hij hhi hlo hk z hkn Bt h hz hok;omega)),if_neg c1]
     by_cases c2:l<t
     ·rw[if_pos (by(clear c1 hj hij hhi hlo hk z hkn Bt h hz hok;omega)),if_pos c2,show lo+t-1=lo+(t-1)by(clear c1 ht hj hij hhi hlo hlk hk z hkn Bt h hz hok;omega)]
     ·rw[if_neg (by omega),if_neg c2]
   rw[e i (by(clear e hhi hlo hlk hk z hkn Bt h hz hok;omega)),e j hj]
   repeat' split
   all_goals first
    |(exfalso;(clear e hj hhi hlo hlk hk z hkn Bt h hz hok;omega))
    |exact Int.le_refl _
    |exact hlo _ (by(clear e hj hhi hlo hlk hk z hkn Bt h hz hok;omega))
    |exact Int.le_of_lt (hhi _ (by omega) (by(clear e hij hhi hlo hlk hk z hkn Bt h hz hok;omega)))
    |exact hs' _ _ (by(clear e hj hhi hlo hlk hk z hkn Bt h hz hok;omega)) (by omega)
 ·rintro c st' ⟨hc,S,hs'⟩
  refine⟨hc,S,?_⟩
  rwa [show min (max (max ok 1) n) n=n by omega]at hs'
 ·by_cases h1:ok=0
  ·have:i=j:=by omega
   subst this;exact Int.le_refl _
  ·exact hs i j hij (by(clear hij h hz;omega))
 ·rintro c st' ⟨rfl,S,hs'⟩
  exact wpS_pure (h st' S hs')
noncomputable abbrev sl(a:Array Keyed)(lo n:Nat):List Keyed:=(a.toList.drop lo).take n
theorem rG{a:Array Keyed}{lo n:Nat}(h:lo+n<=a.size):So K a lo n↔(sl a lo n).Pairwise λx y=>K x<=K y:=by
 have len:(sl a lo n).length=n:=by simp[sl];omega
 have at':∀i (hi:i<n),∃x,(sl a lo n)[i]'(by(clear h;omega))=x/\kA K a (lo+i)=K x:=λi hi=>by
  refine⟨_,rfl,?_⟩
  have e:a[lo+i]?=some ((sl a lo n)[i]'(by omega)):=by
   rw[<-List.getElem?_eq_getElem]
   simp[sl,List.getElem?_take_of_lt hi]
  unfold kA
  rw[e]
 constructor
 ·intro hs
  rw[List.pairwise_iff_getElem]
  intro i j hi hj hij
  obtain⟨x,ex,kx⟩:=at' i (by omega)
  obtain⟨y,ey,ky⟩:=at' j (by omega)
  have:=hs i j (by omega) (by omega)
  rw[ex,ey,<-kx,<-ky]
  exact this
 ·intro hs i j hij hj
  by_cases c:i=j
  ·subst c;exact Int.le_refl _
  obtain⟨x,ex,kx⟩:=at' i (by omega)
  obtain⟨y,ey,ky⟩:=at' j hj
  have:=List.pairwise_iff_getElem.mp hs i j (by omega) (by omega) (by omega)
  rw[ex,ey,<-kx,<-ky]at this
  exact this
noncomputable def wr(sa:Nat)(a:Array Keyed)(l:List (Keyed×Nat)):Array Keyed:=l.foldl (λa (p,j)=>a.setIfInBounds (sa+j) p) a
theorem Dp(sa:Nat):∀(l:List Keyed)(k:Nat)(a:Array Keyed)(t:Nat),sa+k+l.length<=a.size->(wr sa a (l.zipIdx k))[t]?=if sa+k<=t/\t<sa+k+l.length then l[t- (sa+k)]? else a[t]?
 | [],k,a,t,h=>by
  rw[if_neg (by simp)]
  rfl
 |x::l,k,a,t,h=>by
  have h':sa+k+(l.length+1)<=a.size:=h
  show(wr sa (a.setIfInBounds (sa+k) x) (l.zipIdx (k+1)))[t]?=_
  rw[Dp sa l (k+1) _ t (by rw[Array.size_setIfInBounds];omega)]
  rw[List.length_cons]
  by_cases c1:sa+(k+1)<=t/\t<sa+(k+1)+l.length
  ·rw[if_pos c1,if_pos (by(clear h' h;omega)),show t- (sa+k)=t- (sa+(k+1))+1 by(clear h' h;omega),List.getElem?_cons_succ]
  ·rw[if_neg c1,Array.getElem?_setIfInBounds]
   by_cases c2:sa+k=t
   ·subst c2
    rw[if_pos rfl,if_pos (by omega),if_pos (by omega),Nat.sub_self]
    rfl
   ·rw[if_neg c2,if_neg (by(clear h' h;omega))]
theorem MJ{sa:Nat}{l:List Keyed}{a:Array Keyed}(h:sa+l.length<=a.size):(wr sa a l.zipIdx).toList=a.toList.take sa++(l++a.toList.drop (sa+l.length)):=by
 refine List.ext_getElem? λt=> ?_
 rw[Array.getElem?_toList,Dp sa l 0 a t (by omega),Nat.add_zero]
 have ls:(a.toList.take sa).length=sa:=by simp;omega
 by_cases c1:t<sa
 ·rw[if_neg (by(clear h;omega)),List.getElem?_append_left (by(clear h;omega)),List.getElem?_take_of_lt c1]
  simp
 ·rw[List.getElem?_append_right (by(clear h;omega)),ls]
  by_cases c2:t<sa+l.length
  ·rw[if_pos (by(clear h;omega)),List.getElem?_append_left (by(clear h;omega))]
  ·rw[if_neg (by(clear c1 h;omega)),List.getElem?_append_right (by(clear h;omega)),List.getElem?_drop,show sa+l.length+(t-sa-l.length)=t by(clear c1 h;omega)]
   simp
theorem JJ(l:List Keyed)(u n:Nat):l=l.take u++((l.drop u).take n++l.drop (u+n)):=by
 rw[<-List.drop_drop,List.take_append_drop,List.take_append_drop]
theorem JK{M:Model}{st':SortSt}{Q:PUnit->SortSt->Prop}(h:Q ⟨⟩ st'):wpS M A E s (set st':StateT SortSt Sem PUnit) Q st:=by
 unfold wpS
 rw[StateT.run_set]
 exact wpAny_pure ⟨rfl,h⟩
theorem kU{M:Model}{α:Type}{c:Prop}[Decidable c]{x y:StateT SortSt Sem α}{Q:α->SortSt->Prop}(h1:c->wpS M A E s x Q st)(h2:¬c->wpS M A E s y Q st):wpS M A E s (if c then x else y) Q st:=by
 split
 ·exact h1 ‹_›
 ·exact h2 ‹_›
theorem PR(i:Nat):mergeAt' i=(do
 let z<-get
 let(some (sa,na,pw),some (sb,nb,_)):=((pendingOf z)[i]?,(pendingOf z)[i+1]?)|(@unsupported _ "internal:list.sort.pending")
 set (SortSt.mk' (kindOf z) (arrOf z) (((pendingOf z).setIfInBounds i (sa,na+nb,pw)).eraseIdxIfInBounds (i+1)) (gallopOf z) (failedOf z))
 let some k<-MF false (<-elem' (arrOf z) sb) (arrOf z) sa na 0|return false
 let(ua,ma):=(sa+k,na-k)
 if ma==0 then return true
 let some mb<-MF true (<-elem' (arrOf z) (ua+ma-1)) (arrOf z) sb nb (nb-1)|return false
 if mb==0 then return true
 let x:=(arrOf z).extract ua sb
 let y:=(arrOf z).extract sb (sb+mb)
 let r<-if ma<=mb then VB x y else VC x y
 modify λz=>setArr z (wr ua (arrOf z) r.toList.zipIdx)
 return(failedOf (<-get)).isNone):=rfl
structure Mg(K:Keyed->Int)(sa n:Nat)(p:Array (Nat×Nat×Nat))(s0 st:SortSt):Prop where
 perm:(arrOf st).Perm (arrOf s0)
 kind:kindOf st=kindOf s0
 failed:failedOf st=failedOf s0
 pend:pendingOf st=p
 out:∀t,t<sa∨sa+n<=t->(arrOf st)[t]?=(arrOf s0)[t]?
 so:So K (arrOf st) sa n
theorem Bu{l:List Keyed}(h:l.Pairwise λx y=>K x<=K y){x:Keyed}(hx:x∈l){z:Keyed}(hz:l[l.length-1]?=some z):K x<=K z:=by
 obtain⟨i,hi,rfl⟩:=List.mem_iff_getElem.mp hx
 rw[List.getElem?_eq_getElem (by omega)]at hz
 rw[<-Option.some.inj hz]
 by_cases c:i=l.length-1
 ·subst c;exact Int.le_refl _
 ·exact List.pairwise_iff_getElem.mp h i (l.length-1) hi (by omega) (by omega)
theorem SM(hL:qI prog w A E s κ K D){i sa na nb pw:Nat}{q:Nat×Nat}{Q:Bool->SortSt->Prop}(hB:SB κ D st)(e1:(pendingOf st)[i]?=some (sa,na,pw))(e2:(pendingOf st)[i+1]?=some (sa+na,nb,q.1))
  (ha:0<na)(hb:0<nb)(hz:sa+na+nb<=(arrOf st).size)(s1:So K (arrOf st) sa na)(s2:So K (arrOf st) (sa+na) nb)
  (hq:∀st',Mg K sa (na+nb) (((pendingOf st).setIfInBounds i (sa,na+nb,pw)).eraseIdxIfInBounds (i+1)) st st'->Q true st'):wpS (model prog w) A E s (mergeAt' i) Q st:=by
 rw[PR]
 refine wpS_bind (wpS_get ?_)
 rw[e1,e2]
 dsimp only
 refine wpS_bind (JK ?_)
 have P1:=(rG (K:=K) (a:=arrOf st) (lo:=sa) (n:=na) (by omega)).mp s1
 have P2:=(rG (K:=K) (a:=arrOf st) (lo:=sa+na) (n:=nb) (by omega)).mp s2
 have lA:(sl (arrOf st) sa na).length=na:=by simp[sl];omega
 have lB:(sl (arrOf st) (sa+na) nb).length=nb:=by simp[sl];omega
 have gA:∀t,t<na->(arrOf st)[sa+t]?=(sl (arrOf st) sa na)[t]?:=λt ht=>by simp[sl,List.getElem?_take_of_lt ht]
 have gB:∀t,t<nb->(arrOf st)[sa+na+t]?=(sl (arrOf st) (sa+na) nb)[t]?:=λt ht=>by simp[sl,List.getElem?_take_of_lt ht]
 have DA:∀x∈sl (arrOf st) sa na,D x:=λx hx=>hB.all x (List.mem_of_mem_drop (List.mem_of_mem_take hx))
 have DB:∀x∈sl (arrOf st) (sa+na) nb,D x:=λx hx=>hB.all x (List.mem_of_mem_drop (List.mem_of_mem_take hx))
 have whole:sl (arrOf st) sa (na+nb)=sl (arrOf st) sa na++sl (arrOf st) (sa+na) nb:=by
  show((arrOf st).toList.drop sa).take (na+nb)=_
  rw[List.take_add,List.drop_drop]
 have parts:(arrOf st).toList=(arrOf st).toList.take sa++((sl (arrOf st) sa na++sl (arrOf st) (sa+na) nb)++(arrOf st).toList.drop (sa+(na+nb))):=by
  rw[<-whole]
  exact JJ _ _ _
 have wA:∃A0,sl (arrOf st) sa na=A0:=⟨_,rfl⟩
 have wB:∃B0,sl (arrOf st) (sa+na) nb=B0:=⟨_,rfl⟩
 obtain⟨A0,eA⟩:=wA
 obtain⟨B0,eB⟩:=wB
 rw[eA]at P1 lA gA DA whole parts
 rw[eB]at P2 lB gB DB whole parts
 have Oa:∀g,(A0++B0).Pairwise (λx y=>K x<=K y) ->Q true (SortSt.mk' (kindOf st) (arrOf st) (((pendingOf st).setIfInBounds i (sa,na+nb,pw)).eraseIdxIfInBounds (i+1)) g (failedOf st)):=λg hs=>
  hq _ ⟨Array.Perm.refl _,rfl,rfl,rfl,λ_ _=>rfl,(rG (by show sa+(na+nb)<=(arrOf st).size;omega)).mpr (by show(sl (arrOf st) sa (na+nb)).Pairwise _;rw[whole];exact hs)⟩
 obtain⟨b0,hb0⟩:∃b0,B0[0]?=some b0:=⟨_,List.getElem?_eq_getElem (by omega)⟩
 have YK:b0∈B0:=List.mem_of_getElem? hb0
 have VE:∀y∈B0,K b0<=K y:=by
  cases B0 with
  |nil=>cases hb0
  |cons z B0=>
   have:z=b0:=Option.some.inj hb0
   subst this
   exact fC P2
 refine wpS_bind (bf (by rw[<-hb0,<-gB 0 hb];rfl) (wpS_bind (kT hL hB.kind A0 gA lA.symm DA (DB _ YK) P1 ha λk hk1 t1 t2=> ?_)))
 simp only[Bool.false_eq_true,if_false]at t1 t2
 dsimp only
 by_cases c1:(na-k==0)=true
 ·rw[if_pos c1]
  refine wpS_pure (Oa _ (List.pairwise_append.mpr ⟨P1,P2,λx hx y hy=>Int.le_trans (t1 x ?_) (VE y hy)⟩))
  have:na-k=0:=by simpa using c1
  rw[List.take_of_length_le (by omega)]
  exact hx
 rw[if_neg c1]
 have n1:na-k≠0:=λe=>c1 (by rw[e];rfl)
 obtain⟨al,hal⟩:∃al,A0[na-1]?=some al:=⟨_,List.getElem?_eq_getElem (by omega)⟩
 have YL:al∈A0:=List.mem_of_getElem? hal
 have Ob:∀x∈A0,K x<=K al:=λx hx=>Bu P1 hx (by rw[lA];exact hal)
 refine wpS_bind (bf (by rw[show sa+k+(na-k) -1=sa+(na-1)by omega,gA (na-1) (by omega)];exact hal) (wpS_bind (kT hL hB.kind B0 gB lB.symm DB (DA _ YL) P2 (by omega) λm hm1 u1 u2=> ?_)))
 simp only[if_true]at u1 u2
 dsimp only
 by_cases c2:(m==0)=true
 ·rw[if_pos c2]
  refine wpS_pure (Oa _ (List.pairwise_append.mpr ⟨P1,P2,λx hx y hy=>Int.le_trans (Ob x hx) (u2 y ?_)⟩))
  have:m=0:=by simpa using c2
  subst this
  exact hy
 rw[if_neg c2]
 have n2:m≠0:=λe=>c2 (by rw[e];rfl)
 have ex:((arrOf st).extract (sa+k) (sa+na)).toList=A0.drop k:=by
  rw[<-eA]
  simp[sl,List.drop_take,Nat.add_sub_add_left]
 have ey:((arrOf st).extract (sa+na) (sa+na+m)).toList=B0.take m:=by
  rw[<-eB]
  simp[sl,List.take_take,Nat.min_eq_left hm1]
 have Xc:((arrOf st).extract (sa+k) (sa+na)).size=na-k:=by simp;omega
 have szy:((arrOf st).extract (sa+na) (sa+na+m)).size=m:=by simp;omega
 have Xs:=List.Pairwise.sublist (List.drop_sublist k A0) P1
 have Ys:=List.Pairwise.sublist (List.take_sublist m B0) P2
 have dX:∀x∈A0.drop k,D x:=λx hx=>DA x (List.mem_of_mem_drop hx)
 have dY:∀x∈B0.take m,D x:=λx hx=>DB x (List.mem_of_mem_take hx)
 have Oc:∀y∈(B0.take m).take 1,∀x∈A0.drop k,K y<=K x:=λy hy x hx=>by
  have e:(B0.take m).take 1=[b0]:=by
   cases B0 with
   |nil=>cases hb0
   |cons z B0=>
    have:z=b0:=Option.some.inj hb0
    subst this
    obtain⟨m,rfl⟩:∃m',m=m'+1:=⟨m-1,by omega⟩
    rfl
  rw[e,List.mem_singleton]at hy
  subst hy
  exact Int.le_of_lt (t2 x hx)
 have Xd:∀y∈B0.take m,∀x∈(A0.drop k).drop (na-k-1),K y<=K x:=λy hy x hx=>by
  have e:(A0.drop k).drop (na-k-1)=[al]:=by
   rw[List.drop_drop,show k+(na-k-1)=na-1 by omega]
   have e3:=List.drop_eq_getElem_cons (l:=A0) (i:=na-1) (by omega)
   rw[List.getElem?_eq_getElem (by omega)]at hal
   rw[e3,Option.some.inj hal,List.drop_eq_nil_of_le (by omega)]
  rw[e,List.mem_singleton]at hx
  subst hx
  exact Int.le_of_lt (u1 y hy)
 have goal:∀(r:Array Keyed)(s3:SortSt),Sg (SortSt.mk' (kindOf st) (arrOf st) (((pendingOf st).setIfInBounds i (sa,na+nb,pw)).eraseIdxIfInBounds (i+1)) (gallopOf st) (failedOf st)) s3->
   Good K (A0.drop k++B0.take m) r.toList->wpS (model prog w) A E s (do
    modify λz=>setArr z (wr (sa+k) (arrOf z) r.toList.zipIdx)
    return(failedOf (<-get)).isNone) Q s3:=by
  intro r s3 S3 G
  refine wpS_bind (wpS_modify (wpS_bind (wpS_get ?_)))
  have fl:failedOf s3=none:=S3.2.2.2.trans hB.failed
  show wpS _ _ _ _ (pure (failedOf s3).isNone) _ _
  rw[fl]
  refine wpS_pure (hq _ ?_)
  have ar:arrOf s3=arrOf st:=S3.2.1
  have lr:r.toList.length=na-k+m:=by rw[G.1.length_eq,List.length_append,List.length_drop,List.length_take];omega
  have lst:(wr (sa+k) (arrOf st) r.toList.zipIdx).toList=(arrOf st).toList.take sa++((A0.take k++(r.toList++B0.drop m))++(arrOf st).toList.drop (sa+(na+nb))):=by
   rw[MJ (by omega),lr]
   have ts:((arrOf st).toList.take sa).length=sa:=by simp;omega
   have q1:(arrOf st).toList.take (sa+k)=(arrOf st).toList.take sa++A0.take k:=by
    rw[List.take_add,<-eA]
    show _=_++(((arrOf st).toList.drop sa).take na).take k
    rw[List.take_take,Nat.min_eq_left hk1]
   have q2:(arrOf st).toList.drop (sa+k+(na-k+m))=B0.drop m++(arrOf st).toList.drop (sa+(na+nb)):=by
    rw[<-eB]
    show _=(((arrOf st).toList.drop (sa+na)).take nb).drop m++_
    rw[List.drop_take,List.drop_drop,show sa+k+(na-k+m)=sa+na+m by omega]
    conv=>lhs;rw[<-List.take_append_drop (nb-m) ((arrOf st).toList.drop (sa+na+m))]
    rw[List.drop_drop,show sa+na+m+(nb-m)=sa+(na+nb)by omega]
   rw[q1,q2]
   simp[List.append_assoc]
  have YM:(A0.take k++(r.toList++B0.drop m)).Pairwise λx y=>K x<=K y:=by
   have sA:=List.pairwise_append.mp (by rw[List.take_append_drop];exact P1:(A0.take k++A0.drop k).Pairwise λx y=>K x<=K y)
   have sB:=List.pairwise_append.mp (by rw[List.take_append_drop];exact P2:(B0.take m++B0.drop m).Pairwise λx y=>K x<=K y)
   refine List.pairwise_append.mpr ⟨sA.1,List.pairwise_append.mpr ⟨G.2,sB.2.1,λx hx y hy=> ?_⟩,λx hx y hy=> ?_⟩
   ·rcases List.mem_append.mp (G.1.mem_iff.mp hx)with z|z
    ·exact Int.le_trans (Ob x (List.mem_of_mem_drop z)) (u2 y hy)
    ·exact sB.2.2 x z y hy
   ·rcases List.mem_append.mp hy with z|z
    ·rcases List.mem_append.mp (G.1.mem_iff.mp z)with z|z
     ·exact sA.2.2 x hx y z
     ·exact Int.le_trans (t1 x hx) (VE y (List.mem_of_mem_take z))
    ·exact Int.le_trans (t1 x hx) (VE y (List.mem_of_mem_drop z))
  have YN:(wr (sa+k) (arrOf st) r.toList.zipIdx).size=(arrOf st).size:=by
   rw[<-Array.length_toList,lst,<-Array.length_toList]
   conv=>rhs;rw[parts]
   simp only[List.length_append,lr,List.length_take,List.length_drop,lA,lB]
   omega
  have pm:(wr (sa+k) (arrOf st) r.toList.zipIdx).Perm (arrOf st):=by
   refine Array.perm_iff_toList_perm.mpr ?_
   rw[lst]
   conv=>rhs;rw[parts]
   refine List.Perm.append_left _ (List.Perm.append_right _ ?_)
   have h1:(A0.take k++(r.toList++B0.drop m)).Perm (A0.take k++((A0.drop k++B0.take m)++B0.drop m)):=List.Perm.append_left _ (List.Perm.append_right _ G.1)
   refine h1.trans (List.Perm.of_eq ?_)
   rw[List.append_assoc,List.take_append_drop,<-List.append_assoc,List.take_append_drop]
  refine⟨?_,S3.1,by show failedOf s3=failedOf st;rw[fl,hB.failed],S3.2.2.1,λt ht=> ?_,?_⟩
  ·show(wr (sa+k) (arrOf s3) r.toList.zipIdx).Perm _
   rw[ar]
   exact pm
  ·show(wr (sa+k) (arrOf s3) r.toList.zipIdx)[t]?=_
   rw[ar,Dp (sa+k) r.toList 0 (arrOf st) t (by omega),if_neg (by omega)]
  ·show So K (wr (sa+k) (arrOf s3) r.toList.zipIdx) sa (na+nb)
   rw[ar,rG (by rw[YN];omega)]
   show(((wr (sa+k) (arrOf st) r.toList.zipIdx).toList.drop sa).take (na+nb)).Pairwise _
   have ts:((arrOf st).toList.take sa).length=sa:=by simp;omega
   rw[lst,List.drop_append_of_le_length (by omega),List.drop_eq_nil_of_le (by omega),List.nil_append,List.take_append_of_le_length (by simp only[List.length_append,List.length_take,List.length_drop,lr,lA,lB];omega),
    List.take_of_length_le (by simp only[List.length_append,List.length_take,List.length_drop,lr,lA,lB];omega)]
   exact YM
 refine kU (λc=> ?_) (λc=> ?_)
 ·refine wpS_bind (SH hL hB.kind (by omega) (by omega) (by rw[ex];exact dX) (by rw[ey];exact dY) (by rw[ex];exact Xs) (by rw[ey];exact Ys) (by rw[ex,ey];exact Oc) (by rw[ex,ey,Xc];exact Xd) λr s3 S3 G=> ?_)
  rw[ex,ey]at G
  exact goal r s3 S3 G
 ·refine wpS_bind (SJ hL hB.kind (by omega) (by omega) (by rw[ex];exact dX) (by rw[ey];exact dY) (by rw[ex];exact Xs) (by rw[ey];exact Ys) (by rw[ex,ey];exact Oc) (by rw[ex,ey,Xc];exact Xd) λr s3 S3 G=> ?_)
  rw[ex,ey]at G
  exact goal r s3 S3 G
end
noncomputable def qK(K:Keyed->Int)(ar:Array Keyed):Nat->List (Nat×Nat×Nat) ->Nat->Prop
 |a,[],e=>a=e
 |a,(u,n,_)::r,e=>u=a/\0<n/\So K ar a n/\qK K ar (a+n) r e
theorem qK.le{K:Keyed->Int}{ar:Array Keyed}:∀{l:List (Nat×Nat×Nat)}{a e:Nat},qK K ar a l e->a+l.length<=e
 | [],a,e,h=>Nat.le_of_eq h
 |(u,n,z)::r,a,e,h=>by
  have:=qK.le h.2.2.2
  have:=h.2.1
  rw[List.length_cons]
  omega
theorem So.congr{K:Keyed->Int}{x y:Array Keyed}{lo n:Nat}(h:So K x lo n)(e:∀t,lo<=t->t<lo+n->y[t]?=x[t]?):So K y lo n:=λi j hij hj=>by
 rw[kh (e (lo+i) (by omega) (by omega)),kh (e (lo+j) (by omega) (by omega))]
 exact h i j hij hj
theorem qK.congr{K:Keyed->Int}{x y:Array Keyed}:∀{l:List (Nat×Nat×Nat)}{a e:Nat},qK K x a l e->(∀t,a<=t->t<e->y[t]?=x[t]?) ->qK K y a l e
 | [],a,e,h,_=>h
 |(u,n,z)::r,a,e,h,q=>⟨h.1,h.2.1,h.2.2.1.congr λt h1 h2=>q t h1 (by have:=h.2.2.2.le;omega),h.2.2.2.congr λt h1 h2=>q t (by omega) h2⟩
theorem qK.append{K:Keyed->Int}{ar:Array Keyed}{r:List (Nat×Nat×Nat)}{e:Nat}:∀{l:List (Nat×Nat×Nat)}{a:Nat},qK K ar a (l++r) e↔ ∃m,qK K ar a l m/\qK K ar m r e
 | [],a=>⟨λh=>⟨a,rfl,h⟩,λ ⟨m,h,q⟩=>by cases h;exact q⟩
 |(u,n,z)::l,a=>by
  constructor
  ·rintro⟨h1,h2,h3,h4⟩
   obtain⟨m,p,q⟩:=qK.append.mp h4
   exact⟨m,⟨h1,h2,h3,p⟩,q⟩
  ·rintro⟨m,⟨h1,h2,h3,p⟩,q⟩
   exact⟨h1,h2,h3,qK.append.mpr ⟨m,p,q⟩⟩
theorem qK.push{K:Keyed->Int}{ar:Array Keyed}{l:List (Nat×Nat×Nat)}{a e n z:Nat}(h:qK K ar a l e)(hn:0<n)(hs:So K ar e n):qK K ar a (l++ [(e,n,z)]) (e+n):=qK.append.mpr ⟨e,h,rfl,hn,hs,rfl⟩
theorem qK.pow{K:Keyed->Int}{ar:Array Keyed}{l:List (Nat×Nat×Nat)}{a e u n z z':Nat}(h:qK K ar a (l++ [(u,n,z)]) e):qK K ar a (l++ [(u,n,z')]) e:=by
 obtain⟨m,p,q1,q2,q3,q4⟩:=qK.append.mp h
 exact qK.append.mpr ⟨m,p,q1,q2,q3,q4⟩
theorem JL:sortRuns'=(do
 let zz:=(arrOf (<-get)).size
 let mr:=minRun' zz zz 0
 let mut lo:=0
 for _ in [0:zz] do
  if lo≥zz then break
  let some f<-countRun' lo (zz-lo)|return
  let mut n:=f
  if n<mr then
   rule "list.sort.binary-insertion"
   let fo:=min (zz-lo) mr
   if !(<-binarySort' lo fo n)then return
   n:=fo
  if let some (a1,b1,_):=(pendingOf (<-get)).back? then
   let pw:=power' zz (2*a1+b1) (2*a1+b1+b1+n) zz
   for _ in [0:zz] do
    let p:=pendingOf (<-get)
    let some (_,_,od):=(if p.size>1 then p[p.size-2]? else none)|break
    if od<=pw then break
    if !(<-mergeAt' (p.size-2))then return
   modify λy=>setPending y ((pendingOf y).modify ((pendingOf y).size-1) λ (c,d,_)=>(c,d,pw))
  modify λy=>setPending y ((pendingOf y).push (lo,n,0))
  lo:=lo+n
 for _ in [0:zz] do
  let p:=pendingOf (<-get)
  if p.size<=1 then break
  let i:=p.size-2
  let be:=if i>0 then p[i-1]?.map (·.2.1)else none
  let i:=if be.any (· <(p[i+1]?.elim 0 (·.2.1)))then i-1 else i
  if !(<-mergeAt' i)then return):=rfl
section
variable{prog:Program}{w:World}{A:Around}{E:Value->Shared->Prop}{s:Shared}{κ:SortKind}{K:Keyed->Int}{D:Keyed->Prop}{st:SortSt}{a₀:Array Keyed}
structure RI(κ:SortKind)(K:Keyed->Int)(D:Keyed->Prop)(a₀:Array Keyed)(lo:Nat)(st:SortSt):Prop where
 sb:SB κ D st
 perm:(arrOf st).Perm a₀
 PU:qK K (arrOf st) 0 (pendingOf st).toList lo
 le:lo<=a₀.size
theorem RI.size{lo:Nat}(R:RI κ K D a₀ lo st):(arrOf st).size=a₀.size:=R.perm.size_eq
theorem RI.cnt{lo:Nat}(R:RI κ K D a₀ lo st):(pendingOf st).size<=lo:=by have:=R.PU.le;rw[Nat.zero_add,Array.length_toList]at this;exact this
theorem RI.sc{lo:Nat}{s1:SortSt}(R:RI κ K D a₀ lo st)(S:SC lo st s1):RI κ K D a₀ lo s1:=
 ⟨R.sb.sc S,S.perm.trans R.perm,by rw[S.pend];exact R.PU.congr λt _ h=>S.low t h,R.le⟩
theorem vH(hL:qI prog w A E s κ K D){lo i:Nat}{Q:Bool->SortSt->Prop}(R:RI κ K D a₀ lo st)(hi:i+1<(pendingOf st).size)
  (hq:∀st',RI κ K D a₀ lo st'->(pendingOf st').size+1=(pendingOf st).size->(∀t,lo<=t->(arrOf st')[t]?=(arrOf st)[t]?) ->Q true st'):wpS (model prog w) A E s (mergeAt' i) Q st:=by
 have hl:i+1<(pendingOf st).toList.length:=by simpa using hi
 obtain⟨⟨u,na,z1⟩,eu⟩:∃x,(pendingOf st).toList[i]?=some x:=⟨_,List.getElem?_eq_getElem (by omega)⟩
 obtain⟨⟨v,nb,z2⟩,ev⟩:∃x,(pendingOf st).toList[i+1]?=some x:=⟨_,List.getElem?_eq_getElem hl⟩
 obtain⟨pre,post,split,lt⟩:∃pre post,(pendingOf st).toList=pre++((u,na,z1)::(v,nb,z2)::post)/\pre.length=i:=by
  refine⟨(pendingOf st).toList.take i,(pendingOf st).toList.drop (i+2),?_,by rw[List.length_take];omega⟩
  conv=>lhs;rw[<-List.take_append_drop i (pendingOf st).toList]
  congr 1
  rw[List.drop_eq_getElem_cons (by omega),List.drop_eq_getElem_cons hl]
  rw[List.getElem?_eq_getElem (by omega)]at eu
  rw[List.getElem?_eq_getElem hl]at ev
  rw[Option.some.inj eu,Option.some.inj ev]
 have C:=R.PU
 rw[split]at C
 obtain⟨m,c1,rfl,hna,sa,c2⟩:=qK.append.mp C
 obtain⟨rfl,hnb,sb,c3⟩:=c2
 have xr:=c3.le
 have sz:=R.size
 have rl:=R.le
 refine SM hL (q:=(z2,0)) (nb:=nb) (na:=na) (sa:=u) (pw:=z1) R.sb (by rw[<-Array.getElem?_toList];exact eu) (by rw[<-Array.getElem?_toList];exact ev) hna hnb (by omega) sa sb λst' M=> ?_
 have pl:(pendingOf st').toList=pre++((u,na+nb,z1)::post):=by
  rw[M.pend]
  simp only[Array.toList_eraseIdxIfInBounds,Array.toList_setIfInBounds]
  rw[split,List.set_append_right _ _ (by omega),lt,Nat.sub_self,List.set_cons_zero,List.eraseIdx_append_of_length_le (by omega),lt,show i+1-i=1 by omega,List.eraseIdx_cons_succ,List.eraseIdx_cons_zero]
 have ov:=c3.le
 refine hq st' ⟨⟨M.kind.trans R.sb.kind,M.failed.trans R.sb.failed,λx hx=>R.sb.all x ((Array.perm_iff_toList_perm.mp M.perm).mem_iff.mp hx)⟩,M.perm.trans R.perm,?_,R.le⟩ ?_ λt h=>M.out t (.inr (by omega))
 ·rw[pl]
  exact qK.append.mpr ⟨u,c1.congr λt _ h=>M.out t (.inl h),rfl,by omega,M.so,by rw[<-Nat.add_assoc];exact c3.congr λt h _=>M.out t (.inr (by omega))⟩
 ·have e1:(pendingOf st').toList.length=(pendingOf st').size:=Array.length_toList
  have e2:(pendingOf st).toList.length=(pendingOf st).size:=Array.length_toList
  rw[pl]at e1
  rw[split]at e2
  simp only[List.length_append,List.length_cons]at e1 e2
  omega
theorem MK(hL:qI prog w A E s κ K D){lo i:Nat}{Q:Bool->SortSt->Prop}(R:RI κ K D a₀ lo st)(hi:i+1<(pendingOf st).size)
  (hq:∀st',RI κ K D a₀ lo st'->(pendingOf st').size+1=(pendingOf st).size->Q true st'):wpS (model prog w) A E s (mergeAt' i) Q st:=vH hL R hi λst' r e _=>hq st' r e
theorem Bv{α:Type}(f:α->α)(y:α):∀l:List α,(l++ [y]).modify l.length f=l++ [f y]
 | []=>rfl
 |x::l=>by
  show x::((l++ [y]).modify l.length f)=_
  rw[Bv f y l]
  rfl
theorem ML{ar:Array Keyed}{p:Array (Nat×Nat×Nat)}{lo pw:Nat}(C:qK K ar 0 p.toList lo)(h:0<p.size):qK K ar 0 (p.modify (p.size-1) λx=>(x.1,x.2.1,pw)).toList lo:=by
 rw[Array.toList_modify]
 obtain⟨⟨q1,q2,q3⟩,l',el⟩:∃y l',p.toList=l'++ [y]:=by
  have ne:p.toList≠ []:=λe=>by
   rw[<-Array.length_toList,e]at h
   cases h
  exact⟨_,_,(List.dropLast_concat_getLast ne).symm⟩
 have sz:p.size-1=l'.length:=by
  rw[<-Array.length_toList,el]
  simp
 rw[el]at C ⊢
 rw[sz,Bv]
 exact C.pow
theorem RI.pow{lo:Nat}(R:RI κ K D a₀ lo st)(h:0<(pendingOf st).size)(pw:Nat):RI κ K D a₀ lo (setPending st ((pendingOf st).modify ((pendingOf st).size-1) λx=>(x.1,x.2.1,pw))):=
 ⟨⟨R.sb.kind,R.sb.failed,R.sb.all⟩,R.perm,ML R.PU h,R.le⟩
theorem MM(c:Prop)[Decidable c](k:Nat):(if c then k-1 else k)<=k:=by split<;>omega
theorem PV(hL:qI prog w A E s κ K D){Q:Unit->SortSt->Prop}(R:RI κ K D a₀ 0 st)(hq:∀st',(arrOf st').Perm a₀->failedOf st'=none->So K (arrOf st') 0 a₀.size->Q () st'):wpS (model prog w) A E s sortRuns' Q st:=by
 rw[JL]
 refine wpS_bind (wpS_get ?_)
 dsimp only
 rw[R.size]
 generalize minRun' a₀.size a₀.size 0=mr
 refine wpS_bind (wpS_mono (wpS_forRange (I:=λx c s1=> ∃lo,c=(none,lo)/\x<=lo/\RI κ K D a₀ lo s1) (Q:=λc s1=> ∃lo,c=(none,lo)/\a₀.size<=lo/\RI κ K D a₀ lo s1) ?_ ?_ ⟨0,rfl,Nat.le_refl _,R⟩) ?_)
 ·rintro x c s1 _ hx ⟨lo,rfl,hlo,R1⟩
  dsimp only
  refine kU (λc=>wpS_pure ⟨lo,rfl,c,R1⟩) (λc=> ?_)
  have sz1:=R1.size
  refine wpS_bind (w_count hL R1.sb (by omega) (by omega) λn s2 S2 n1 n2 Od=> ?_)
  dsimp only
  have R2:=R1.sc S2
  have YO:=R2.size
  by_cases hm:n<mr
  ·rw[if_pos hm]
   refine wpS_bind (wpS_lift (wpAny_rule ⟨rfl,?_⟩))
   refine wpS_bind (NZ hL R2.sb (by omega) (by omega) Od λs3 S3 HX=> ?_)
   simp only[Bool.not_true,Bool.false_eq_true,if_false]
   have R3:=R2.sc S3
   have n1:1<=min (a₀.size-lo) mr:=by omega
   have n2:min (a₀.size-lo) mr<=a₀.size-lo:=by omega
   have note:∀s4:SortSt,RI κ K D a₀ lo s4->So K (arrOf s4) lo (min (a₀.size-lo) mr) -> ∀Q:ForInStep (Option Unit×Nat) ->SortSt->Prop,(∀s5,RI κ K D a₀ (lo+min (a₀.size-lo) mr) s5->Q (.yield (none,lo+min (a₀.size-lo) mr)) s5) ->wpS (model prog w) A E s (do
     modify λy=>setPending y ((pendingOf y).push (lo,min (a₀.size-lo) mr,0))
     pure (ForInStep.yield ((none,lo+min (a₀.size-lo) mr):Option Unit×Nat))) Q s4:=λs4 R4 Dq Q hQ=>
    wpS_bind (wpS_modify (wpS_pure (hQ _ ⟨⟨R4.sb.kind,R4.sb.failed,R4.sb.all⟩,R4.perm,by
     show qK K (arrOf s4) 0 ((pendingOf s4).push (lo,min (a₀.size-lo) mr,0)).toList (lo+min (a₀.size-lo) mr)
     rw[Array.toList_push]
     exact R4.PU.push n1 Dq,by omega⟩)))
   refine wpS_bind (wpS_get ?_)
   cases eb:(pendingOf s3).back? with
   |none=>exact note s3 R3 HX _ λs5 R5=>⟨lo+min (a₀.size-lo) mr,rfl,by omega,R5⟩
   |some y=>
    obtain⟨a1,b1,z1⟩:=y
    dsimp only
    refine wpS_bind (wpS_mono (wpS_forRange (I:=λ_ c s4=>c=(none,())/\RI κ K D a₀ lo s4/\So K (arrOf s4) lo (min (a₀.size-lo) mr)/\0<(pendingOf s4).size) (Q:=λc s4=>c=(none,())/\RI κ K D a₀ lo s4/\So K (arrOf s4) lo (min (a₀.size-lo) mr)/\0<(pendingOf s4).size) ?_ (λ_ _ h=>h) ⟨rfl,R3,HX,?_⟩) ?_)
    ·rintro _ c s4 _ _ ⟨rfl,R4,Dq,p4⟩
     refine wpS_bind (wpS_get ?_)
     by_cases c1:(pendingOf s4).size>1
     ·rw[if_pos c1]
      obtain⟨⟨p1,p2,p3⟩,ep⟩:∃y,(pendingOf s4)[(pendingOf s4).size-2]?=some y:=⟨_,Array.getElem?_eq_getElem (by omega)⟩
      rw[ep]
      refine kU (λ_=>wpS_pure ⟨rfl,R4,Dq,p4⟩) (λ_=> ?_)
      exact wpS_bind (vH hL R4 (by omega) λs5 R5 e5 o5=>wpS_pure ⟨rfl,R5,Dq.congr λt h _=>o5 t h,by omega⟩)
     ·rw[if_neg c1]
      exact wpS_pure ⟨rfl,R4,Dq,p4⟩
    ·cases h:(pendingOf s3).size with
     |zero=>
      have:pendingOf s3= #[]:=Array.eq_empty_of_size_eq_zero h
      rw[this]at eb
      cases eb
     |succ k=>omega
    ·rintro c s4 ⟨rfl,R4,Dq,p4⟩
     dsimp only
     refine wpS_bind (wpS_modify ?_)
     exact note _ (R4.pow p4 _) Dq _ λs5 R5=>⟨lo+min (a₀.size-lo) mr,rfl,by omega,R5⟩
  ·rw[if_neg hm]
   have R3:=R2
   have HX:=Od
   revert R3 HX
   generalize s2=s3
   intro R3 HX
   have note:∀s4:SortSt,RI κ K D a₀ lo s4->So K (arrOf s4) lo (n) -> ∀Q:ForInStep (Option Unit×Nat) ->SortSt->Prop,(∀s5,RI κ K D a₀ (lo+n) s5->Q (.yield (none,lo+n)) s5) ->wpS (model prog w) A E s (do
     modify λy=>setPending y ((pendingOf y).push (lo,n,0))
     pure (ForInStep.yield ((none,lo+n):Option Unit×Nat))) Q s4:=λs4 R4 Dq Q hQ=>
    wpS_bind (wpS_modify (wpS_pure (hQ _ ⟨⟨R4.sb.kind,R4.sb.failed,R4.sb.all⟩,R4.perm,by
     show qK K (arrOf s4) 0 ((pendingOf s4).push (lo,n,0)).toList (lo+n)
     rw[Array.toList_push]
     exact R4.PU.push n1 Dq,by omega⟩)))
   refine wpS_bind (wpS_get ?_)
   cases eb:(pendingOf s3).back? with
   |none=>exact note s3 R3 HX _ λs5 R5=>⟨lo+n,rfl,by omega,R5⟩
   |some y=>
    obtain⟨a1,b1,z1⟩:=y
    dsimp only
    refine wpS_bind (wpS_mono (wpS_forRange (I:=λ_ c s4=>c=(none,())/\RI κ K D a₀ lo s4/\So K (arrOf s4) lo (n)/\0<(pendingOf s4).size) (Q:=λc s4=>c=(none,())/\RI κ K D a₀ lo s4/\So K (arrOf s4) lo (n)/\0<(pendingOf s4).size) ?_ (λ_ _ h=>h) ⟨rfl,R3,HX,?_⟩) ?_)
    ·rintro _ c s4 _ _ ⟨rfl,R4,Dq,p4⟩
     refine wpS_bind (wpS_get ?_)
     by_cases c1:(pendingOf s4).size>1
     ·rw[if_pos c1]
      obtain⟨⟨p1,p2,p3⟩,ep⟩:∃y,(pendingOf s4)[(pendingOf s4).size-2]?=some y:=⟨_,Array.getElem?_eq_getElem (by omega)⟩
      rw[ep]
      refine kU (λ_=>wpS_pure ⟨rfl,R4,Dq,p4⟩) (λ_=> ?_)
      exact wpS_bind (vH hL R4 (by omega) λs5 R5 e5 o5=>wpS_pure ⟨rfl,R5,Dq.congr λt h _=>o5 t h,by omega⟩)
     ·rw[if_neg c1]
      exact wpS_pure ⟨rfl,R4,Dq,p4⟩
    ·cases h:(pendingOf s3).size with
     |zero=>
      have:pendingOf s3= #[]:=Array.eq_empty_of_size_eq_zero h
      rw[this]at eb
      cases eb
     |succ k=>omega
    ·rintro c s4 ⟨rfl,R4,Dq,p4⟩
     dsimp only
     refine wpS_bind (wpS_modify ?_)
     exact note _ (R4.pow p4 _) Dq _ λs5 R5=>⟨lo+n,rfl,by omega,R5⟩
 ·rintro c s1 ⟨lo,rfl,hlo,R1⟩
  exact⟨lo,rfl,by omega,R1⟩
 ·rintro c s1 ⟨lo,rfl,hlo,R1⟩
  have hl:lo=a₀.size:=by have:=R1.le;omega
  subst hl
  dsimp only
  refine wpS_bind (wpS_mono (wpS_forRange (I:=λx c s2=>c=(none,())/\RI κ K D a₀ a₀.size s2/\((pendingOf s2).size<=1∨(pendingOf s2).size+x<=a₀.size)) (Q:=λc s2=>c=(none,())/\RI κ K D a₀ a₀.size s2/\(pendingOf s2).size<=1) ?_ ?_ ⟨rfl,R1,.inr R1.cnt⟩) ?_)
  ·rintro x c s2 _ hx ⟨rfl,R2,p2⟩
   refine wpS_bind (wpS_get ?_)
   refine kU (λc=>wpS_pure ⟨rfl,R2,c⟩) (λc=> ?_)
   have mg:∀i,i+1<(pendingOf s2).size-> ∀Q:ForInStep (Option Unit×Unit) ->SortSt->Prop,(∀s3,RI κ K D a₀ a₀.size s3->(pendingOf s3).size+1=(pendingOf s2).size->Q (.yield (none,())) s3) ->wpS (model prog w) A E s (do
     let b<-mergeAt' i
     if(!b)=true then pure (ForInStep.done ((some (),()):Option Unit×Unit))else pure (ForInStep.yield (none,()))) Q s2:=λi hi Q hQ=>
    wpS_bind (MK hL R2 hi λs3 R3 e3=>wpS_pure (hQ s3 R3 e3))
   refine mg _ ?_ _ λs3 R3 e3=>⟨rfl,R3,.inr (by omega)⟩
   exact Nat.lt_of_le_of_lt (Nat.succ_le_succ (MM _ _)) (by omega)
  ·rintro c s2 ⟨hc,R2,p2⟩
   exact⟨hc,R2,by omega⟩
  ·rintro c s2 ⟨rfl,R2,p2⟩
   refine wpS_pure (hq s2 R2.perm R2.sb.failed ?_)
   have C:=R2.PU
   have le:=p2
   rw[<-Array.length_toList]at le
   cases e:(pendingOf s2).toList with
   |nil=>
    rw[e]at C
    have z:0=a₀.size:=C
    intro i j h1 h2
    omega
   |cons y r=>
    rw[e]at C le
    have:r=[]:=by
     cases r with
     |nil=>rfl
     |cons _ _=>simp at le
    subst this
    obtain⟨c1,c2,c3,c4⟩:=C
    have:0+y.2.1=a₀.size:=c4
    rw[<-this,Nat.zero_add]
    exact c3
end
end zK
namespace L2
open PySem PySem.Spec PyProof.Rows PySem.SeqAt
open AutoSeq1 (wpAny_loadPart')
open MeetsSeq MeetsSeq2 MeetsSeq3 SeqRoads2
mutual
noncomputable def JM:PyData->PyData->Bool
 | .int a,.int b=>decide (a<b)
 | .list xs,.list ys=>pT xs ys
 | .tuple xs,.tuple ys=>pT xs ys
 |_,_=>false
noncomputable def pT:List PyData->List PyData->Bool
 |x::xs,y::ys=>if PyData.eqv x y then pT xs ys else JM x y
 |_,_=>false
end
mutual
inductive Bw:PyData->PyData->Prop
 |int(a b:Int):Bw (.int a) (.int b)
 |lst{xs ys:List PyData}:pG xs ys->Bw (.list xs) (.list ys)
inductive pG:List PyData->List PyData->Prop
 |nil:pG [] []
 |cons{x y:PyData}{xs ys:List PyData}:Bw x y->pG xs ys->pG (x::xs) (y::ys)
end
noncomputable def pU(A:Around)(s:Shared)(y x:Value)(b:Bool):Prop:=
 ∀(prog:Program)(w:World)(E:Value->Shared->Prop)(Q:Value->Shared->Prop),Q (.bool b) s->wpAny (model prog w) A (richCompare .Lt y x) Q E s
noncomputable def pq(e l:Nat->Bool):Nat->Nat->Bool
 |0,_=>false
 |k+1,i=>if e i then pq e l k (i+1)else l i
theorem GI(l b:Addr)(its nY:Array Value)(n n2:Nat)(dd dd2:Option Addr)(sl sl2:Array (Option Value))(hsz:its.size=nY.size)(e f:Nat->Bool)(k:Nat):
  ∀i:Nat,its.size-i=k->Meets (Builtin.«list.__eq__.loop» ⟨[.ref l,.ref b,rawInt i,rawInt 0],[]⟩)
   (λA R s=>s.heap.get? l=some {cls:= .type "list",dict:=dd,data:= .seq its n,slots:=sl}/\s.heap.get? b=some {cls:= .type "list",dict:=dd2,data:= .seq nY n2,slots:=sl2}/\
    (∀j (h1:j<its.size) (h2:j<nY.size),EqAt A.in1 s its[j] nY[j] (e j))/\
    (∀j (h1:j<its.size) (h2:j<nY.size),e j=false->pU A.in1 s its[j] nY[j] (f j))/\
    R (.ok (.ret (.bool (pq e f k i)))) s):=by
 induction k with
 |zero=>
  intro i hk prog w A R s h
  obtain⟨hp,g,d,tk,os⟩:=s;obtain⟨hl,hb,he,hf,h⟩:=h
  wp_walk using wpAny_loadPart' hl,wpAny_loadPart' hb
  have hi1:its[((i:Nat):Int).toNat]?=none:=by simp;omega
  have hi2:nY[((i:Nat):Int).toNat]?=none:=by simp;omega
  rw[hi1,hi2]
  wp_walk using wpAny_loadPart' hl,wpAny_loadPart' hb
  show R (.ok (.ret (.bool (decide (its.size<nY.size))))) _
  rw[hsz,decide_eq_false (Nat.lt_irrefl _)]
  exact h
 |succ k ih=>
  intro i hk prog w A R s h
  obtain⟨hp,g,d,tk,os⟩:=s;obtain⟨hl,hb,he,hf,h⟩:=h
  wp_walk using wpAny_loadPart' hl,wpAny_loadPart' hb
  have hlt:i<its.size:=by omega
  have PX:i<nY.size:=by omega
  have hi1:its[((i:Nat):Int).toNat]?=some its[i]:=by simp[hlt]
  have hi2:nY[((i:Nat):Int).toNat]?=some nY[i]:=by simp[PX]
  have hc:((i:Int)+1)=((i+1:Nat):Int):=by push_cast;rfl
  rw[hi1,hi2]
  refine wpAny_bind (he i hlt PX prog w _ _ ?_)
  unfold pq at h
  cases hb':e i with
  |true=>
   rw[hb',if_pos rfl]at h
   wp_walk
   rw[hc]
   exact⟨plainId_quiet plain_eq_loop _,codeAny_builtin entry_eq_loop (by
    rw[Around.under_plainId plain_eq_loop _]
    exact ih (i+1) (by omega) prog w A R _ ⟨hl,hb,he,hf,h⟩)⟩
  |false=>
   rw[hb',if_neg (by simp)]at h
   wp_walk using wpAny_loadPart' hl,wpAny_loadPart' hb
   rw[hi1,hi2]
   refine wpAny_bind (hf i hlt PX hb' prog w _ _ ?_)
   wp_walk
   exact h
theorem yw(l b:Addr)(its nY:Array Value)(n n2:Nat)(dd dd2:Option Addr)(sl sl2:Array (Option Value))(hsz:its.size=nY.size)(e f:Nat->Bool):
  Meets (Builtin.«list.__lt__» ⟨[.ref l,.ref b],[]⟩)
   (λA R s=>s.heap.get? l=some {cls:= .type "list",dict:=dd,data:= .seq its n,slots:=sl}/\s.heap.get? b=some {cls:= .type "list",dict:=dd2,data:= .seq nY n2,slots:=sl2}/\
    (∀j (h1:j<its.size) (h2:j<nY.size),EqAt A.in1 s its[j] nY[j] (e j))/\
    (∀j (h1:j<its.size) (h2:j<nY.size),e j=false->pU A.in1 s its[j] nY[j] (f j))/\
    R (.ok (.ret (.bool (pq e f its.size 0)))) s):=by
 intro prog w A R s h
 obtain⟨hp,g,d,tk,os⟩:=s;obtain⟨hl,hb,he,hf,h⟩:=h
 have f3:=AutoSeq1.sub_list_list
 wp_walk using wpAny_loadPart' hl,wpAny_loadPart' hb
 exact⟨plainId_quiet plain_eq_loop _,codeAny_builtin entry_eq_loop (by
  rw[Around.under_plainId plain_eq_loop _]
  exact GI l b its nY n n2 dd dd2 sl sl2 hsz e f _ 0 rfl prog w A R _ ⟨hl,hb,he,hf,h⟩)⟩
section
variable{A:Around}{s:Shared}
theorem pU.lists{l b:Addr}{its nY:Array Value}{e f:Nat->Bool}(hl:s.heap.IsList l its)(hb:s.heap.IsList b nY)(hsz:its.size=nY.size)(hu:A.units<cLine)
  (he:∀j (h1:j<its.size) (h2:j<nY.size),EqAt A.in1 s its[j] nY[j] (e j))(hf:∀j (h1:j<its.size) (h2:j<nY.size),e j=false->pU A.in1 s its[j] nY[j] (f j)):
  pU A s (.ref l) (.ref b) (pq e f its.size 0):=λprog w E Q h=>by
 obtain⟨⟨cls,dd,data,sl⟩,ho,hc,n,hd⟩:=id hl
 obtain⟨⟨RK,dd2,data2,sl2⟩,ho2,hc2,n2,hd2⟩:=id hb
 simp only at hc hd hc2 hd2
 subst hc hd hc2 hd2
 exact richCompare_meets_room (op:= .Lt) ⟨_,ho,rfl⟩ ⟨_,ho2,rfl⟩ F.slot_list_lt F.entry_list_lt (F.args_list_lt_2 _ _) (yw l b its nY n n2 dd dd2 sl sl2 hsz e f)
  ⟨ho,ho2,he,hf,show Value.bool (pq e f its.size 0)≠Value.notImplemented/\Q (.bool (pq e f its.size 0)) s from⟨(λx=>nomatch x),h⟩⟩ hu
theorem pU.int_int(a:Int)(t:Tok)(b:Int)(u:Tok):pU A s (.int a t) (.int b u) (decide (a<b)):=λprog w E Q h=>
 richCompare_gives (typeIs_int s a t) (typeIs_int s b u) F.slot_int_lt F.entry_int_lt (F.args_int_lt_2 _ _) (AutoIntG1.int___lt___int_int_0 a t b u) (λx=>nomatch x) h
end
noncomputable abbrev Ly(xs ys:List PyData)(j:Nat):Bool:=JM (xs.getD j .none) (ys.getD j .none)
theorem vI(x y:PyData)(xs ys:List PyData):∀k i,pq (pairEq (x::xs) (y::ys)) (Ly (x::xs) (y::ys)) k (i+1)=pq (pairEq xs ys) (Ly xs ys) k i
 |0,_=>rfl
 |k+1,i=>by
  show(if pairEq (x::xs) (y::ys) (i+1)then _ else Ly (x::xs) (y::ys) (i+1))=if pairEq xs ys i then _ else Ly xs ys i
  rw[vI x y xs ys k (i+1)]
  rfl
theorem rH:∀{xs ys:List PyData},pG xs ys->pq (pairEq xs ys) (Ly xs ys) xs.length 0=pT xs ys
 |_,_,.nil=>rfl
 |_,_,.cons (x:=x) (y:=y) (xs:=xs) (ys:=ys) c cs=>by
  show(if pairEq (x::xs) (y::ys) 0 then pq (pairEq (x::xs) (y::ys)) (Ly (x::xs) (y::ys)) xs.length (0+1)else Ly (x::xs) (y::ys) 0)=if PyData.eqv x y then pT xs ys else JM x y
  rw[vI,rH cs]
  rfl
theorem pG.length:∀{xs ys:List PyData},pG xs ys->xs.length=ys.length
 |_,_,.nil=>rfl
 |_,_,.cons _ cs=>congrArg (· +1) cs.length
mutual
theorem vJ:∀{da db:PyData},Bw da db-> ∀{A:Around}{s:Shared}{a b:Value}{as bs:List Addr},Reads s.heap a da as->Reads s.heap b db bs->da.canLay0=true->db.canLay0=true->
  A.units+min da.depth db.depth<cLine->pU A s a b (JM da db)
 |_,_,.int x y,A,s,_,_,_,_,ra,rb,_,_,_=>by
  cases ra
  cases rb
  exact pU.int_int x _ y _
 |_,_,.lst (xs:=xs) (ys:=ys) cs,A,s,_,_,_,_,ra,rb,ha,hb,hu=>by
  cases ra with
  | @list l o vs n _ as₁ h1 h2 h3 h4=>
   cases rb with
   | @list l' o' vs' n' _ bs₁ k1 k2 k3 k4=>
    have n1:vs.size=xs.length:=by simpa using ReadsAll.length _ _ _ h4
    have n2:vs'.size=ys.length:=by simpa using ReadsAll.length _ _ _ k4
    have hl:s.heap.IsList l vs:=⟨_,h1,h2,_,h3⟩
    have hl':s.heap.IsList l' vs':=⟨_,k1,k2,_,k3⟩
    have:=pU.lists (e:=pairEq xs ys) (f:=Ly xs ys) hl hl' (by rw[n1,n2,cs.length]) (room_here hu) (λj j1 j2=>by
     have:=eqAt_readsAll xs ys A.in1 s vs.toList vs'.toList _ _ h4 k4 ha hb (room_in hu) j (by simpa using j1) (by simpa using j2)
     simpa using this) (λj j1 j2 _=>by
     have:=lC (A:=A.in1) cs h4 k4 ha hb (room_in hu) j (by simpa using j1) (by simpa using j2)
     simpa using this)
    rw[n1,rH cs]at this
    exact this
theorem lC:∀{xs ys:List PyData},pG xs ys-> ∀{A:Around}{s:Shared}{vs ws:List Value}{as bs:List Addr},ReadsAll s.heap vs xs as->ReadsAll s.heap ws ys bs->PyData.canLayAll0 xs=true->PyData.canLayAll0 ys=true->
  A.units+min (PyData.depthAll xs) (PyData.depthAll ys)<cLine-> ∀j (h1:j<vs.length) (h2:j<ws.length),pU A s vs[j] ws[j] (Ly xs ys j)
 |_,_,.nil,_,_,_,_,_,_,ra,_,_,_,_,j,h1,_=>by cases ra;exact absurd h1 (Nat.not_lt_zero _)
 |_,_,.cons (x:=x) (y:=y) (xs:=xs) (ys:=ys) c cs,A,s,_,_,_,_,ra,rb,ha,hb,hu,j,h1,h2=>by
  have ha':x.canLay0=true/\PyData.canLayAll0 xs=true:=by simpa [PyData.canLayAll0]using ha
  have hb':y.canLay0=true/\PyData.canLayAll0 ys=true:=by simpa [PyData.canLayAll0]using hb
  cases ra with
  |cons r rs=>
   cases rb with
   |cons r' rs'=>
    cases j with
    |zero=>exact vJ c r r' ha'.1 hb'.1 (room_head hu)
    |succ j=>exact lC cs rs rs' ha'.2 hb'.2 (room_tail hu) j (Nat.lt_of_succ_lt_succ h1) (Nat.lt_of_succ_lt_succ h2)
end
section
variable{prog:Program}{w:World}{A:Around}{E:Value->Shared->Prop}{s:Shared}
theorem zM{l b:Addr}{its nY:Array Value}{e f:Nat->Bool}{Q:Value->Shared->Prop}(hl:s.heap.IsList l its)(hb:s.heap.IsList b nY)(hsz:its.size=nY.size)
  (he:∀j (h1:j<its.size) (h2:j<nY.size),EqAt A.in1 s its[j] nY[j] (e j))(hf:∀j (h1:j<its.size) (h2:j<nY.size),e j=false->pU A.in1 s its[j] nY[j] (f j))
  (h:Q (.bool (pq e f its.size 0)) s):wpAny (model prog w) A (call (.builtin "list.__lt__") [.ref l,.ref b]) Q E s:=by
 obtain⟨⟨cls,dd,data,sl⟩,ho,hc,n,hd⟩:=id hl
 obtain⟨⟨RK,dd2,data2,sl2⟩,ho2,hc2,n2,hd2⟩:=id hb
 simp only at hc hd hc2 hd2
 subst hc hd hc2 hd2
 exact call_meets F.slot_list_lt ⟨_,ho,rfl⟩ F.entry_list_lt (F.args_list_lt_2 _ _) (yw l b its nY n n2 dd dd2 sl sl2 hsz e f) ⟨ho,ho2,he,hf,h⟩
theorem tS{da db:PyData}(c:Bw da db){a b:Value}{as bs:List Addr}(ra:Reads s.heap a da as)(rb:Reads s.heap b db bs)(ha:da.canLay0=true)(hb:db.canLay0=true)
  (hu:A.units+min da.depth db.depth<cLine){Q:Bool->Shared->Prop}(h:Q (JM da db) s):wpAny (model prog w) A (oneLt' true a b) Q E s:=by
 cases c with
 |int x y=>
  cases ra
  cases rb
  exact oneLt_int h
 | @lst xs ys cs=>
  cases ra with
  | @list l o vs n _ as₁ h1 h2 h3 h4=>
   cases rb with
   | @list l' o' vs' n' _ bs₁ k1 k2 k3 k4=>
    have n1:vs.size=xs.length:=by simpa using ReadsAll.length _ _ _ h4
    have n2:vs'.size=ys.length:=by simpa using ReadsAll.length _ _ _ k4
    have hl:s.heap.IsList l vs:=⟨_,h1,h2,_,h3⟩
    have hl':s.heap.IsList l' vs':=⟨_,k1,k2,_,k3⟩
    rw[oneLt'_eq]
    simp only[if_true]
    refine wpAny_bind (wpAny_cRoomFor_or (.inr (room_here hu)) ?_)
    refine wpAny_bind (wpAny_callSpecialIfBound?_slot (T:= "list") (id:= "list.__lt__") ⟨o,h1,h2⟩ F.slot_list_lt (zM (e:=pairEq xs ys) (f:=Ly xs ys) hl hl' (by rw[n1,n2,cs.length]) (λj j1 j2=>by
     have:=eqAt_readsAll xs ys A.in1 s vs.toList vs'.toList _ _ h4 k4 ha hb (room_in hu) j (by simpa using j1) (by simpa using j2)
     simpa using this) (λj j1 j2 _=>by
     have:=lC (A:=A.in1) cs h4 k4 ha hb (room_in hu) j (by simpa using j1) (by simpa using j2)
     simpa using this) ?_))
    rw[n1,rH cs]
    exact wpAny_truthy_bool h
theorem Dr{da db:PyData}(c:Bw da db){a b:Value}{as bs:List Addr}(ra:Reads s.heap a da as)(rb:Reads s.heap b db bs)(ha:da.canLay0=true)(hb:db.canLay0=true)
  (hu:A.units+min da.depth db.depth<cLine)(k:Bool){Q:Bool->Shared->Prop}(h:Q (JM da db) s):wpAny (model prog w) A (oneLt' k a b) Q E s:=by
 cases k with
 |true=>exact tS c ra rb ha hb hu h
 |false=>
  refine PySem.W.kat_one a b (vJ c ra rb ha hb hu prog w E _ ?_)
  exact h
theorem yx{b:Bool}{Q:Bool->Shared->Prop}:∀{xs ys:List PyData},pG xs ys-> ∀{vs ws:List Value}{as bs:List Addr},ReadsAll s.heap vs xs as->ReadsAll s.heap ws ys bs->PyData.canLayAll0 xs=true->PyData.canLayAll0 ys=true->
  A.units+min (PyData.depthAll xs) (PyData.depthAll ys)<cLine-> ∀i,Q (pT xs ys) s->PySem.W.KatLex prog w A b false Q (vs.zip ws) i s
 |_,_,.nil,_,_,_,_,ra,rb,_,_,_,i,h=>by
  cases ra
  cases rb
  exact PySem.W.kat_nil h
 |_,_,.cons (x:=x) (y:=y) (xs:=xs) (ys:=ys) c cs,_,_,_,_,ra,rb,ha,hb,hu,i,h=>by
  have ha':x.canLay0=true/\PyData.canLayAll0 xs=true:=by simpa [PyData.canLayAll0]using ha
  have hb':y.canLay0=true/\PyData.canLayAll0 ys=true:=by simpa [PyData.canLayAll0]using hb
  cases ra with
  |cons r rs=>
   cases rb with
   |cons r' rs'=>
    refine PySem.W.kat_cons (eqAt_reads x y A s _ _ _ _ r r' ha'.1 hb'.1 (room_head hu) prog w _ _ ?_)
    have h':Q (if PyData.eqv x y then pT xs ys else JM x y) s:=h
    cases e:PyData.eqv x y with
    |true=>
     rw[e,if_pos rfl]at h'
     exact PySem.W.kat_yes (yx cs rs rs' ha'.2 hb'.2 (room_tail hu) (i+1) h')
    |false=>
     rw[e,if_neg (by simp)]at h'
     exact PySem.W.kat_no (Dr c r r' ha'.1 hb'.1 (room_head hu) _ h')
end
end L2
namespace L2
open PySem PySem.Spec PyProof.Rows PySem.SeqAt zK
section
variable{prog:Program}{w:World}{A:Around}{E:Value->Shared->Prop}{s:Shared}
structure zN(prog:Program)(w:World)(A:Around)(E:Value->Shared->Prop)(a:Addr)(vs:List Value)(κ:SortKind)(K:Keyed->Int)(s:Shared):Prop where
 kind:2<=vs.length-> ∀s':Shared,(∀b o,b≠a->s.heap.get? b=some o->s'.heap.get? b=some o) -> ∀Q:SortKind->Shared->Prop,Q κ s'->wpAny (model prog w) A (keyKind' vs.toArray) Q E s'
 lt:∀s':Shared,(∀b o,b≠a->s.heap.get? b=some o->s'.heap.get? b=some o) ->qI prog w A E s' κ K (λp=>p.1=p.2/\p.1∈vs)
theorem Bx{vs:List Value}{K:Keyed->Int}{xs:Array Keyed}(hp:xs.Perm (pairsOf vs))(hs:So K xs 0 vs.length):
  ((xs.map (·.2)).toList).Perm vs/\((xs.map (·.2)).toList).Pairwise λx y=>K (x,x)<=K (y,y):=by
 have hl:xs.toList.Perm (vs.zip vs):=by rw[<-pairsOf_toList];exact Array.perm_iff_toList_perm.mp hp
 have hm:∀p,p∈xs.toList->p.1=p.2/\p.1∈vs:=λp q=>mem_zip_self (hl.mem_iff.mp q)
 have len:xs.toList.length=vs.length:=by rw[hl.length_eq];simp
 constructor
 ·have:=hl.map Prod.snd
  rw[List.map_snd_zip (Nat.le_refl _)]at this
  simpa using this
 ·have h2:=(rG (K:=K) (a:=xs) (lo:=0) (n:=vs.length) (by rw[Nat.zero_add,<-len];exact Nat.le_of_eq (Array.length_toList ..))).mp hs
  have e:sl xs 0 vs.length=xs.toList:=by
   show(xs.toList.drop 0).take vs.length=_
   rw[List.drop_zero,List.take_of_length_le (by omega)]
  rw[e]at h2
  rw[Array.toList_map,List.pairwise_map]
  refine h2.imp_of_mem λ {p q} p1 q1 h=> ?_
  have ep:(p.2,p.2)=p:=Prod.ext (hm p p1).1.symm rfl
  have eq:(q.2,q.2)=q:=Prod.ext (hm q q1).1.symm rfl
  rw[ep,eq]
  exact h
theorem MN{a:Addr}{vs:List Value}{n:Nat}{P:PySem.Fin->Shared->Prop}{κ:SortKind}{K:Keyed->Int}(ho:s.heap.get? a=some (seqObj "list" vs.toArray n))(hz:vs.length<=sizeLine)
  (ask:zN prog w A E a vs κ K s)(h:∀out:List Value,out.Perm vs->out.Pairwise (λx y=>K (x,x)<=K (y,y)) ->P (.done (.ret .none)) {s with heap:=sortedHeap s.heap a vs out.toArray}):
  wpAny (model prog w) A (Builtin.«list.sort» ⟨[.ref a],[]⟩) P E s:=by
 rw[list_sort_plain]
 have la:a<s.heap.objs.size:=Heap.lt_size ho
 have fin:∀st':SortSt,(arrOf st').Perm (pairsOf vs) ->So K (arrOf st') 0 vs.length->P (.done (.ret .none)) {s with heap:=sortedHeap s.heap a vs ((arrOf st').map (·.2))}:=λst' hp hs=>by
  obtain⟨q1,q2⟩:=Bx hp hs
  have:=h _ q1 q2
  rwa [Array.toArray_toList]at this
 refine wpAny_bind (listItems_at ho rfl ?_)
 refine wpAny_bind (listUpdate_at ho rfl ?_ (by simpa using hz) (Nat.zero_le _))
 obtain⟨e1,Xe⟩:∃e1,(s.heap.update a (Obj.mapSeq λ_=> #[])).get? a=some (seqObj "list" #[] e1):=⟨_,get?_update_seq ho (λ_=> #[])⟩
 refine wpAny_bind (seqEpoch_at Xe rfl ?_)
 refine wpAny_bind (wpAny_newTuple ?_ (by simpa using hz))
 refine wpAny_bind (wpAny_newList ?_ (Nat.zero_le _))
 refine wpAny_holding ?_
 generalize hg:(((s.heap.update a (Obj.mapSeq λ_=> #[])).push (seqObj "tuple" vs.toArray 0)).push (seqObj "list" #[] 0))=l9
 have keep:∀b o,b≠a->s.heap.get? b=some o->l9.get? b=some o:=λb o hb e=>by
  rw[<-hg]
  refine Heap.get?_push_of_some _ (Heap.get?_push_of_some _ ?_)
  rw[Heap.get?_update_ne _ _ _ _ hb]
  exact e
 have ho6:l9.get? a=some (seqObj "list" #[] e1):=by
  rw[<-hg]
  exact Heap.get?_push_of_some _ (Heap.get?_push_of_some _ Xe)
 have sh:∀out,sortedHeap s.heap a vs out=l9.update a (Obj.mapSeq λ_=>out):=λout=>by rw[<-hg];rfl
 have szs:vs.toArray.size=vs.length:=by simp
 have bound:∀st':SortSt,(arrOf st').Perm (pairsOf vs) ->((arrOf st').map (·.2)).size<=sizeLine+1:=λst' hp=>by
  rw[Array.size_map,hp.size_eq,pairsOf_size]
  omega
 show wpAny (model prog w) A _ P E {s with heap:=l9}
 dsimp only
 by_cases h2:vs.toArray.size<2
 ·rw[if_pos h2,if_pos h2]
  refine wpAny_bind (wpAny_pure ?_)
  rw[StateT.run_pure]
  refine wpAny_bind (wpAny_pure ?_)
  dsimp only
  refine wpAny_bind (seqEpoch_at ho6 rfl ?_)
  refine wpAny_bind (listUpdate_at ho6 rfl ?_ (Nat.zero_le _) (bound (SortSt.mk' general' (pairsOf vs) #[] 7 none) (Array.Perm.refl _)))
  simp only[bne_self_eq_false,Bool.false_eq_true,if_false]
  have:=fin (SortSt.mk' general' (pairsOf vs) #[] 7 none) (Array.Perm.refl _) (λi j hij hj=>by
   have:i=j:=by omega
   subst this;exact Int.le_refl _)
  rw[sh]at this
  exact wpAny_pure this
 ·rw[if_neg h2,if_neg h2]
  refine wpAny_bind (ask.kind (by omega) {s with heap:=l9} keep _ ?_)
  have R:RI κ K (λp=>p.1=p.2/\p.1∈vs) (pairsOf vs) 0 (SortSt.mk' κ (pairsOf vs) #[] 7 none):=by
   refine⟨⟨rfl,rfl,λp hp=> ?_⟩,Array.Perm.refl _,rfl,Nat.zero_le _⟩
   have l9:p∈(pairsOf vs).toList:=hp
   rw[pairsOf_toList]at l9
   exact mem_zip_self l9
  refine wpAny_bind (wpAny_mono (PV (ask.lt {s with heap:=l9} keep) (Q:=λ_ st'=>(arrOf st').Perm (pairsOf vs)/\failedOf st'=none/\So K (arrOf st') 0 (pairsOf vs).size) R λst' a1 a2 a3=>⟨a1,a2,a3⟩) ?_ λ_ _ e=>e)
  rintro⟨⟨⟩,st'⟩ s' ⟨rfl,hp,hf,hs⟩
  dsimp only
  rw[pairsOf_size]at hs
  refine wpAny_bind (seqEpoch_at ho6 rfl ?_)
  refine wpAny_bind (listUpdate_at ho6 rfl ?_ (Nat.zero_le _) (bound st' hp))
  rw[hf]
  simp only[bne_self_eq_false,Bool.false_eq_true,if_false]
  have:=fin st' hp hs
  rw[sh]at this
  exact wpAny_pure this
theorem JN{l:Addr}{vs:List Value}{Q:Value->Shared->Prop}{κ:SortKind}{K:Keyed->Int}(hl:s.heap.IsList l vs.toArray)(hz:vs.length<=sizeLine)
  (ask:∀(a:Addr)(s':Shared),s.heap.objs.size<=a->(∀b o,s.heap.get? b=some o->s'.heap.get? b=some o) ->zN prog w A.in1.in1 E a vs κ K s')
  (h:∀out:List Value,out.Perm vs->out.Pairwise (λx y=>K (x,x)<=K (y,y)) ->Q (.ref (s.heap.objs.size+1)) {s with heap:=sortedAll s.heap vs out.toArray}):
  wpAny (model prog w) A (call (.builtin "sorted") [.ref l]) Q E s:=by
 refine Calls.call_function_entry kind_sorted plain_sorted entry_sorted (args_sorted1 _) ?_
 unfold Builtin.«sorted»
 refine wpAny_bind (m:=checkCount "sorted" 1 1 _) (wpAny_pure ?_)
 refine wpAny_bind (collect_list hl ?_ hz)
 refine wpAny_bind (wpAny_newList ?_ (by simpa using hz))
 have z1:((s.heap.push (seqObj "list" #[] 0)).update s.heap.objs.size (Obj.mapSeq (· ++vs.toArray))).objs.size=s.heap.objs.size+1:=by
  rw[Heap.size_update,size_push']
 generalize hg:((s.heap.push (seqObj "list" #[] 0)).update s.heap.objs.size (Obj.mapSeq (· ++vs.toArray)))=h1 at z1
 have keep:∀b o,s.heap.get? b=some o->(h1.push (seqObj "list" vs.toArray 0)).get? b=some o:=λb o e=>by
  have lb:=Heap.lt_size e
  refine Heap.get?_push_of_some _ ?_
  rw[<-hg,Heap.get?_update_ne _ _ _ _ (Nat.ne_of_lt lb)]
  exact Heap.get?_push_of_some _ e
 have OD:(h1.push (seqObj "list" vs.toArray 0)).get? (s.heap.objs.size+1)=some (seqObj "list" vs.toArray 0):=by
  rw[<-z1];exact Heap.get?_push_size _ rfl
 show wpAny _ _ _ _ _ {s with heap:=h1.push (seqObj "list" vs.toArray 0)}
 rw[z1]
 refine wpAny_bind (wpAny_holding (wpAny_call_entry slot_list_sort ⟨_,OD,rfl⟩ entry_list_sort (MN OD hz (ask _ _ (Nat.le_succ _) keep) λout a1 a2=>⟨_,rfl,?_⟩) (args_list_sort _)))
 refine wpAny_pure ⟨_,rfl,?_⟩
 have:=h out a1 a2
 unfold sortedAll at this
 rw[hg]at this
 exact this
end
noncomputable def Xf(rk:Addr->Int):Value->Int
 | .ref a=>rk a
 |_=>0
noncomputable def zO(K:PySem.W.Frag):List V->Hp->VK->Prop:=λxs H Q=> ∃(p:Addr)(as:List Addr)(rk:Addr->Int)(dt:Addr->PyData),xs=[.ref p]/\aU K H p (as.map V.ref)/\
 (∀a∈as,Ba K H (.ref a) (dt a)/\shaped (dt a)=true)/\
 ((∀a∈as,∀b∈as,Bw (dt a) (dt b)/\JM (dt a) (dt b)=decide (rk a<rk b))∨
  (∀a∈as,∀b∈as,∃i ds j es,dt a= .tuple (.int i::ds)/\dt b= .tuple (.int j::es)/\pG (.int i::ds) (.int j::es)/\pT (.int i::ds) (.int j::es)=decide (rk a<rk b)))/\
 ∀bs:List Addr,bs.Perm as->bs.Pairwise (λa b=>rk a<=rk b) -> ∀l,H l=none->Q (.ref l) (upd H l (.lst (bs.map V.ref)))
section
variable{prog:Program}{w:World}{A:Around}{E:Value->Shared->Prop}{s:Shared}
theorem zP{κ:SortKind}{K:Keyed->Int}{D:Keyed->Prop}(h:∀x y:Keyed,D x->D y-> ∀(E:Value->Shared->Prop) (Q:Bool->Shared->Prop),Q (decide (K x<K y)) s->wpAny (model prog w) A (keyLt' κ x.1 y.1) Q E s):qI prog w A E s κ K D:=by
 intro st x y Q hk hx hy hq
 rw[lt'_eq]
 refine wpS_bind (wpS_get ?_)
 rw[hk]
 refine wpS_bind (wpS_lift (wpAny_attempt (h x y hx hy _ _ ⟨rfl,?_⟩)))
 exact wpS_pure hq
theorem Fi:∀{as:List Addr}{us:List Value},Vals (as.map V.ref) us->us=as.map Value.ref
 | [],_,h=>by cases h;rfl
 |a::as,_,h=>by
  cases h with
  |cons r rs=>
   cases r
   rw[Fi rs]
   rfl
theorem Fj:∀as:List Addr,Vals (as.map V.ref) (as.map Value.ref)
 | []=> .nil
 |a::as=> .cons rfl (Fj as)
end
theorem ReadsAll.keeps'{h h':Heap}(hk:∀b o,h.get? b=some o->h'.get? b=some o){vs:List Value}{ds:List PyData}{as:List Addr}(r:ReadsAll h vs ds as):ReadsAll h' vs ds as:=by
 induction vs generalizing ds as with
 |nil=>cases r;exact .nil
 |cons v vs ih=>
  cases r with
  |cons r1 r2=>exact .cons (Reads.keeps hk r1) (ih r2)
section
variable{X:Cx}
theorem tT(hu:X.A.units+70<cLine):qC X (.builtin "sorted") (zO X.K):=by
 intro pins s σ H xs us Q I r h
 obtain⟨p,as,rk,dt,rfl,hq,hd,hc,q⟩:=h
 obtain⟨u,rfl,rx⟩:=vals1 r
 cases rx
 obtain⟨its,rv,pl,hz⟩:=I.list hq
 obtain rfl:=Fi rv
 have len:(as.map Value.ref).length=as.length:=List.length_map _
 rw[List.length_map]at hz
 have rd:∀a∈as,∃xs,Reads s.heap (.ref a) (dt a) xs:=λa ha=>lV I (hd a ha).1 rfl
 have old:∀{a:Addr}{s1 s2:Shared},s.heap.objs.size<=a->(∀b o,s.heap.get? b=some o->s1.heap.get? b=some o) ->(∀b o,b≠a->s1.heap.get? b=some o->s2.heap.get? b=some o) -> ∀b o,s.heap.get? b=some o->s2.heap.get? b=some o:=λh1 h2 h3 b o e=>
  h3 b o (Nat.ne_of_lt (Nat.lt_of_lt_of_le (Heap.lt_size e) h1)) (h2 b o e)
 have mem:∀{v:Value},v∈as.map Value.ref-> ∃a,a∈as/\v= .ref a:=λhv=>by
  obtain⟨a,ha,rfl⟩:=List.mem_map.mp hv
  exact⟨a,ha,rfl⟩
 have fin:∀κ:SortKind,(∀(a:Addr)(s':Shared),s.heap.objs.size<=a->(∀b o,s.heap.get? b=some o->s'.heap.get? b=some o) ->zN X.prog X.w X.A.in1.in1 X.xe a (as.map Value.ref) κ (λp=>Xf rk p.1) s') ->
   wpAny (model X.prog X.w) X.A (call (.builtin "sorted") [.ref p]) (EP X pins σ Q) X.xe s:=by
  intro κ ask
  refine JN (κ:=κ) (K:=λp=>Xf rk p.1) pl.isList (by rw[len];exact hz) ask λout hp hs=> ?_
  obtain⟨bs,rfl,pb⟩:∃bs:List Addr,out=bs.map Value.ref/\bs.Perm as:=by
   have g:∀v∈out,∃a,v=Value.ref a:=λv hv=>by
    obtain⟨a,_,e⟩:=mem (hp.mem_iff.mp hv)
    exact⟨a,e⟩
   have e:∀l:List Value,(∀v∈l,∃a,v=Value.ref a) ->l=(l.map λv=>match v with| .ref a=>a|_=>0).map Value.ref:=λl=>by
    induction l with
    |nil=>intro _;rfl
    |cons v l ih=>
     intro hl
     obtain⟨a,rfl⟩:=hl v List.mem_cons_self
     rw[List.map_cons,List.map_cons,<-ih λv hv=>hl v (List.mem_cons_of_mem _ hv)]
   refine⟨_,e out g,?_⟩
   have:=hp.map λv:Value=>match v with| .ref a=>a|_=>0
   rw[List.map_map]at this
   have e2:(as.map ((λv:Value=>match v with| .ref a=>a|_=>0) ∘ Value.ref))=as:=by
    conv=>rhs;rw[<-List.map_id as]
    rfl
   rwa [e2]at this
  have so:bs.Pairwise λa b=>rk a<=rk b:=by
   rw[List.pairwise_map]at hs
   exact hs
  have zb:bs.length<=sizeLine:=by rw[pb.length_eq];exact hz
  obtain⟨c,hc⟩:=sortedAll_at s.heap (as.map Value.ref) (bs.map Value.ref).toArray
  exact⟨.ref (s.heap.objs.size+1),_,I.laid (t':=s.toks) (λb o e=>sortedAll_old e) (Nat.le_succ _) (show f6 X.prog X.w _ _ _ (.lst (bs.map V.ref))from⟨by rw[List.length_map];exact zb,_,c,Fj bs,hc⟩),rfl,q bs pb so _ (I.hok.fresh (Nat.le_succ _))⟩
 rcases hc with hc|hc
 ·--lists
  refine fin oneType' λa s1 h1 h2=>⟨λ_ s2 h3 Q' hQ=> ?_,λs2 h3=>zP λx y hx hy E' Q' hQ=> ?_⟩
  ·refine PySem.W.kas_kind (T:= .type "list") (by rw[len]at *;omega) (λv hv=> ?_) (by decide+kernel) (by decide+kernel) hQ
   obtain⟨b,hb,rfl⟩:=mem hv
   obtain⟨cs,rb⟩:=rd b hb
   have cm:=(hc b hb b hb).1
   cases e:dt b with
   |list ds=>
    rw[e]at rb
    cases rb with
    | @list l o vs n _ as₁ k1 k2 k3 k4=>
     have:PySem.W.Looks (model X.prog X.w) s2.heap (typeOf (.ref b)) o.cls:=(PySem.W.Looks.ld (old h1 h2 h3 _ _ k1)).andThen PySem.W.Looks.now
     rw[k2]at this
     exact this
   |_=>rw[e]at cm;cases cm<;>(rw[e]at rb;cases rb)
  ·obtain⟨e1,m1⟩:=hx
   obtain⟨e2,m2⟩:=hy
   obtain⟨b,hb,eb⟩:=mem m1
   obtain⟨c,hc',ec⟩:=mem m2
   obtain⟨cs,rb⟩:=rd b hb
   obtain⟨ds,rc⟩:=rd c hc'
   rw[eb,ec,keyLt'_oneType]
   obtain⟨cm,lt⟩:=hc b hb c hc'
   refine tS cm (Reads.keeps (old h1 h2 h3) rb) (Reads.keeps (old h1 h2 h3) rc) (canLay_of_shaped (hd b hb).2) (canLay_of_shaped (hd c hc').2) (room_of_shaped (hd b hb).2 (show X.A.units+1+1+64<cLine by omega)) ?_
   rw[lt]
   rw[eb,ec]at hQ
   exact hQ
 ·--tuples
  refine fin (PyProof.Rows.tuples' true) λa s1 h1 h2=>⟨λl2 s2 h3 Q' hQ=> ?_,λs2 h3=>zP λx y hx hy E' Q' hQ=> ?_⟩
  ·have tp:∀v∈as.map Value.ref,∃b∈as,v= .ref b:=λv hv=>mem hv
   obtain⟨f,hf⟩:∃f:Addr->Value,∀b∈as,∃o ys n i t,s2.heap.get? b=some o/\o.cls= .type "tuple"/\o.data= .seq ys n/\ys[0]?=some (f b)/\f b= .int i t:=by
    refine⟨λb=>match s2.heap.get? b with|some ⟨_,_,.seq ys _,_⟩=>(ys[0]?).getD .none|_=> .none,λb hb=> ?_⟩
    obtain⟨i,ds,_,_,e,_⟩:=hc b hb b hb
    obtain⟨cs,rb⟩:=rd b hb
    rw[e]at rb
    cases rb with
    | @tuple l o vs n _ as₁ k1 k2 k3 k4=>
     have g:=old h1 h2 h3 _ _ k1
     obtain⟨cls,dd,data,sl⟩:=o
     simp only at k2 k3
     subst k2 k3
     obtain⟨vl⟩:=vs
     cases k4 with
     |cons r1 r2=>
      cases r1 with
      |int i t=>
       refine⟨_,_,n,i,t,g,rfl,rfl,?_,?_⟩
       ·dsimp only
        rw[g];rfl
       ·dsimp only
        rw[g];rfl
   refine PySem.W.kat_kind (fs:=as.map f) (T:= .type "int") (?_:PySem.W.KatTups s2.heap (as.map Value.ref) (as.map f)) (by rw[List.length_map];rw[len]at l2;omega) (λv hv=> ?_) (by decide+kernel) hQ
   ·clear hQ l2 mem tp fin rd hd hc rv pl hz len hq q
    induction as with
    |nil=>exact PySem.W.KatTups.nil
    |cons b as ih=>
     obtain⟨o,ys,n,i,t,k1,k2,k3,k4,k5⟩:=hf b List.mem_cons_self
     exact PySem.W.KatTups.cons k1 k2 k3 k4 (ih λc hc=>hf c (List.mem_cons_of_mem _ hc))
   ·obtain⟨b,hb,rfl⟩:=List.mem_map.mp hv
    obtain⟨o,ys,n,i,t,k1,k2,k3,k4,k5⟩:=hf b hb
    rw[k5]
    exact PySem.W.Looks.now
  ·obtain⟨e1,m1⟩:=hx
   obtain⟨e2,m2⟩:=hy
   obtain⟨b,hb,eb⟩:=mem m1
   obtain⟨c,hc',ec⟩:=mem m2
   obtain⟨cs,rb⟩:=rd b hb
   obtain⟨ds,rc⟩:=rd c hc'
   obtain⟨i,di,j,dj,t1,t2,cm,lt⟩:=hc b hb c hc'
   have sb:=hd b hb
   have sc:=hd c hc'
   rw[eb,ec]
   rw[eb,ec]at hQ
   rw[t1]at rb sb
   rw[t2]at rc sc
   cases rb with
   | @tuple l o vs n _ as₁ k1 k2 k3 k4=>
    cases rc with
    | @tuple l' o' vs' n' _ bs₁ g1 g2 g3 g4=>
     have n1:vs.size=(PyData.int i::di).length:=by simpa using ReadsAll.length _ _ _ k4
     have n2:vs'.size=(PyData.int j::dj).length:=by simpa using ReadsAll.length _ _ _ g4
     have ee:decide (vs.size<vs'.size)=false:=by
      rw[n1,n2,cm.length]
      exact decide_eq_false (Nat.lt_irrefl _)
     refine PySem.W.kat_lt (old h1 h2 h3 _ _ k1) k3 (old h1 h2 h3 _ _ g1) g3 ?_
     rw[ee]
     have ca:=canLay_of_shaped sb.2
     have cb:=canLay_of_shaped sc.2
     refine yx cm (ReadsAll.keeps' (old h1 h2 h3) k4) (ReadsAll.keeps' (old h1 h2 h3) g4) ca cb (room_in (room_of_shaped (A:=X.A.in1) (db:= .tuple (.int j::dj)) sb.2 (show X.A.units+1+64<cLine by omega))) 0 ?_
     rw[lt]
     exact hQ
end
end L2
namespace L2
open PySem PySem.Spec PyProof.Rows PySem.W PySem.Calls
noncomputable abbrev kn(o:Obj):HO:= .yY o (.ext λ_=>True)
theorem JO{P:Program}{w:World}{H:Hp}{h:Heap}{a:Addr}{o:Obj}(e:h.get? a=some o):f6 P w H h a (kn o):=⟨e,trivial,⟨o,e⟩,λ_ _ _ _=>trivial⟩
theorem vK{pos pos2:Pos}{c:Value}:∀{l:List Value},TriplesOk l-> ∀{cv:Value},codeAmong pos (l++ [rawInt pos2.line,rawInt pos2.col,c])=some cv->codeAmong pos l=some cv∨cv=c
 | [],_,cv,h=>by
  simp only[List.nil_append,rawInt,codeAmong]at h
  split at h
  ·exact .inr (Option.some.inj h).symm
  ·cases h
 | .int x t:: .int y u::d::r,ht,cv,h=>by
  simp only[List.cons_append,codeAmong]at h ⊢
  split at h
  ·rename_i q
   rw[if_pos q]
   exact .inl h
  ·rename_i q
   rw[if_neg q]
   exact vK (l:=r) ht h
theorem qL{pos:Pos}{c:Value}:∀{l:List Value},TriplesOk l->TriplesOk (l++ [rawInt pos.line,rawInt pos.col,c])
 | [],_=>trivial
 | .int _ _:: .int _ _::_::r,h=>qL (l:=r) h
structure By(X:Cx)(args:Arguments)(body:Expr)(sc:Scope)(H:Hp)(f:Addr):Prop where
 ex:∃(qual:Str)(pm ctv:Value)(c:Addr)(oc:Obj)(vs:Array Value)(q:Str)(t:Tok),
  H f=some (kn {cls:= .type "function",data:= .func (kla_fn "<lambda>" qual args body sc (cz X.env sc.names []) pm (.ref c) ctv)})/\H c=some (kn oc)/\oc.data= .fields vs/\vs[1]?=some (.str q t)
theorem By.same{X:Cx}{args:Arguments}{body:Expr}{sc:Scope}{H H':Hp}{f:Addr}(L:By X args body sc H f)(s:az H H'):By X args body sc H' f:=by
 obtain⟨qual,pm,ctv,c,oc,vs,q,t,e1,e2,e3,e4⟩:=L.ex
 exact⟨qual,pm,ctv,c,oc,vs,q,t,s _ _ e1,s _ _ e2,e3,e4⟩
section
variable{X:Cx}{pins:List (Addr×Obj)}{σ:St}{H:Hp}{s:Shared}{P:Addr}{args:Arguments}{body:Expr}{sc:Scope}{pos:Pos}{own N2:List Str}
theorem GJ(I:Inv X pins σ H s)(hcd:gP X.K X.env.code P)(hP:(H P).isSome=true):∃c,X.env.code= .ref c/\CodeHd s.heap c P:=by
 obtain⟨c,o,vs,file,tf,flags,tg,Pa,text,tt,ec,hc,hcl,hd,h11,RS,h7,h9,RT⟩:=hcd.ex
 have hcs:s.heap.get? c=some o:=I.x8 c o hc
 have hcn:H c=none:=(I.bs c o (I.ok.mod.LK c o hc)).2
 have ne:c≠P:=λe=>by rw[<-e,hcn]at hP;cases hP
 have Pb:vs.getD 11 .none= .ref P:=by
  have:vs.getD 11 .none=(vs[11]?).getD .none:=by simp
  rw[this,h11];rfl
 exact⟨c,ec,o,vs,file,tf,flags,tg,Pa,text,tt,hcs,hcl,hd,h11,Pb,RS,h7,h9,RT,ne⟩
theorem GK{Q:Value->Shared->Prop}{E:Value->Shared->Prop}{M:Model}{A:Around}(I:Inv X pins σ H s)(hcd:gP X.K X.env.code P)(hP:H P=some .AG)(bm:BM X.mg X.base)
  (Bk:qA sc.names X.env.scope.names own N2 X.N)(hdef:defaultsOf args X.env=([],[]))
  (h:∀f H' s',Inv X pins σ H' s'->az H H'->H f=none->By X args body sc H' f->Q (.ref f) s'):wpAny M A (eval (.Lambda args body sc pos) X.env) Q E s:=by
 obtain⟨c,ec,C⟩:=GJ I hcd (by rw[hP];rfl)
 obtain⟨ps,eP,tr,cs⟩:=I.hok P _ hP
 obtain⟨Ua,ob,b1,b2,b3,b4,b5,b6⟩:=bm
 have hg:s.heap.Ns mainGlobals X.mg:=by have:=I.mod.glob.keeps I.bk;exact this
 have hgP:mainGlobals≠P:=λq=>by
  obtain⟨o,es,ep,e,hd,_⟩:=hg
  rw[q,eP]at e;cases e;cases hd
 have YQ:Ua≠mainGlobals:=λq=>by
  obtain⟨o,es,ep,e,hd,_⟩:=I.mod.glob
  rw[q,e]at b3;cases b3;rw[hd]at b6;cases b6
 have YR:Ua≠P:=λq=>by
  have:=(I.bs _ _ b3).2
  rw[q,hP]at this;cases this
 have ba:s.heap.BuiltinsAt X.mg P:=⟨Ua,ob,b1,b2,YQ,YR,I.bk _ _ b3,b4,b5,b6⟩
 refine kla_eval hdef ?_
 cases q:codeAmong pos ps.toList with
 |some cv=>
  obtain⟨c',oc,vs,q',t',rfl,e2,e3,e4⟩:=cs pos cv q
  refine kla_makeFunctionHit (mg:=X.mg) (oJ I Bk) I.ok.glob hg ec C eP tr q ba λctv h' tk hk hsz=> ?_
  have I1:Inv X pins σ H {s with heap:=h',toks:=tk}:=I.kept hk
  have I2:=I1.laid (a:=h'.objs.size) (o:=kn {cls:= .type "function",data:= .func (kla_fn "<lambda>" (X.env.qual++ "<lambda>") args body sc (cz X.env sc.names []) ((X.mg "__name__").getD .none) (.ref c') ctv)}) (h':=h'.push _) (t':=tk) (λb o e=>Heap.get?_push_of_some _ e) (Nat.le_refl _) (JO (Heap.get?_push_size _ rfl))
  have fr:H h'.objs.size=none:=I1.hok.fresh (Nat.le_refl _)
  exact h _ _ _ I2 (az.up fr) fr ⟨_,_,_,c',oc,vs,q',t',ao,(az.up fr) _ _ e2,e3,e4⟩
 |none=>
  refine kla_makeFunction (mg:=X.mg) (oJ I Bk) I.ok.glob hg ec C eP tr q hgP ba λc' ctv h' tk hx hge hlt hrec htb=> ?_
  obtain⟨c2,oc,vs,t,e2,hoc,hd,hv⟩:=hrec
  cases e2
  have QN:H c'=none:=I.hok.fresh hge
  have nP:P≠c':=λz=>by rw[z,QN]at hP;cases hP
  have I1:Inv X pins σ (upd H c' (kn oc)) {s with heap:=h',toks:=tk}:=by
   have ne:∀{b u},H b=some u->b≠c':=λ {b u} e z=>by rw[z,QN]at e;cases e
   have Xg:∀{b},H b=none->b≠P:=λ {b} e z=>by rw[z,hP]at e;cases e
   refine I.un (t':=tk) ⟨λb o e n _ _=>hx b o (Xg n) e,λb o e n _ _=>⟨o.slots,hx b o (Xg n) e⟩,λb o e n _=>by rw[aG (Nat.ne_of_lt (Nat.lt_of_lt_of_le (Heap.lt_size e) hge))];exact n,λb o e _=> ?_,
    λb xs e=>by rw[aG (ne e)];exact e,λb o u e=>by rw[aG (ne e)];exact e,λb ps e=>⟨#[],by rw[aG (ne e),e];simp⟩⟩ (λb u e=> ?_)
   ·by_cases hb:b=P
    ·subst hb;exact⟨_,htb⟩
    ·exact⟨o,hx b o hb e⟩
   ·by_cases hb:b=c'
    ·subst hb
     rw[ao]at e
     cases e
     exact JO hoc
    ·rw[aG hb]at e
     by_cases hb2:b=P
     ·subst hb2
      rw[hP]at e
      cases e
      refine⟨_,htb,by simpa using qL tr,λpos2 cv e2=> ?_⟩
      have e3:codeAmong pos2 (ps.toList++ [rawInt pos.line,rawInt pos.col,.ref c'])=some cv:=by simpa using e2
      rcases vK tr e3 with z|z
      ·obtain⟨c3,YS,YT,q3,t3,f1,f2,f3,f4⟩:=cs pos2 cv z
       exact⟨c3,YS,YT,q3,t3,f1,by rw[aG (ne f2)];exact f2,f3,f4⟩
      ·exact⟨c',oc,vs,_,t,z,ao,hd,hv⟩
     ·refine(I.hok b u e).stay (λd v hc2 q2=>hx d v (λz=> ?_) q2) (λd q2=>by rw[aG (ne q2)];exact q2) (λd xs q2=>by rw[aG (ne q2)];exact q2) (λd ob xs q2=>by rw[aG (ne q2)];exact q2)
      subst z
      rcases hc2 with z|z
      ·exact hb2 z.symm
      ·rw[hP]at z;cases z
  have I2:=I1.laid (a:=h'.objs.size) (o:=kn (kla_obj "<lambda>" (X.env.qual++ "<lambda>") args body sc (cz X.env sc.names []) ((X.mg "__name__").getD .none) c' ctv)) (h':=h'.push _) (t':=tk) (λb o e=>Heap.get?_push_of_some _ e) (Nat.le_refl _) (JO (Heap.get?_push_size _ rfl))
  have RU:upd H c' (kn oc) h'.objs.size=none:=I1.hok.fresh (Nat.le_refl _)
  have yd:H h'.objs.size=none:=by
   have:=RU
   rwa [aG (Nat.ne_of_gt hlt)]at this
  exact h _ _ _ I2 ((az.up QN).trans (az.up RU)) yd ⟨_,_,_,c',oc,vs,_,t,ao,(az.up RU) _ _ ao,hd,hv⟩
end
section
variable{prog:Program}{w:World}{A:Around}{R:Result->Shared->Prop}{s:Shared}
theorem Ds{a:Addr}{ar:Args}{o:Obj}{fd:FuncData}{bd:Expr}{q:Str}(room:A.depth<recursionLimit)(ho:s.heap.get? a=some o)(hfd:o.data= .func fd)
  (co:fd.scope.isCoroutine=false)(gen:fd.scope.isGenerator=false)(hbd:fd.body= .expr bd)(cd:s.heap.CodeRec fd.code q)
  (h:wpAny (model prog w) A.in1 (bindArgs fd ar) (λbs s1=>
   wpAny (model prog w) A.in1 (newFunctionEnv fd.scope fd.globals fd.closure bs (q++ ".<locals>.") (some a) fd.code none fd.builtins)
    (λev s2=>s2.heap.NoLimit/\codeAny (model prog w) A (.expr bd ev) R s2) (λe s'=>R (.error e) s') s1) (λe s'=>R (.error e) s') s):
  codeAny (model prog w) A (.call (.ref a) ar) R s:=by
 refine codeAny_of_tree ?_
 show wpAny _ A.in1 (callAny (.ref a) ar) _ _ s
 simp only[callAny]
 refine wpAny_bind (wpAny_load ho ?_)
 obtain⟨c,oc,vs,tq,hc,hoc,hdc,hq⟩:=cd
 simp only[hfd,callFunction,co,gen,hbd,hc]
 rw[hc]at h
 refine wpAny_bind (m:=field (.ref c) 1) (wpAny_field hoc hdc hq (wpAny_bind (wpAny_pure ?_)))
 refine wpAny_bind (wpAny_mono h (λbs s1 h1=>wpAny_bind (wpAny_mono h1 (λev s2 h2=> ?_) λ_ _ e=>e)) λ_ _ e=>e)
 exact wpAny_bind (wpAny_enterFrame h2.1 room (wpAny_pure (And.intro rfl h2.2)))
end
noncomputable def Cx.lam(X:Cx)(B:Around)(sc:Scope)(N':List Str)(q:Str)(f:Addr)(cd:Value)(s:Shared)(H:Hp):Cx:=
 {X with
  N:=N'
  s₀:=s
  H₀:=H
  A:=B.deeper (envX q sc s.heap.objs.size f cd (cz X.env sc.names []))
  env:=envX q sc s.heap.objs.size f cd (cz X.env sc.names [])
  outer:=X.stack
  stack:=envX q sc s.heap.objs.size f cd (cz X.env sc.names [])::X.stack
  ex:=[]
  fn:=λ_=>false
  calm:=true
  pn:=[]
  xe:=λ_ _=>False}
section
variable{X:Cx}{pins:List (Addr×Obj)}{σ:St}{H:Hp}{s:Shared}{sc:Scope}{x:Str}{N2:List Str}{B:Around}{q:Str}{f:Addr}{cd:Value}
theorem MO{h':Heap}{tk:Nat}{v:V}{u:Value}(I:Inv X pins σ H s)(Bk:qA sc.names X.env.scope.names [x] N2 X.N)(hk:sc.kind= .function)(hnc:∀y∈sc.names,y.2≠ .cell)(hx:sc.names.lookup x=some .local)
  (hB:B.frames=some X.stack)(hh:B.handled=none)(hn:h'.Ns s.heap.objs.size (λy=>([(x,u)]:List (Str×Value)).reverse.lookup y))(keep:∀b o,s.heap.get? b=some o->h'.get? b=some o)(rv:RelV v u):
  Inv (X.lam B sc ([x]++N2) q f cd s H) [] (some v::σ) H {s with heap:=h',toks:=tk}:=by
 have jK:∀y c,(cz X.env sc.names []).lookup y=some c->(y,NameKind.free)∈sc.names/\X.env.cells.lookup y=some c:=λy c h=>by
  have h2:(cellsFrom 0 sc.names (cz X.env sc.names [])).lookup y=some c:=by rw[fJ hnc];exact h
  rcases jg I Bk (mem_of_lookup h2)with⟨_,z⟩|z
  ·exact absurd rfl (hnc _ z)
  ·exact z
 have HW:∀b:Addr,b∉(X.lam B sc ([x]++N2) q f cd s H).ex:=λb z=>absurd (show b∈([]:List Addr)from z) (by simp)
 have ok:(X.lam B sc ([x]++N2) q f cd s H).Ok:=by
  refine⟨I.ok.mod,hk,rfl,rfl,Nat.le_refl _,λy z c h1 h2=>I.ok.inj y z c (jK y c h1).2 (jK z c h2).2,λy hy=> ?_,λy c hy _=>absurd hy (by show ¬(false=true);decide),λ_=>hh,Around.frames_deeper hB,.inr ⟨rfl,rfl⟩,λb hb=>absurd hb (HW b),I.bs,Nat.le_trans I.ok.LL I.sz,λb _ _=>HW b,λb hb=>absurd hb (HW b),I.stack,I.uA⟩
  have hy':sc.names.lookup y=some .cell∨sc.names.lookup y=some .free:=hy
  rcases hy' with e|e
  ·exact absurd rfl (hnc _ (mem_of_lookup e))
  ·obtain⟨c,hc⟩:=j8 I Bk y (mem_of_lookup e)
   have:=mC (n:=0) I Bk (mem_of_lookup e) hc
   rw[fJ hnc]at this
   exact⟨c,this⟩
 refine⟨ok,rfl,.refl I.bare.bare,Un.kept keep,⟨_,hn,λi y w e1 e2 e3=> ?_⟩,λy c hc=> ?_,I.fresh,λy c hc=>I.nH y c (jK y c hc).2,λp hp=>absurd (show p∈([]:List (Addr×Obj))from hp) (by simp),I.hok.kept keep,?_⟩
 ·cases i with
  |zero=>
   have ey:x=y:=Option.some.inj e1
   have ew:v=w:=by
    have:some (some v)=some (some w):=e2
    cases this;rfl
   subst ey ew
   refine⟨u,rv,.inl ⟨hx,?_⟩⟩
   simp[List.lookup]
  |succ i=>
   have AW:N2[i]?=some y:=e1
   have IZ:σ[i]?=some (some w):=e2
   have hown:y∉([x]:List Str):=λhm=>by
    have nd:=Bk.Mc
    rw[List.nodup_append]at nd
    exact nd.2.2 y hm y (List.mem_of_getElem? AW) rfl
   refine zv I Bk (n:=0) AW IZ (fJ hnc).symm (λz hz=> .inr (cu Bk.nd hz)) (λhv=>let⟨k,e,_⟩:=oK hv;⟨k,e⟩) hown keep e3 (λk e=> ?_)
   obtain⟨k',e',hk'⟩:=oK e3
   have e4:sc.names.lookup y=some k':=e'
   rw[e]at e4;cases e4
   exact hk'
 ·obtain⟨w,z⟩:=I.cell y c (jK y c hc).2
  exact⟨w,z.keeps keep⟩
 ·show(some v::σ).length=([x]++N2).length
  rw[List.length_cons,I.len,<-Bk.len]
  rfl
theorem MP{args:Arguments}{body:Expr}{tb:TE}{v:V}{u:Value}{Q:VK}{E:Value->Shared->Prop}(I:Inv X pins σ H s)(L:By X args body sc H f)(Bk:qA sc.names X.env.scope.names [x] N2 X.N)
  (hk:sc.kind= .function)(hco:sc.isCoroutine=false)(hgen:sc.isGenerator=false)(hnc:∀y∈sc.names,y.2≠ .cell)(hx:sc.names.lookup x=some .local)
  (hbind:∀qual cl pm c ctv u,bindArgs (kla_fn "<lambda>" qual args body sc cl pm c ctv) ⟨[u],[]⟩=pure [(x,u)])(hB:B.frames=some X.stack)(hh:B.handled=none)(hroom:B.depth<recursionLimit)
  (hbody:∀q cd,PE (X.lam B sc ([x]++N2) q f cd s H) body tb)(rv:RelV v u)(h:tb (some v::σ) H Q):wpAny (model X.prog X.w) B (call (.ref f) [u]) (EP X pins σ Q) E s:=by
 obtain⟨qual,pm,ctv,c,oc,vs,q,t,e1,e2,e3,e4⟩:=L.ex
 obtain⟨g1,_⟩:s.heap.get? f=some _/\_:=I.hok f _ e1
 obtain⟨g2,_⟩:s.heap.get? c=some oc/\_:=I.hok c _ e2
 refine wpAny_call (Ds (q:=q) hroom g1 rfl hco hgen rfl ⟨c,oc,vs,t,rfl,g2,e3,e4⟩ ?_)
 rw[hbind]
 refine wpAny_pure (wpAny_newFunctionEnv hnc (λy hy=> ?_) (λh1 hns Xh=>⟨(I.ET).fresh _ Xh,?_⟩) hk)
 ·rw[List.mem_singleton.mp hy]
  exact hx
 have keep:∀b o,s.heap.get? b=some o->h1.get? b=some o:=λb o e=>Xh.extBut b o (Nat.ne_of_lt (Heap.lt_size e)) (Heap.get?_push_of_some _ e)
 have J:=MO (q:=q) (f:=f) (cd:= .ref c) (tk:=s.toks+1) I Bk hk hnc hx hB hh hns keep rv
 refine kla_codeExpr (wpAny_mono (hbody q (.ref c) [] _ _ H Q J h) (λu' s' hs=> ?_) λ_ _ z=>False.elim z)
 obtain⟨v',H',J',r',q'⟩:=hs
 have I':Inv X pins σ H' s':=I.Ig (ch:=[]) J'.os J'.base J'.hok J'.bare λb z=>nomatch z
 exact⟨v',H',I',r',q'⟩
end
end L2
namespace L2
open PySem PySem.Spec PyProof.Rows PySem.Calls zK
theorem yy{α β:Type}{f:α->β}:∀{m n:List β},m.Perm n-> ∀l:List α,n=l.map f-> ∃l':List α,l'.Perm l/\m=l'.map f:=by
 intro m n p
 induction p with
 |nil=>
  intro l e
  exact⟨l,.refl _,e⟩
 |cons x _ ih=>
  intro l e
  cases l with
  |nil=>cases e
  |cons a l=>
   injection e with e1 e2
   obtain⟨l',p',e'⟩:=ih l e2
   exact⟨a::l',p'.cons a,by rw[List.map_cons,e1,e']⟩
 |swap x y r=>
  intro l e
  match l,e with
  |a::b::l,e=>
   injection e with e1 e2
   injection e2 with e2 e3
   exact⟨b::a::l,List.Perm.swap _ _ _,by simp[e1,e2,e3]⟩
 |trans _ _ ih1 ih2=>
  intro l e
  obtain⟨l2,p2,e2⟩:=ih2 l e
  obtain⟨l1,p1,e1⟩:=ih1 l2 e2
  exact⟨l1,p1.trans p2,e1⟩
inductive qM(kf:V->Int):List V->List Value->List Value->Prop
 |nil:qM kf [] [] []
 |cons{y:V}{u:Value}{ys:List V}{us ks:List Value}(t:Tok)(r:RelV y u):qM kf ys us ks->qM kf (y::ys) (u::us) (.int (kf y) t::ks)
theorem qM.out{kf:V->Int}{ys:List V}{us ks:List Value}(h:qM kf ys us ks):∃tr:List (Keyed×V),ks.zip us=tr.map Prod.fst/\ys=tr.map Prod.snd/\ ∀t∈tr,RelV t.2 t.1.2/\ ∃k,t.1.1= .int (kf t.2) k:=by
 induction h with
 |nil=>exact⟨[],rfl,rfl,λt h=>nomatch h⟩
 | @cons y u ys us ks t r _ ih=>
  obtain⟨tr,e1,e2,h⟩:=ih
  refine⟨((.int (kf y) t,u),y)::tr,by rw[List.zip_cons_cons,e1];rfl,by rw[e2];rfl,λz hz=> ?_⟩
  rcases List.mem_cons.mp hz with rfl|hz
  ·exact⟨r,t,rfl⟩
  ·exact h z hz
theorem qM.ints{kf:V->Int}{ys:List V}{us ks:List Value}(h:qM kf ys us ks):IntsAre ks (ys.map kf):=by
 induction h with
 |nil=>exact .nil
 |cons t r _ ih=>exact .cons _ t ih
theorem qM.snoc{kf:V->Int}{ys:List V}{us ks:List Value}{y:V}{u:Value}(h:qM kf ys us ks)(t:Tok)(r:RelV y u):qM kf (ys++ [y]) (us++ [u]) (ks++ [.int (kf y) t]):=by
 induction h with
 |nil=>exact .cons t r .nil
 |cons t' r' _ ih=>exact .cons t' r' ih
section
variable{prog:Program}{w:World}{A:Around}{E:Value->Shared->Prop}{s:Shared}
theorem GL:qI prog w A E s oneType' (λp=>numOf p.1) (λp=> ∃n t,p.1= .int n t):=
 zP λx y hx hy E' Q hq=>by
  obtain⟨n,t,e1⟩:=hx
  obtain⟨m,u,e2⟩:=hy
  rw[keyLt'_oneType,e1,e2]
  rw[e1,e2]at hq
  exact oneLt_int hq
end
section
variable{X:Cx}{pins:List (Addr×Obj)}{σ:St}{H:Hp}{s:Shared}{B:Around}{a:Addr}{f:Value}{kf:V->Int}{ys:List V}{us:List Value}
theorem Vals.at{ys:List V}{us:List Value}(r:Vals ys us){j:Nat}{x:Value}(h:us[j]?=some x):∃v,ys[j]?=some v/\RelV v x:=by
 induction r generalizing j with
 |nil=>cases h
 |cons a _ ih=>
  cases j with
  |zero=>cases h;exact⟨_,rfl,a⟩
  |succ j=>exact ih h
noncomputable abbrev Fl(pins:List (Addr×Obj))(a:Addr)(e1:Nat)(kS:Addr)(ks:Array Value)(e:Nat):List (Addr×Obj):=pins++ [(a,seqObj "list" #[] e1),(kS,seqObj "list" ks e)]
theorem zQ{a:Addr}{o:Obj}(fa:fW X pins H a)(h:s.heap.get? a=some o)(hd:∀v,o.data≠ .cell v):s.heap.get? a=some o/\H a=none/\a≠X.env.locals/\a∉X.fs/\ ∀v,o.data≠ .cell v:=⟨h,fa.1,fa.2.1,fa.2.2.1,hd⟩
theorem yz{H':Hp}(fa:fW X pins H a)(h:H' a=none):fW X pins H' a:=⟨h,fa.2⟩
end
theorem JP{K:PySem.W.Frag}{H H':Hp}{a:Addr}{xs:List V}(h:aU K H a xs)(s:az H H'):aU K H' a xs:=by
 rcases h with h|h
 ·rcases h with h|⟨o,h⟩
  ·exact .inl (.inl (s _ _ h))
  ·exact .inl (.inr ⟨o,s _ _ h⟩)
 ·exact .inr h
noncomputable def SN(sc:Scope)(ks:List (Str×NameKind))(own N2 N:List Str):Bool:=
 AV sc.names ks own N2 N && (sc.kind== .function) && !sc.isCoroutine && !sc.isGenerator && sc.names.all (λy=>y.2 != .cell) && own.all (λx=>sc.names.lookup x==some NameKind.local)
section
variable{X:Cx}{P:Addr}{te tb:TE}{e body:Expr}{args:Arguments}{sc:Scope}{x:Str}{N2:List Str}{p pos JQ kpos:Pos}
theorem fS.Fo{k:Nat}{A:Around}(r:fS k A):A.units+70<cLine:=by have:=r.un;omega
theorem JR{k:Nat}{A:Around}{e:Env}(r:fS (k+3) A):fS k (A.in1.in1.deeper e):=r.in1.in1.deeper e
end
end L2
namespace L2
open PySem PySem.Spec PyProof.Rows
section
variable{X:Cx}
end
noncomputable def dP(H:Hp)(b:Addr):List Int:=match H b with
 |some (.lst xs)=>xs.map λv=>match v with| .int i=>i|_=>0
 |_=>[]
noncomputable def zR(H:Hp)(b:Addr):Prop:=H b=some (.lst [.int (aK (dP H b) 0),.int (aK (dP H b) 1),.int (aK (dP H b) 2)])/\(dP H b).length=3
theorem JS{H:Hp}{b:Addr}{x y z:Int}(e:H b=some (.lst [.int x,.int y,.int z])):zR H b/\dP H b=[x,y,z]:=by
 have h:dP H b=[x,y,z]:=by
  unfold dP
  rw[e]
  rfl
 refine⟨⟨?_,by rw[h];rfl⟩,h⟩
 rw[h,e]
 rfl
theorem zR.keep{H H':Hp}{b:Addr}(h:zR H b)(s:∀o,H b=some o->H' b=some o):zR H' b/\dP H' b=dP H b:=by
 have e:dP H' b=dP H b:=by
  have e1:=s _ h.1
  have e2:=h.1
  unfold dP at *
  rw[e1]
  conv=>rhs;rw[e2]
 exact⟨⟨by rw[e];exact s _ h.1,by rw[e];exact h.2⟩,e⟩
theorem yC{r:List Int}(h:r.length=3):r=[aK r 0,aK r 1,aK r 2]:=by
 match r,h with
 | [a,b,c],_=>rfl
noncomputable def f7(H:Hp)(as:List Addr):Prop:=∀b∈as,zR H b
noncomputable def rws(H:Hp)(as:List Addr):List (List Int):=as.map (dP H)
theorem f7.keep{H H':Hp}{as:List Addr}(h:f7 H as)(s:∀b∈as,∀o,H b=some o->H' b=some o):f7 H' as/\rws H' as=rws H as:=
 ⟨λb hb=>((h b hb).keep (s b hb)).1,List.map_congr_left λb hb=>((h b hb).keep (s b hb)).2⟩
theorem f7.same{H H':Hp}{as:List Addr}(h:f7 H as)(s:az H H'):f7 H' as/\rws H' as=rws H as:=h.keep λb _ o e=>s b o e
theorem MQ{H:Hp}{t:Addr}{as:List Addr}(ht:H t=some (.lst (as.map V.ref)))(h:f7 H as):Tab H t as (rws H as):=by
 refine⟨ht,?_⟩
 clear ht
 induction as with
 |nil=>exact .nil
 |cons b as ih=>
  refine .cons ?_ (ih λc hc=>h c (List.mem_cons_of_mem _ hc))
  have:=h b List.mem_cons_self
  rw[this.1]
  conv=>rhs;rw[yC this.2]
  rfl
theorem Dt(H:Hp)(as bs:List Addr):rws H (as++bs)=rws H as++rws H bs:=List.map_append
theorem GN{zs:List V}{as:List Addr}(p:zs.Perm (as.map V.ref)):∃bs:List Addr,zs=bs.map V.ref/\bs.Perm as:=by
 obtain⟨l,p',e⟩:=yy p as rfl
 exact⟨l,e,p'⟩
theorem BA{H:Hp}{b l:Addr}{as:List Addr}(h:zR H b)(e:H l=some (.lst (as.map V.ref))):b≠l:=by
 rintro rfl
 have e1:=h.1
 rw[e]at e1
 cases as with
 |nil=>cases e1
 |cons a as=>cases e1
noncomputable def fB(H:Hp)(bo:List Int->Bool):V->V
 | .ref d=> .bl (bo (dP H d))
 |_=> .gK
theorem MR{A B:List (List Int)}(ca:bE A)(cb:bE B)(h:∀i j,i<3->j<3->ent A i j=ent B i j):A=B:=by
 rw[mF ca,mF cb]
 exact gm h
theorem JT{J:It}{H1:Hp}{xs:List V}{σ:St}{te:TE}{Q:VK}(jw:JW J H1 xs)(hz:xs.length<=sizeLine){D:Addr}(hD:H1 D=none)(R:Nat->V->Hp->Prop)
  (mono:∀j v H H',R j v H->(∀b o,b≠D->H b=some o->H' b=some o) ->R j v H')
  (hs:∀j x,xs[j]?=some x-> ∀H' (Q':VK),az H1 H'->(∃o,H' D=some o) ->(∀v H2,az H' H2->R j v H2->Q' v H2) ->te (some x::σ) H' Q')
  (hq:∀vs H',az H1 H'->vs.length=xs.length->(∀j v,vs[j]?=some v->R j v H') ->H' D=some (.lst vs) ->Q (.ref D) H'):nQ 1 (dZ 0) te σ J H1 D Q:=by
 refine uG jw hz hD (λpre acc H'=> ∀j v,acc[j]?=some v->R j v H') (λj v e=>by simp at e) (λpre x post acc H' Q' e hl sm eD p k=> ?_) (λacc H' hl sm eD p=>hq acc H' sm hl p eD)
 refine hs pre.length x (by rw[e];simp) H' Q' sm ⟨_,eD⟩ λv H2 s2 r=>k v H2 s2 λj u eu=> ?_
 have off:∀b o,b≠D->H2 b=some o->upd H2 D (.lst (acc++ [v])) b=some o:=λb o n h=>by rw[aG n];exact h
 by_cases c:j<acc.length
 ·rw[List.getElem?_append_left c]at eu
  exact mono j u H' _ (p j u eu) λb o n h=>off b o n (s2 b o h)
 ·have:j=acc.length:=by
   have:=(List.getElem?_eq_some_iff.mp eu).1
   rw[List.length_append]at this
   simp at this
   omega
  subst this
  rw[List.getElem?_append_right (Nat.le_refl _)]at eu
  simp at eu
  subst eu
  rw[hl]
  exact mono _ v H2 _ r off
theorem GO{K:PySem.W.Frag}{J:It}{H1:Hp}{xs:List V}{σ:St}{te:TE}{Q:VK}(jw:JW J H1 xs)(hz:xs.length<=sizeLine){D:Addr}(hD:H1 D=none)(us vs:Nat->V)(items:∀j x,xs[j]?=some x-> ∃p,x= .ref p/\pI K H1 p [us j,vs j])(R:Nat->V->Hp->Prop)
  (mono:∀j v H H',R j v H->(∀b o,b≠D->H b=some o->H' b=some o) ->R j v H')
  (hs:∀j,j<xs.length-> ∀H' (Q':VK),az H1 H'->(∃o,H' D=some o) ->(∀v H2,az H' H2->R j v H2->Q' v H2) ->te (some (us j)::some (vs j)::σ) H' Q')
  (hq:∀ws H',az H1 H'->ws.length=xs.length->(∀j v,ws[j]?=some v->R j v H') ->H' D=some (.lst ws) ->Q (.ref D) H'):nQ 2 (g2 K) te σ J H1 D Q:=by
 refine⟨λi m acc σ' H'=>m=xs.length-i/\i<=xs.length/\acc.length=i/\(∃o o',σ'=o::o'::σ)/\az H1 H'/\H' D=some (.lst acc)/\ ∀j v,acc[j]?=some v->R j v H',⟨xs.length,rfl,Nat.zero_le _,rfl,⟨none,none,rfl⟩,az.up hD,ao,λj v e=>by simp at e⟩,?_⟩
 rintro i m acc σ' H' ⟨rfl,hi,hl,⟨o,o',rfl⟩,sm,eD,p⟩
 by_cases hlt:i<xs.length
 ·refine .inr ⟨jw.go i H' sm hlt,by omega,λx H2 y=> ?_⟩
  obtain⟨rfl,ex⟩:=jw.AD i H' x H2 sm hlt y
  obtain⟨T,rfl,hT⟩:=items i x ex
  refine⟨T,[us i,vs i],rfl,sm.YC hT,rfl,us i,[vs i],rfl,vs i,[],rfl,rfl,?_⟩
  show te (some (us i)::some (vs i)::σ) _ _
  refine hs i hlt H2 _ sm ⟨_,eD⟩ λv H4 s4 r=> ?_
  refine⟨s4 _ _ eD,xs.length- (i+1),by omega,rfl,hlt,by simp[hl],⟨_,_,rfl⟩,(sm.trans s4).upd hD,ao,λj u eu=> ?_⟩
  have off:∀b o,b≠D->H4 b=some o->upd H4 D (.lst (acc++ [v])) b=some o:=λb o n h=>by rw[aG n];exact h
  by_cases c:j<acc.length
  ·rw[List.getElem?_append_left c]at eu
   exact mono j u H2 _ (p j u eu) λb o n h=>off b o n (s4 b o h)
  ·have:j=acc.length:=by
    have:=(List.getElem?_eq_some_iff.mp eu).1
    rw[List.length_append]at this
    simp at this
    omega
   subst this
   rw[List.getElem?_append_right (Nat.le_refl _)]at eu
   simp at eu
   subst eu
   rw[hl]
   exact mono _ v H4 _ r off
 ·have e:i=xs.length:=by omega
  subst e
  exact .inl ⟨jw.stop H' sm,eD,hq acc H' sm hl p eD⟩
noncomputable def JU(m:List (List Int))(i:Nat)(σ:St)(H:Hp):Nat:=match σ[i]? with
 |some (some (.ref a))=>match H a with
  |some (.lst [.int x0,.int x1,.int x2])=>(ay m (aK [x0,x1,x2]) (aK [x0,x1,x2])).toNat
  |_=>0
 |_=>0
theorem rJ{m:List (List Int)}{i:Nat}{σ:St}{H:Hp}{a:Addr}{x:Nat->Int}(hs:σ[i]?=some (some (.ref a)))(h:bH H a x):JU m i σ H=(ay m x x).toNat:=by
 unfold JU
 have h:H a=some (.lst [.int (x 0),.int (x 1),.int (x 2)]):=h
 rw[hs]
 simp only[h]
 rw[d7 (m:=m) (x:=aK [x 0,x 1,x 2]) (y:=aK [x 0,x 1,x 2]) (x':=x) (y':=x) (λi hi=>by rcases aN hi with rfl|rfl|rfl<;>rfl) (λi hi=>by rcases aN hi with rfl|rfl|rfl<;>rfl)]
theorem ki(a:Int){b:Int}(h:0<b):(a/b).natAbs<=a.natAbs:=by
 have e:=Int.emod_add_mul_ediv a b
 have l:=Int.emod_nonneg a (show b≠0 by omega)
 have u:=Int.emod_lt_of_pos a h
 generalize a%b=r at e l u
 generalize a/b=q at e ⊢
 rcases Int.lt_or_le q 0 with z|z
 ·have:b*q<=1*q:=by
   have:=Int.mul_le_mul_of_nonpos_right (show(1:Int)<=b by omega) (Int.le_of_lt z)
   omega
  by_cases c:q= -1
  ·subst c
   omega
  ·have:b*(q+1)<=1*(q+1):=Int.mul_le_mul_of_nonpos_right (show(1:Int)<=b by omega) (by omega)
   have e2:b*(q+1)=b*q+b:=by grind
   omega
 ·have:1*q<=b*q:=Int.mul_le_mul_of_nonneg_right (show(1:Int)<=b by omega) z
  omega
noncomputable abbrev aQ(m:List (List Int))(x:Nat->Int):Int:=ay m x x
theorem MS{m:List (List Int)}(P:Dh m){x:Nat->Int}(h:¬(x 0=0/\x 1=0/\x 2=0)):0<aQ m x:=P x h
theorem eF{m:List (List Int)}(P:Dh m)(x:Nat->Int):0<=aQ m x:=by
 by_cases h:x 0=0/\x 1=0/\x 2=0
 ·have:aQ m x=0:=by
   show ay m x x=0
   rw[aV,h.1,h.2.1,h.2.2]
   grind
  (clear h;omega)
 ·exact Int.le_of_lt (P x h)
noncomputable def ji(y:Nat->Int)(q:Int)(x:Nat->Int):Nat->Int:=λi=>y i-q*x i
theorem yD{m:List (List Int)}(y:Nat->Int)(q:Int)(x z:Nat->Int):ay m (ji y q x) z=ay m y z-q*ay m x z:=by
 unfold ji
 rw[aV,aV,aV]
 grind
theorem gy{m:List (List Int)}(ev:bJ m)(y:Nat->Int)(q:Int)(x z:Nat->Int):ay m z (ji y q x)=ay m z y-q*ay m z x:=by
 rw[jW ev,yD,jW ev y,jW ev x]
theorem qN{m:List (List Int)}(ev:bJ m)(y:Nat->Int)(q:Int)(x:Nat->Int):aQ m (ji y q x)=aQ m y-2*q*ay m x y+q*q*aQ m x:=by
 show ay m _ _=_
 rw[yD,gy ev,gy ev,jW ev y x]
 grind
theorem rK{P A:Int}(h:0<A): -A<=2*(P- (2*P+A)/(2*A)*A)/\2*(P- (2*P+A)/(2*A)*A)<=A:=by
 have e:=Int.emod_add_mul_ediv (2*P+A) (2*A)
 have l:=Int.emod_nonneg (2*P+A) (show 2*A≠0 by omega)
 have u:=Int.emod_lt_of_pos (2*P+A) (show 0<2*A by omega)
 generalize(2*P+A)/(2*A)=q at e ⊢
 generalize(2*P+A)%(2*A)=r at e l u
 have e2:2*A*q=2*(q*A):=by grind
 rw[e2]at e
 omega
theorem Fp{A P q N:Int}(hA:0<=A)(h1: -A<=2*(P-q*A))(h2:2*(P-q*A)<=A):N-2*q*P+q*q*A<=N:=by
 obtain⟨e,he⟩:∃e,P-q*A=e:=⟨_,rfl⟩
 rw[he]at h1 h2
 have hP:P=q*A+e:=by omega
 rw[hP]
 have key:N-2*q*(q*A+e)+q*q*A=N- (q*q*A+q*(2*e)):=by grind
 rw[key]
 suffices 0<=q*q*A+q*(2*e)by omega
 rcases Int.lt_or_le 0 q with hq|hq
 ·have a1:q*(-A)<=q*(2*e):=Int.mul_le_mul_of_nonneg_left (by omega) (by omega)
  have a2:q*A<=q*(q*A):=Int.mul_le_mul_of_nonneg_left (by
   have:1*A<=q*A:=Int.mul_le_mul_of_nonneg_right (by omega) hA
   omega) (by omega)
  have e1:q*(-A)= -(q*A):=by grind
  have e2:q*(q*A)=q*q*A:=by grind
  omega
 ·have a1:(-q)*(2*e)<=(-q)*A:=Int.mul_le_mul_of_nonneg_left (by omega) (by(clear key hP he h1 h2 hA;omega))
  have e3:(-q)*(2*e)= -(q*(2*e)):=by grind
  rcases Int.lt_or_le q 0 with h|h
  ·have a2:(-q)*A<=(-q)*((-q)*A):=Int.mul_le_mul_of_nonneg_left (by
    have:1*A<=(-q)*A:=Int.mul_le_mul_of_nonneg_right (by omega) hA
    omega) (by omega)
   have e2:(-q)*((-q)*A)=q*q*A:=by grind
   omega
  ·have:q=0:=by omega
   subst this
   simp
noncomputable def nZ(s:Nat->Nat)(m:List (List Int)):List (List Int):=mk3 λi j=>ent m (s i) (s j)
theorem pV{m:List (List Int)}(hS:dH m=m)(ab:b8 m=true)(x:Nat->Int):aA m*(x 2*x 2)<=iN m 2 2*aQ m x:=by
 obtain⟨c1,c2,c3⟩:=gH ab
 have e:=Jw hS x
 have hm:iN m 2 2=ent m 0 0*ent m 1 1-ent m 0 1*ent m 0 1:=by
  show ent m 0 0*ent m 1 1-ent m 0 1*ent m 1 0=_
  rw[jd hS (i:=0) (j:=1) (by decide) (by decide)]
 rw[<-hm]at e
 have q1:=Int.mul_nonneg (show 0<=iN m 2 2 by omega) (bu (ent m 0 0*x 0+ent m 0 1*x 1+ent m 0 2*x 2))
 have q2:=bu (iN m 2 2*x 1+(ent m 0 0*ent m 1 2-ent m 0 1*ent m 0 2)*x 2)
 have e2:ent m 0 0*(aA m*(x 2*x 2))<=ent m 0 0*(iN m 2 2*aQ m x):=by
  have a1:ent m 0 0*(aA m*(x 2*x 2))=ent m 0 0*aA m*(x 2*x 2):=(Int.mul_assoc ..).symm
  have a2:ent m 0 0*(iN m 2 2*aQ m x)=ent m 0 0*iN m 2 2*ay m x x:=(Int.mul_assoc ..).symm
  omega
 exact Int.le_of_mul_le_mul_left e2 c1
theorem yE{m:List (List Int)}(ev:bJ m)(c:bE m)(ab:b8 m=true)(s:Nat->Nat)(hs:(s 0=2/\s 1=1/\s 2=0)∨(s 0=0/\s 1=2/\s 2=1))(x:Nat->Int):
  dH (nZ s m)=nZ s m/\b8 (nZ s m)=true/\aA (nZ s m)=aA m/\aQ (nZ s m) (λi=>x (s i))=aQ m x/\iN (nZ s m) 2 2=iN m (s 2) (s 2):=by
 have hS:=fG ev c
 have P:=jV hS ab
 have AF:ent m 1 0=ent m 0 1:=ev.sym.1
 have Fq:ent m 2 0=ent m 0 2:=ev.sym.2.1
 have Ft:ent m 2 1=ent m 1 2:=ev.sym.2.2
 have en:∀i j,i<3->j<3->ent (nZ s m) i j=ent m (s i) (s j):=λi j hi hj=>cZ _ hi hj
 have hN:∀y:Nat->Int,ay (nZ s m) (λi=>y (s i)) (λi=>y (s i))=ay m y y:=λy=>by
  rw[aV,aV,en 0 0 (by decide) (by decide),en 0 1 (by decide) (by decide),en 0 2 (by decide) (by decide),en 1 0 (by decide) (by decide),en 1 1 (by decide) (by decide),en 1 2 (by decide) (by decide),en 2 0 (by decide) (by decide),en 2 1 (by decide) (by decide),en 2 2 (by decide) (by decide)]
  rcases hs with⟨h0,h1,h2⟩|⟨h0,h1,h2⟩<;>rw[h0,h1,h2]<;>grind
 have ov:dH (nZ s m)=nZ s m:=MR (cP _) (cP _) λi j hi hj=>by
  rw[aX _ hi hj,en j i hj hi,en i j hi hj]
  rcases hs with⟨h0,h1,h2⟩|⟨h0,h1,h2⟩<;>rcases aN hi with rfl|rfl|rfl<;>rcases aN hj with rfl|rfl|rfl<;>simp only[h0,h1,h2,AF,Fq,Ft]
 have Pp:Dh (nZ s m):=λy n0=>by
  have e:=hN (λi=>y (s i))
  have back:∀i,i<3->s (s i)=i:=λi hi=>by
   rcases hs with⟨h0,h1,h2⟩|⟨h0,h1,h2⟩<;>rcases aN hi with rfl|rfl|rfl<;>simp only[h0,h1,h2]
  have e2:ay (nZ s m) y y=ay (nZ s m) (λi=>(λi=>y (s i)) (s i)) (λi=>(λi=>y (s i)) (s i)):=d7 (λi hi=>by show y i=y (s (s i));rw[back i hi]) (λi hi=>by show y i=y (s (s i));rw[back i hi])
  rw[e2,e]
  refine P _ λz=>n0 ?_
  rcases hs with⟨h0,h1,h2⟩|⟨h0,h1,h2⟩<;>rw[h0,h1,h2]at z<;>exact⟨by(clear h2 h1 h0 e2 back e n0 ov hN en Ft Fq AF hS ab;omega),by(clear h2 h1 h0 e2 back e n0 ov hN en Ft Fq AF hS ab;omega),by(clear h2 h1 h0 e2 back e n0 ov hN en Ft Fq AF hS ab;omega)⟩
 refine⟨ov,yq ov Pp,?_,hN x,?_⟩
 ·rw[dI,dI,en 0 0 (by decide) (by decide),en 0 1 (by decide) (by decide),en 0 2 (by decide) (by decide),en 1 0 (by decide) (by decide),en 1 1 (by decide) (by decide),en 1 2 (by decide) (by decide),en 2 0 (by decide) (by decide),en 2 1 (by decide) (by decide),en 2 2 (by decide) (by decide)]
  rcases hs with⟨h0,h1,h2⟩|⟨h0,h1,h2⟩<;>rw[h0,h1,h2]<;>grind
 ·show ent (nZ s m) 0 0*ent (nZ s m) 1 1-ent (nZ s m) 0 1*ent (nZ s m) 1 0=_
  rw[en 0 0 (by decide) (by decide),en 0 1 (by decide) (by decide),en 1 0 (by decide) (by decide),en 1 1 (by decide) (by decide)]
  unfold iN
  rcases hs with⟨h0,h1,h2⟩|⟨h0,h1,h2⟩<;>rw[h0,h1,h2]<;>simp only[Nat.reduceAdd,Nat.reduceMod]<;>grind
theorem yF{m:List (List Int)}(ev:bJ m)(c:bE m)(ab:b8 m=true)(x:Nat->Int){i:Nat}(hi:i<3):aA m*(x i*x i)<=iN m i i*aQ m x:=by
 rcases aN hi with rfl|rfl|rfl
 ·obtain⟨h1,h2,h3,h4,h5⟩:=yE ev c ab (λi=>2-i) (.inl ⟨rfl,rfl,rfl⟩) x
  have:=pV h1 h2 (λi=>x (2-i))
  rw[h3,h4,h5]at this
  exact this
 ·obtain⟨h1,h2,h3,h4,h5⟩:=yE ev c ab (λi=>if i=0 then 0 else 3-i) (.inr ⟨rfl,rfl,rfl⟩) x
  have:=pV h1 h2 (λi=>x (if i=0 then 0 else 3-i))
  rw[h3,h4,h5]at this
  exact this
 ·exact pV (fG ev c) ab x
theorem n9{m:List (List Int)}(ev:bJ m)(c:bE m)(ab:b8 m=true)(hB:Bd 440 m){x:Nat->Int}(hx:(aQ m x).natAbs<2^450){i:Nat}(hi:i<3):(x i).natAbs<2^666:=by
 have e:=yF ev c ab x hi
 have d1:=(gH ab).2.2
 have b1:=Fb hB i i
 have e2:x i*x i<=iN m i i*aQ m x:=by
  refine Int.le_trans ?_ e
  have:=Int.mul_le_mul_of_nonneg_right (show(1:Int)<=aA m by omega) (bu (x i))
  (clear b1 d1 e hi hx ab;omega)
 have b2:(iN m i i*aQ m x).natAbs<2^(881+450):=cH b1 hx
 have b3:(x i*x i).natAbs<2^1332:=by
  have:=bu (x i)
  refine Nat.lt_of_le_of_lt ?_ (aL b2 (show 881+450<=1332 by decide))
  (clear b1 d1 e hi hx ab;omega)
 rw[Int.natAbs_mul]at b3
 refine Nat.lt_of_not_le λz=> ?_
 have:=Nat.mul_le_mul z z
 rw[<-Nat.pow_add]at this
 omega
noncomputable def d8(x y t:Nat->Int):List (List Int):=mk3 λi j=>if i=0 then x j else if i=1 then y j else t j
noncomputable def bQ(x y t:Nat->Int):Int:=x 0*(y 1*t 2-y 2*t 1)+x 1*(y 2*t 0-y 0*t 2)+x 2*(y 0*t 1-y 1*t 0)
theorem GP(x y t:Nat->Int):aA (d8 x y t)=bQ x y t:=by
 rw[dI]
 show x 0*(y 1*t 2-y 2*t 1)+x 1*(y 2*t 0-y 0*t 2)+x 2*(y 0*t 1-y 1*t 0)=_
 rfl
theorem GQ(x y t:Nat->Int):bQ y x t= -bQ x y t:=by unfold bQ;grind
theorem Du(x y t:Nat->Int)(q:Int):bQ x (ji y q x) t=bQ x y t:=by unfold bQ ji;grind
theorem pW(x y t:Nat->Int)(i j:Int):bQ x y (ji (ji t i x) j y)=bQ x y t:=by unfold bQ ji;grind
theorem Dv{x:Nat->Int}(h:x 0=0/\x 1=0/\x 2=0)(y t:Nat->Int):bQ x y t=0:=by unfold bQ;rw[h.1,h.2.1,h.2.2];grind
structure ic(m:List (List Int))(x y x' y':Nat->Int):Prop where
 det:∃e:Int,(e=1∨e= -1)/\ ∀t,bQ x' y' t=e*bQ x y t
 sum:aQ m x'+aQ m y'<=aQ m x+aQ m y
theorem ic.refl(m:List (List Int))(x y:Nat->Int):ic m x y x y:=⟨⟨1,.inl rfl,λt=>by rw[Int.one_mul]⟩,Int.le_refl _⟩
theorem ic.trans{m:List (List Int)}{x y x1 y1 x2 y2:Nat->Int}(a:ic m x y x1 y1)(b:ic m x1 y1 x2 y2):ic m x y x2 y2:=by
 obtain⟨e,he,h⟩:=a.det
 obtain⟨f,hf,k⟩:=b.det
 refine⟨⟨f*e,?_,λt=>by rw[k,h,Int.mul_assoc]⟩,Int.le_trans b.sum a.sum⟩
 rcases he with rfl|rfl<;>rcases hf with rfl|rfl<;>simp
theorem ic.swap{m:List (List Int)}{x y x' y':Nat->Int}(a:ic m x y x' y'):ic m x y y' x':=by
 obtain⟨e,he,h⟩:=a.det
 refine⟨⟨-e,by omega,λt=>by rw[GQ,h];grind⟩,by have:=a.sum;omega⟩
theorem ic.less{m:List (List Int)}(ev:bJ m){x y:Nat->Int}(h:0<aQ m x):ic m x y x (ji y ((2*ay m x y+aQ m x)/(2*aQ m x)) x):=by
 obtain⟨h1,h2⟩:=rK (P:=ay m x y) h
 refine⟨⟨1,.inl rfl,λt=>by rw[Du,Int.one_mul]⟩,?_⟩
 rw[qN ev]
 have:=Fp (N:=aQ m y) (Int.le_of_lt h) h1 h2
 omega
theorem JV{m:List (List Int)}(ev:bJ m){x y:Nat->Int}(h:0<aQ m x):aQ m (ji y ((2*ay m x y+aQ m x)/(2*aQ m x)) x)<=aQ m y:=by
 obtain⟨h1,h2⟩:=rK (P:=ay m x y) h
 rw[qN ev]
 exact Fp (N:=aQ m y) (Int.le_of_lt h) h1 h2
theorem GR{m:List (List Int)}(ev:bJ m){x y:Nat->Int}(h:0<aQ m x): -(aQ m x)<=2*ay m x (ji y ((2*ay m x y+aQ m x)/(2*aQ m x)) x)/\2*ay m x (ji y ((2*ay m x y+aQ m x)/(2*aQ m x)) x)<=aQ m x:=by
 rw[gy ev]
 exact rK h
structure mJ(m:List (List Int))(x y:Nat->Int):Prop where
 pos:0<aQ m x
 le:aQ m x<=aQ m y
 lo: -(aQ m x)<=2*ay m x y
 hi:2*ay m x y<=aQ m x
theorem lZ{a b:Int}(h1: -b<=a)(h2:a<=b):a*a<=b*b:=by
 have hb:0<=b:=by omega
 rcases Int.le_total 0 a with h|h
 ·exact Int.mul_le_mul h2 h2 h hb
 ·have:(-a)*(-a)<=b*b:=Int.mul_le_mul (by omega) (by omega) (by omega) hb
  have e:(-a)*(-a)=a*a:=by grind
  omega
theorem mJ.zS{m:List (List Int)}{x y:Nat->Int}(h:mJ m x y):3*(aQ m x*aQ m y)<=4*(aQ m x*aQ m y-ay m x y*ay m x y)/\0<aQ m x*aQ m y-ay m x y*ay m x y:=by
 have s:=lZ h.lo h.hi
 have l:aQ m x*aQ m x<=aQ m x*aQ m y:=Int.mul_le_mul_of_nonneg_left h.le (Int.le_of_lt h.pos)
 have p:=Int.mul_pos h.pos h.pos
 have e:2*ay m x y*(2*ay m x y)=4*(ay m x y*ay m x y):=by grind
 omega
theorem VF{m:List (List Int)}(ev:bJ m)(x y t:Nat->Int):
  (aQ m x*aQ m y-ay m x y*ay m x y)*aQ m t=aA m*(bQ x y t*bQ x y t)+(aQ m x*(ay m y t*ay m y t) -2*(ay m x y*(ay m x t*ay m y t))+aQ m y*(ay m x t*ay m x t)):=by
 have AF:ent m 1 0=ent m 0 1:=ev.sym.1
 have Fq:ent m 2 0=ent m 0 2:=ev.sym.2.1
 have Ft:ent m 2 1=ent m 1 2:=ev.sym.2.2
 show(ay m x x*ay m y y-_)*ay m t t=_*_+(ay m x x*_-_+ay m y y*_)
 rw[dI]
 unfold bQ
 simp only[aV,AF,Fq,Ft]
 generalize ent m 0 0=a,ent m 0 1=p,ent m 0 2=q,ent m 1 1=b,ent m 1 2=r,ent m 2 2=c
 generalize x 0=x0,x 1=x1,x 2=x2,y 0=y0,y 1=y1,y 2=y2,t 0=t0,t 1=t1,t 2=t2
 grind
end L2
set_option maxHeartbeats 4000000
namespace L2
open PySem
theorem uI{a p d X Y:Int}(ha:0<=a)(h1: -a<=2*p)(h2:2*p<=a)(hX:d<=X)(l1: -X<=Y)(l2:Y<=X):0<=a*(2*X-d)+2*p*Y:=by
 have k1:0<=(a+2*p)*(X+Y):=Int.mul_nonneg (by omega) (by omega)
 have k2:0<=(a-2*p)*(X-Y):=Int.mul_nonneg (by omega) (by omega)
 have k3:0<=a*(X-d):=Int.mul_nonneg ha (by omega)
 have e:2*(a*(2*X-d)+2*p*Y)=(a+2*p)*(X+Y)+(a-2*p)*(X-Y)+2*(a*(X-d)):=by grind
 omega
noncomputable def gq(a p b c u v i j:Int):Int:=c-2*(i*u) -2*(j*v)+a*(i*i)+2*(p*(i*j))+b*(j*j)
theorem VG{a p b c u v i j S R:Int}(eS:S=b*u-p*v)(eR:R=a*v-p*u):(a*b-p*p)*(gq a p b c u v i j-gq a p b c u v (i-1) j)=a*(2*((a*b-p*p)*i-S) - (a*b-p*p))+2*p*((a*b-p*p)*j-R):=by
 subst eS eR
 unfold gq
 grind
theorem VH{a p b c u v i j S R:Int}(eS:S=b*u-p*v)(eR:R=a*v-p*u):(a*b-p*p)*(gq a p b c u v i j-gq a p b c u v i (j-1))=b*(2*((a*b-p*p)*j-R) - (a*b-p*p))+2*p*((a*b-p*p)*i-S):=by
 subst eS eR
 unfold gq
 grind
theorem jO{D x y:Int}(D0:0<D)(h:0<=D*(x-y)):y<=x:=by
 refine Classical.byContradiction λc=> ?_
 have:D*(x-y)<0:=Int.mul_neg_of_pos_of_neg D0 (by omega)
 omega
noncomputable def mz(i:Int):Nat:=(2*i-1).natAbs
theorem PY(i:Int):0<mz i:=by unfold mz;omega
theorem JX{i:Int}(h:2<=i):mz (i-1)<mz i:=by unfold mz;omega
theorem JY{i:Int}(h:i<= -1):mz (i+1)<mz i:=by unfold mz;omega
theorem Fv{a p b c u v S R:Int}(a0:0<a)(ab:a<=b)(h1: -a<=2*p)(h2:2*p<=a)(eS:S=b*u-p*v)(eR:R=a*v-p*u)(D0:0<a*b-p*p)(s0:0<=S)(s1:S<a*b-p*p)(r0:0<=R)(r1:R<a*b-p*p):
  ∀(n:Nat)(i j:Int),mz i+mz j<=n-> ∃i' j',(i'=0∨i'=1)/\(j'=0∨j'=1)/\gq a p b c u v i' j'<=gq a p b c u v i j
 |0,i,j,h=>absurd h (by have:=PY i;omega)
 |n+1,i,j,h=>by
  obtain⟨D,eD⟩:∃D,D=a*b-p*p:=⟨_,rfl⟩
  have gi:=λi j=>VG (i:=i) (j:=j) (c:=c) eS eR
  have gj:=λi j=>VH (i:=i) (j:=j) (c:=c) eS eR
  rw[<-eD]at D0 s1 r1 gi gj
  have gQ:=Fv (c:=c) a0 ab h1 h2 eS eR (eD▸D0) s0 (eD▸s1) r0 (eD▸r1) n
  obtain⟨X,eX⟩:∃X,X=D*i-S:=⟨_,rfl⟩
  obtain⟨Y,eY⟩:∃Y,Y=D*j-R:=⟨_,rfl⟩
  have i2:2<=i->D<=X:=λh=>by
   have:=Int.mul_le_mul_of_nonneg_left h (Int.le_of_lt D0)
   omega
  have i1:i<= -1->D<= -X:=λh=>by
   have:=Int.mul_le_mul_of_nonneg_left h (Int.le_of_lt D0)
   omega
  have j2:2<=j->D<=Y:=λh=>by
   have:=Int.mul_le_mul_of_nonneg_left h (Int.le_of_lt D0)
   omega
  have j1:j<= -1->D<= -Y:=λh=>by
   have:=Int.mul_le_mul_of_nonneg_left h (Int.le_of_lt D0)
   omega
  have ii:(i=0∨i=1) -> -D<=X/\X<=D:=λh=>by rcases h with rfl|rfl<;>simp at eX<;>(clear i1 i2 h j1 j2 eY gQ gj gi D0 r1 r0 eR h2 h1 ab a0;omega)
  have jj:(j=0∨j=1) -> -D<=Y/\Y<=D:=λh=>by rcases h with rfl|rfl<;>simp at eY<;>(clear j1 j2 h ii i1 i2 eX gQ gj gi D0 s1 s0 eS h2 h1 ab a0;omega)
  have tU:(2<=i/\ -X<=Y/\Y<=X) ->gq a p b c u v (i-1) j<=gq a p b c u v i j:=λ ⟨k,l1,l2⟩=>by
   refine jO D0 ?_
   rw[gi i j,<-eX,<-eY]
   exact uI (Int.le_of_lt a0) h1 h2 (i2 k) l1 l2
  have jk:(i<= -1/\X<=Y/\Y<= -X) ->gq a p b c u v (i+1) j<=gq a p b c u v i j:=λ ⟨k,l1,l2⟩=>by
   refine jO D0 ?_
   have g:=gi (i+1) j
   rw[show i+1-1=i by omega,<-eY]at g
   have s:=uI (d:=D) (X:= -X) (Y:= -Y) (Int.le_of_lt a0) h1 h2 (i1 k) (by omega) (by omega)
   have e:D*(gq a p b c u v i j-gq a p b c u v (i+1) j)=a*(2* -X-D)+2*p* -Y:=by
    have:D*(gq a p b c u v i j-gq a p b c u v (i+1) j)= -(D*(gq a p b c u v (i+1) j-gq a p b c u v i j)):=by grind
    rw[this,g,eX]
    grind
   rw[e]
   exact s
  have rL:(2<=j/\ -Y<=X/\X<=Y) ->gq a p b c u v i (j-1)<=gq a p b c u v i j:=λ ⟨k,l1,l2⟩=>by
   refine jO D0 ?_
   rw[gj i j,<-eX,<-eY]
   exact uI (by omega) (by omega) (by omega) (j2 k) l1 l2
  have iV:(j<= -1/\Y<=X/\X<= -Y) ->gq a p b c u v i (j+1)<=gq a p b c u v i j:=λ ⟨k,l1,l2⟩=>by
   refine jO D0 ?_
   have g:=gj i (j+1)
   rw[show j+1-1=j by omega,<-eX]at g
   have s:=uI (a:=b) (p:=p) (d:=D) (X:= -Y) (Y:= -X) (by omega) (by omega) (by omega) (j1 k) (by omega) (by omega)
   have e:D*(gq a p b c u v i j-gq a p b c u v i (j+1))=b*(2* -Y-D)+2*p* -X:=by
    have:D*(gq a p b c u v i j-gq a p b c u v i (j+1))= -(D*(gq a p b c u v i (j+1) -gq a p b c u v i j)):=by grind
    rw[this,g,eY]
    grind
   rw[e]
   exact s
  by_cases ci:i=0∨i=1
  ·by_cases cj:j=0∨j=1
   ·exact⟨i,j,ci,cj,Int.le_refl _⟩
   ·have:=ii ci
    rcases Int.lt_or_le 1 j with k|k
    ·obtain⟨i',j',q1,q2,q3⟩:=gQ i (j-1) (by have:=JX (show 2<=j by omega);omega)
     exact⟨i',j',q1,q2,Int.le_trans q3 (rL ⟨by omega,by have:=j2 (by omega);(clear q3 q2 q1 k cj ci iV rL jk tU jj ii j1 j2 i1 i2 eY eX gQ gj gi D0 s1 r1 h r0 s0 eR eS h2 h1 ab a0;omega),by have:=j2 (by omega);(clear q3 q2 q1 k cj ci iV rL jk tU jj ii j1 j2 i1 i2 eY eX gQ gj gi D0 s1 r1 h r0 s0 eR eS h2 h1 ab a0;omega)⟩)⟩
    ·obtain⟨i',j',q1,q2,q3⟩:=gQ i (j+1) (by have:=JY (show j<= -1 by omega);omega)
     exact⟨i',j',q1,q2,Int.le_trans q3 (iV ⟨by(clear q3 this ci iV rL jk tU jj ii j1 j2 i1 i2 eY eX gQ gj gi eD D0 s1 r1 h r0 s0 eR eS h2 h1 ab a0;omega),by have:=j1 (by(clear q3 this ci iV rL jk tU jj ii j1 j2 i1 i2 eY eX gQ gj gi eD D0 s1 r1 h r0 s0 eR eS h2 h1 ab a0;omega));(clear q3 q2 q1 k cj ci iV rL jk tU jj ii j1 j2 i1 i2 eY eX gQ gj gi D0 s1 r1 h r0 s0 eR eS h2 h1 ab a0;omega),by have:=j1 (by(clear q3 this ci iV rL jk tU jj ii j1 j2 i1 i2 eY eX gQ gj gi eD D0 s1 r1 h r0 s0 eR eS h2 h1 ab a0;omega));(clear q3 q2 q1 k cj ci iV rL jk tU jj ii j1 j2 i1 i2 eY eX gQ gj gi D0 s1 r1 h r0 s0 eR eS h2 h1 ab a0;omega)⟩)⟩
  ·--i is to be moved,or j where it is Uh off
   have xi:D<=X∨D<= -X:=by
    rcases Int.lt_or_le 1 i with k|k
    ·exact .inl (i2 (by omega))
    ·exact .inr (i1 (by(clear iV rL jk tU jj ii j1 j2 i1 i2 eY eX gQ gj gi eD D0 s1 r1 h r0 s0 eR eS h2 h1 ab a0;omega)))
   have PZ:(2<=i/\ -X<=Y/\Y<=X)∨(i<= -1/\X<=Y/\Y<= -X)∨(2<=j/\ -Y<=X/\X<=Y)∨(j<= -1/\Y<=X/\X<= -Y):=by
    have hi:2<=i∨i<= -1:=by(clear iV rL jk tU jj ii j1 j2 i1 i2 eY eX gQ gj gi eD D0 s1 r1 h r0 s0 eR eS h2 h1 ab a0;omega)
    have hj:(j=0∨j=1)∨2<=j∨j<= -1:=by omega
    rcases hi with hi|hi
    ·have:=i2 hi
     rcases hj with hj|hj|hj
     ·have:=jj hj
      exact .inl ⟨hi,by(clear hj hi xi ci iV rL jk tU jj ii j1 j2 i1 i2 eY eX gQ gj gi D0 s1 r1 h r0 s0 eR eS h2 h1 ab a0;omega),by(clear hj hi xi ci iV rL jk tU jj ii j1 j2 i1 i2 eY eX gQ gj gi D0 s1 r1 h r0 s0 eR eS h2 h1 ab a0;omega)⟩
     ·have:=j2 hj
      rcases Int.le_total X Y with w|w
      ·exact .inr (.inr (.inl ⟨hj,by(clear w hj hi xi ci iV rL jk tU jj ii j1 j2 i1 i2 eX gQ gj gi D0 s1 h s0 eS h2 h1 ab a0;omega),w⟩))
      ·exact .inl ⟨hi,by(clear hj hi xi ci iV rL jk tU jj ii j1 j2 i1 i2 eX gQ gj gi D0 s1 h s0 eS h2 h1 ab a0;omega),w⟩
     ·have:=j1 hj
      rcases Int.le_total X (-Y)with w|w
      ·exact .inr (.inr (.inr ⟨hj,by(clear w hj hi xi ci iV rL jk tU jj ii j1 j2 i1 i2 eX gQ gj gi D0 s1 h s0 eS h2 h1 ab a0;omega),w⟩))
      ·exact .inl ⟨hi,by omega,by(clear hj hi xi ci iV rL jk tU jj ii j1 j2 i1 i2 eX gQ gj gi D0 s1 h s0 eS h2 h1 ab a0;omega)⟩
    ·have:=i1 hi
     rcases hj with hj|hj|hj
     ·have:=jj hj
      exact .inr (.inl ⟨hi,by(clear hj hi xi ci iV rL jk tU jj ii j1 j2 i1 i2 eY eX gQ gj gi D0 s1 r1 h r0 s0 eR eS h2 h1 ab a0;omega),by(clear hj hi xi ci iV rL jk tU jj ii j1 j2 i1 i2 eY eX gQ gj gi D0 s1 r1 h r0 s0 eR eS h2 h1 ab a0;omega)⟩)
     ·have:=j2 hj
      rcases Int.le_total (-X) Y with w|w
      ·exact .inr (.inr (.inl ⟨hj,by omega,by(clear w hj hi xi ci iV rL jk tU jj ii j1 j2 i1 i2 eX gQ gj gi D0 s1 h s0 eS h2 h1 ab a0;omega)⟩))
      ·exact .inr (.inl ⟨hi,by(clear hj hi xi ci iV rL jk tU jj ii j1 j2 i1 i2 eX gQ gj gi D0 s1 h s0 eS h2 h1 ab a0;omega),w⟩)
     ·have:=j1 hj
      rcases Int.le_total (-X) (-Y)with w|w
      ·exact .inr (.inr (.inr ⟨hj,by omega,by(clear w hj hi xi ci iV rL jk tU jj ii j1 j2 i1 i2 eX gQ gj gi D0 s1 h s0 eS h2 h1 ab a0;omega)⟩))
      ·exact .inr (.inl ⟨hi,by omega,by(clear hj hi xi ci iV rL jk tU jj ii j1 j2 i1 i2 eX gQ gj gi D0 s1 h s0 eS h2 h1 ab a0;omega)⟩)
   rcases PZ with w|w|w|w
   ·obtain⟨i',j',q1,q2,q3⟩:=gQ (i-1) j (by have:=JX w.1;(clear w xi ci iV rL jk tU jj ii j1 j2 i1 i2 eY eX gQ gj gi eD D0 s1 r1 r0 s0 eR eS h2 h1 ab a0;omega))
    exact⟨i',j',q1,q2,Int.le_trans q3 (tU w)⟩
   ·obtain⟨i',j',q1,q2,q3⟩:=gQ (i+1) j (by have:=JY w.1;(clear w xi ci iV rL jk tU jj ii j1 j2 i1 i2 eY eX gQ gj gi eD D0 s1 r1 r0 s0 eR eS h2 h1 ab a0;omega))
    exact⟨i',j',q1,q2,Int.le_trans q3 (jk w)⟩
   ·obtain⟨i',j',q1,q2,q3⟩:=gQ i (j-1) (by have:=JX w.1;(clear w xi ci iV rL jk tU jj ii j1 j2 i1 i2 eY eX gQ gj gi eD D0 s1 r1 r0 s0 eR eS h2 h1 ab a0;omega))
    exact⟨i',j',q1,q2,Int.le_trans q3 (rL w)⟩
   ·obtain⟨i',j',q1,q2,q3⟩:=gQ i (j+1) (by have:=JY w.1;(clear w xi ci iV rL jk tU jj ii j1 j2 i1 i2 eY eX gQ gj gi eD D0 s1 r1 r0 s0 eR eS h2 h1 ab a0;omega))
    exact⟨i',j',q1,q2,Int.le_trans q3 (iV w)⟩
end L2
namespace L2
open PySem PySem.Spec PyProof.Rows
noncomputable def bK(m:List (List Int))(x y t:Nat->Int):Int:=aQ m y*ay m x t-ay m x y*ay m y t
noncomputable def bL(m:List (List Int))(x y t:Nat->Int):Int:=aQ m x*ay m y t-ay m x y*ay m x t
noncomputable abbrev av(m:List (List Int))(x y:Nat->Int):Int:=aQ m x*aQ m y-ay m x y*ay m x y
noncomputable abbrev bZ(t:Nat->Int)(i:Int)(x:Nat->Int)(j:Int)(y:Nat->Int):Nat->Int:=ji (ji t i x) j y
theorem rM{m:List (List Int)}(ev:bJ m)(x y t:Nat->Int)(i j:Int):bK m x y (bZ t i x j y)=bK m x y t-i*av m x y/\bL m x y (bZ t i x j y)=bL m x y t-j*av m x y:=by
 unfold bK bL bZ av
 rw[gy ev,gy ev,gy ev,gy ev,jW ev y x]
 constructor<;>grind
theorem rN{m:List (List Int)}(ev:bJ m)(x y t:Nat->Int):av m x y*(av m x y*aQ m t)=av m x y*(aA m*(bQ x y t*bQ x y t))+(aQ m x*(bK m x y t*bK m x y t)+2*(ay m x y*(bK m x y t*bL m x y t))+aQ m y*(bL m x y t*bL m x y t)):=by
 have g:=VF ev x y t
 show av m x y*((aQ m x*aQ m y-ay m x y*ay m x y)*aQ m t)=_
 rw[g]
 unfold bK bL av
 generalize aQ m x=A,aQ m y=B,ay m x y=P,ay m x t=u,ay m y t=v
 generalize aA m*(bQ x y t*bQ x y t)=D
 grind
theorem GU(m:List (List Int))(x y t:Nat->Int):av m x y*ay m x t=aQ m x*bK m x y t+ay m x y*bL m x y t/\av m x y*ay m y t=ay m x y*bK m x y t+aQ m y*bL m x y t:=by
 unfold bK bL av
 constructor<;>grind
structure Drawn(m:List (List Int))(x y t t':Nat->Int):Prop where
 det:bQ x y t'=bQ x y t
 le:aQ m t'<=aQ m t∨True
 s: -(av m x y)<=bK m x y t'/\bK m x y t'<=av m x y
 r: -(av m x y)<=bL m x y t'/\bL m x y t'<=av m x y
 few:4*(av m x y*aQ m t')<=4*(aA m*(bQ x y t*bQ x y t))+3*(av m x y*aQ m y)
 QS:∀I J:Int,aQ m t'<=aQ m (bZ t' I x J y)
theorem Fw{A B P s r d:Int}(hA:0<=A)(hB:0<=B)(h1: -A<=2*P)(h2:2*P<=A)(s1: -d<=2*s)(s2:2*s<=d)(r1: -d<=2*r)(r2:2*r<=d):4*(A*(s*s)+2*(P*(s*r))+B*(r*r))<=(2*A+B)*(d*d):=by
 have hd:0<=d:=by omega
 have ss:=lZ s1 s2
 have rr:=lZ r1 r2
 have e1:2*s*(2*s)=4*(s*s):=by grind
 have e2:2*r*(2*r)=4*(r*r):=by grind
 rw[e1]at ss
 rw[e2]at rr
 have sr:2*P*(2*s*(2*r))<=A*(d*d):=by
  have ab:∀a b c e:Int,-c<=a->a<=c-> -e<=b->b<=e->a*b<=c*e:=λa b c e h1 h2 h3 h4=>by
   have k1:=Int.mul_nonneg (show 0<=c-a by omega) (show 0<=e+b by omega)
   have k2:=Int.mul_nonneg (show 0<=c+a by omega) (show 0<=e-b by omega)
   have e3:(c-a)*(e+b)+(c+a)*(e-b)=2*(c*e) -2*(a*b):=by grind
   omega
  have Oe:∀a b c e:Int,-c<=a->a<=c-> -e<=b->b<=e-> -(c*e)<=a*b:=λa b c e h1 h2 h3 h4=>by
   have:=ab (-a) b c e (by omega) (by omega) h3 h4
   have e3: -a*b= -(a*b):=by grind
   omega
  exact ab _ _ _ _ h1 h2 (Oe _ _ _ _ s1 s2 r1 r2) (ab _ _ _ _ s1 s2 r1 r2)
 have f1:=Int.mul_le_mul_of_nonneg_left ss hA
 have f2:=Int.mul_le_mul_of_nonneg_left rr hB
 have e3:4*(A*(s*s)+2*(P*(s*r))+B*(r*r))=A*(4*(s*s))+2*P*(2*s*(2*r))+B*(4*(r*r)):=by grind
 have e4:(2*A+B)*(d*d)=A*(d*d)+A*(d*d)+B*(d*d):=by grind
 (clear e2 e1 rr ss hd r2 r1 s2 s1 h2 h1 hB hA;omega)
theorem JZ{m:List (List Int)}(ev:bJ m)(x y t:Nat->Int)(i j:Int):aQ m (bZ t i x j y)=gq (aQ m x) (ay m x y) (aQ m y) (aQ m t) (ay m x t) (ay m y t) i j:=by
 unfold bZ gq
 rw[qN ev,qN ev,gy ev,jW ev y x]
 grind
theorem rP(t x y:Nat->Int)(i j I J:Int):bZ (bZ t i x j y) I x J y=bZ t (i+I) x (j+J) y:=by
 funext k
 show t k-i*x k-j*y k-I*x k-J*y k=t k- (i+I)*x k- (j+J)*y k
 grind
theorem Qa{m:List (List Int)}(ev:bJ m){x y t:Nat->Int}(h:mJ m x y){i j:Int}
  (least:∀i' j',(i'=bK m x y t/av m x y∨i'=bK m x y t/av m x y+1) ->(j'=bL m x y t/av m x y∨j'=bL m x y t/av m x y+1) ->aQ m (bZ t i x j y)<=aQ m (bZ t i' x j' y)):∀I J:Int,aQ m (bZ t i x j y)<=aQ m (bZ (bZ t i x j y) I x J y):=λI J=>by
 obtain⟨_,ap⟩:=h.zS
 have vM:0<av m x y:=ap
 obtain⟨i0,ei⟩:∃i0,i0=bK m x y t/av m x y:=⟨_,rfl⟩
 obtain⟨j0,ej⟩:∃j0,j0=bL m x y t/av m x y:=⟨_,rfl⟩
 rw[<-ei,<-ej]at least
 have fl:=rM ev x y t i0 j0
 have sS:bK m x y (bZ t i0 x j0 y)=bK m x y t%av m x y:=by
  rw[fl.1,ei,Int.emod_def,Int.mul_comm]
 have sR:bL m x y (bZ t i0 x j0 y)=bL m x y t%av m x y:=by
  rw[fl.2,ej,Int.emod_def,Int.mul_comm]
 have s0:=Int.emod_nonneg (bK m x y t) (show av m x y≠0 by omega)
 have s1:=Int.emod_lt_of_pos (bK m x y t) vM
 have r0:=Int.emod_nonneg (bL m x y t) (show av m x y≠0 by omega)
 have r1:=Int.emod_lt_of_pos (bL m x y t) vM
 obtain⟨i',j',q1,q2,q3⟩:=Fv (c:=aQ m (bZ t i0 x j0 y)) h.pos h.le h.lo h.hi (u:=ay m x (bZ t i0 x j0 y)) (v:=ay m y (bZ t i0 x j0 y)) (S:=bK m x y t%av m x y) (R:=bL m x y t%av m x y) sS.symm sR.symm vM s0 s1 r0 r1 _ (i+I-i0) (j+J-j0) (Nat.le_refl _)
 rw[<-JZ ev,<-JZ ev,rP,rP,show i0+(i+I-i0)=i+I by omega,show j0+(j+J-j0)=j+J by omega]at q3
 rw[rP]
 exact Int.le_trans (least (i0+i') (j0+j') (by(clear q3 r1 r0 s1 s0 sR sS fl ej least ei vM ap;omega)) (by(clear q3 q1 r1 r0 s1 s0 sR sS fl ej least ei vM ap;omega))) q3
theorem Ka{m:List (List Int)}(ev:bJ m){x y t:Nat->Int}(h:mJ m x y){i j:Int}(i0:i=bK m x y t/av m x y∨i=bK m x y t/av m x y+1)(j0:j=bL m x y t/av m x y∨j=bL m x y t/av m x y+1)
  (least:∀i' j',(i'=bK m x y t/av m x y∨i'=bK m x y t/av m x y+1) ->(j'=bL m x y t/av m x y∨j'=bL m x y t/av m x y+1) ->aQ m (bZ t i x j y)<=aQ m (bZ t i' x j' y)):Drawn m x y t (bZ t i x j y):=by
 obtain⟨_,ap⟩:=h.zS
 have fl:=rM ev x y t
 have em:=λz:Int=>Int.emod_add_mul_ediv z (av m x y)
 have lo:=λz:Int=>Int.emod_nonneg z (show av m x y≠0 by show aQ m x*aQ m y-ay m x y*ay m x y≠0;omega)
 have up:=λz:Int=>Int.emod_lt_of_pos z (show 0<av m x y from ap)
 have vM:0<av m x y:=ap
 have near:∀{z k:Int},(k=z/av m x y∨k=z/av m x y+1) -> -(av m x y)<=z-k*av m x y/\z-k*av m x y<=av m x y:=λ {z k} hk=>by
  have e:=em z
  have l:=lo z
  have u:=up z
  rcases hk with rfl|rfl
  ·generalize av m x y=d at e l u ⊢
   have e2:z/d*d=d*(z/d):=Int.mul_comm ..
   omega
  ·generalize av m x y=d at e l u ⊢
   have e2:(z/d+1)*d=d*(z/d)+d:=by rw[Int.add_mul,Int.one_mul,Int.mul_comm]
   omega
 have half:∀z:Int,∃k,(k=z/av m x y∨k=z/av m x y+1)/\ -(av m x y)<=2*(z-k*av m x y)/\2*(z-k*av m x y)<=av m x y:=λz=>by
  have e:=em z
  have l:=lo z
  have u:=up z
  by_cases c:2*(z%av m x y)<=av m x y
  ·refine⟨_,.inl rfl,?_⟩
   generalize av m x y=d at e l u c ⊢
   have e2:z/d*d=d*(z/d):=Int.mul_comm ..
   omega
  ·refine⟨_,.inr rfl,?_⟩
   generalize av m x y=d at e l u c ⊢
   have e2:(z/d+1)*d=d*(z/d)+d:=by rw[Int.add_mul,Int.one_mul,Int.mul_comm]
   omega
 have hn:=near i0
 have hr:=near j0
 refine⟨pW _ _ _ _ _,.inr trivial,by rw[(fl i j).1];exact hn,by rw[(fl i j).2];exact hr,?_,Qa ev h least⟩
 obtain⟨i1,hi1,s1,s2⟩:=half (bK m x y t)
 obtain⟨j1,hj1,r1,r2⟩:=half (bL m x y t)
 have best:=least i1 j1 hi1 hj1
 rw[<- (fl i1 j1).1]at s1 s2
 rw[<- (fl i1 j1).2]at r1 r2
 have g:=rN ev x y (bZ t i1 x j1 y)
 have dt:bQ x y (bZ t i1 x j1 y)=bQ x y t:=pW _ _ _ _ _
 rw[dt]at g
 have q:=Fw (Int.le_of_lt h.pos) (Int.le_trans (Int.le_of_lt h.pos) h.le) h.lo h.hi s1 s2 r1 r2
 have xr:2*aQ m x+aQ m y<=3*aQ m y:=by have:=h.le;omega
 have q2:=Int.mul_le_mul_of_nonneg_right xr (bu (av m x y))
 have Xi:=Int.mul_le_mul_of_nonneg_left best (Int.le_of_lt vM)
 generalize aQ m x*(bK m x y (bZ t i1 x j1 y)*bK m x y (bZ t i1 x j1 y))+2*(ay m x y*(bK m x y (bZ t i1 x j1 y)*bL m x y (bZ t i1 x j1 y)))+aQ m y*(bL m x y (bZ t i1 x j1 y)*bL m x y (bZ t i1 x j1 y))=qq at g q
 have fin:av m x y*(4*(av m x y*aQ m (bZ t i1 x j1 y)))<=av m x y*(4*(aA m*(bQ x y t*bQ x y t))+3*(av m x y*aQ m y)):=by
  have e1:av m x y*(4*(av m x y*aQ m (bZ t i1 x j1 y)))=4*(av m x y*(av m x y*aQ m (bZ t i1 x j1 y))):=by grind
  have e2:av m x y*(4*(aA m*(bQ x y t*bQ x y t))+3*(av m x y*aQ m y))=4*(av m x y*(aA m*(bQ x y t*bQ x y t)))+3*aQ m y*(av m x y*av m x y):=by grind
  rw[e1,e2,g]
  omega
 have:=Int.le_of_mul_le_mul_left fin vM
 omega
theorem GV{m:List (List Int)}(ev:bJ m){x y t:Nat->Int}(h:mJ m x y){i j:Int}(i0:i=bK m x y t/av m x y∨i=bK m x y t/av m x y+1)(j0:j=bL m x y t/av m x y∨j=bL m x y t/av m x y+1)(D0:0<=aA m):
  aQ m (bZ t i x j y)<=aA m*(bQ x y t*bQ x y t)+3*aQ m y:=by
 obtain⟨_,ap⟩:=h.zS
 have fl:=rM ev x y t
 have vM:0<av m x y:=ap
 have near:∀{z k:Int},(k=z/av m x y∨k=z/av m x y+1) -> -(2*av m x y)<=2*(z-k*av m x y)/\2*(z-k*av m x y)<=2*av m x y:=λ {z k} hk=>by
  have e:=Int.emod_add_mul_ediv z (av m x y)
  have l:=Int.emod_nonneg z (show av m x y≠0 by omega)
  have u:=Int.emod_lt_of_pos z vM
  rcases hk with rfl|rfl
  ·generalize av m x y=d at e l u ⊢
   have e2:z/d*d=d*(z/d):=Int.mul_comm ..
   omega
  ·generalize av m x y=d at e l u ⊢
   have e2:(z/d+1)*d=d*(z/d)+d:=by rw[Int.add_mul,Int.one_mul,Int.mul_comm]
   omega
 have s:=near i0
 have r:=near j0
 rw[<- (fl i j).1]at s
 rw[<- (fl i j).2]at r
 have g:=rN ev x y (bZ t i x j y)
 have dt:bQ x y (bZ t i x j y)=bQ x y t:=pW _ _ _ _ _
 rw[dt]at g
 have q:=Fw (Int.le_of_lt h.pos) (Int.le_trans (Int.le_of_lt h.pos) h.le) h.lo h.hi s.1 s.2 r.1 r.2
 generalize aQ m x*(bK m x y (bZ t i x j y)*bK m x y (bZ t i x j y))+2*(ay m x y*(bK m x y (bZ t i x j y)*bL m x y (bZ t i x j y)))+aQ m y*(bL m x y (bZ t i x j y)*bL m x y (bZ t i x j y))=qq at g q
 have xr:2*aQ m x+aQ m y<=3*aQ m y:=by have:=h.le;omega
 have q2:=Int.mul_le_mul_of_nonneg_right xr (bu (av m x y))
 have DD:=Int.mul_nonneg D0 (bu (bQ x y t))
 generalize aA m*(bQ x y t*bQ x y t)=dd at g DD ⊢
 have e3:(2*aQ m x+aQ m y)*(2*av m x y*(2*av m x y))=4*((2*aQ m x+aQ m y)*(av m x y*av m x y)):=by grind
 rw[e3]at q
 have fin:av m x y*(av m x y*aQ m (bZ t i x j y))<=av m x y*(av m x y*(dd+3*aQ m y)):=by
  rw[g]
  have e1:av m x y*(av m x y*(dd+3*aQ m y))=av m x y*(av m x y*dd)+3*aQ m y*(av m x y*av m x y):=by grind
  have m1:av m x y*dd<=av m x y*(av m x y*dd):=Int.mul_le_mul_of_nonneg_left (by
   have:=Int.mul_le_mul_of_nonneg_right (show(1:Int)<=av m x y by omega) DD
   omega) (Int.le_of_lt vM)
  (clear e3 DD xr dt r s near vM fl ap D0 j0 i0;omega)
 exact Int.le_of_mul_le_mul_left (Int.le_of_mul_le_mul_left fin vM) vM
theorem Kc{α:Type}{a b:α}{l:List α}(h:l.Perm [a,b]):l=[a,b]∨l=[b,a]:=by
 match l,h.length_eq with
 | [p,q],_=>
  have hp:p∈ [a,b]:=h.mem_iff.mp (by simp)
  simp only[List.mem_cons,List.not_mem_nil,or_false]at hp
  rcases hp with rfl|rfl
  ·left
   have:=(List.perm_cons p).mp h
   rw[List.perm_singleton.mp this]
  ·right
   have h2: [p,q].Perm [p,a]:=h.trans (List.Perm.swap p a [])
   have:=(List.perm_cons p).mp h2
   rw[List.perm_singleton.mp this]
theorem Of{α:Type}{a b c:α}{l:List α}(h:l.Perm [a,b,c]):l=[a,b,c]∨l=[a,c,b]∨l=[b,a,c]∨l=[b,c,a]∨l=[c,a,b]∨l=[c,b,a]:=by
 match l,h.length_eq with
 |p::r,_=>
  have hp:p∈ [a,b,c]:=h.mem_iff.mp (by simp)
  simp only[List.mem_cons,List.not_mem_nil,or_false]at hp
  rcases hp with rfl|rfl|rfl
  ·rcases Kc ((List.perm_cons p).mp h)with z|z<;>rw[z]<;>simp
  ·have h2:(p::r).Perm [p,a,c]:=h.trans (List.Perm.swap p a [c])
   rcases Kc ((List.perm_cons p).mp h2)with z|z<;>rw[z]<;>simp
  ·have h2:(p::r).Perm [p,a,b]:=h.trans (((List.Perm.swap p b []).cons a).trans (List.Perm.swap p a [b]))
   rcases Kc ((List.perm_cons p).mp h2)with z|z<;>rw[z]<;>simp
theorem GW{α:Type}{a b c p q r:α}(X:α->Nat->Int)(h: [p,q,r].Perm [a,b,c]):bQ (X p) (X q) (X r)=bQ (X a) (X b) (X c)∨bQ (X p) (X q) (X r)= -bQ (X a) (X b) (X c):=by
 rcases Of h with z|z|z|z|z|z<;>injection z with e1 z<;>injection z with e2 z<;>injection z with e3 z<;>subst e1 e2 e3<;>unfold bQ
 ·left;rfl
 ·right;grind
 ·right;grind
 ·left;grind
 ·left;grind
 ·right;grind
theorem iA{H:Hp}{b:Addr}{x:Nat->Int}(h:bH H b x):∀i,i<3->aK (dP H b) i=x i:=λi hi=>by
 have h:H b=some (.lst [.int (x 0),.int (x 1),.int (x 2)]):=h
 unfold dP
 rw[h]
 rcases aN hi with rfl|rfl|rfl<;>rfl
theorem zT{H:Hp}{b:Addr}{x:Nat->Int}(h:bH H b x):bH H b (aK (dP H b)):=by
 show H b=some (.lst [.int (aK (dP H b) 0),.int (aK (dP H b) 1),.int (aK (dP H b) 2)])
 rw[iA h 0 (by decide),iA h 1 (by decide),iA h 2 (by decide)]
 exact h
structure Fx(m:List (List Int))(x y t:Nat->Int):Prop where
 pair:mJ m x y
 le:aQ m y<=aQ m t
 unit:bQ x y t=1∨bQ x y t= -1
 few:3*(aQ m x*aQ m y*aQ m t)<=16*aA m
 QS:∀I J:Int,aQ m t<=aQ m (bZ t I x J y)
 hgt:4*(av m x y*aQ m t)<=4*aA m+3*(av m x y*aQ m y)
 u: -(2*aQ m x)<=ay m x t/\ay m x t<=2*aQ m x
 v: -(2*aQ m y)<=ay m y t/\ay m y t<=2*aQ m y
theorem MT{m:List (List Int)}{x y t t':Nat->Int}(h:mJ m x y)(d:Drawn m x y t t')(un:bQ x y t=1∨bQ x y t= -1)(le:aQ m y<=aQ m t'):Fx m x y t':=by
 obtain⟨ar,ap⟩:=h.zS
 have vM:0<av m x y:=ap
 have one:bQ x y t*bQ x y t=1:=by rcases un with z|z<;>rw[z]<;>decide
 have f:=d.few
 rw[one,Int.mul_one]at f
 have g:=Int.mul_le_mul_of_nonneg_left le (Int.le_of_lt vM)
 have ht:0<=aQ m t':=by have:=h.pos;have:=h.le;omega
 have k:=Int.mul_le_mul_of_nonneg_right ar ht
 obtain⟨p1,p2⟩:=GU m x y t'
 have cancel:∀{a b c:Int},av m x y*a<=av m x y*b->a<=b:=λh=>Int.le_of_mul_le_mul_left h vM
 have ab:∀a b c e:Int,-c<=a->a<=c-> -e<=b->b<=e->a*b<=c*e:=λa b c e h1 h2 h3 h4=>by
  have k1:=Int.mul_nonneg (show 0<=c-a by omega) (show 0<=e+b by omega)
  have k2:=Int.mul_nonneg (show 0<=c+a by omega) (show 0<=e-b by omega)
  have e3:(c-a)*(e+b)+(c+a)*(e-b)=2*(c*e) -2*(a*b):=by grind
  (clear h4 h3 h2 h1 cancel p2 p1 k ht g f one vM ap ar le un;omega)
 have Oe:∀a b c e:Int,-c<=a->a<=c-> -e<=b->b<=e-> -(c*e)<=a*b:=λa b c e h1 h2 h3 h4=>by
  have:=ab (-a) b c e (by omega) (by omega) h3 h4
  have e3: -a*b= -(a*b):=by grind
  omega
 have Ap:=h.pos
 have Bp:0<aQ m y:=Int.lt_of_lt_of_le h.pos h.le
 have pl: -(aQ m x)<=ay m x y/\ay m x y<=aQ m x:=by have:=h.lo;have:=h.hi;(clear Bp Ap Oe ab cancel p2 p1 k ht g f one vM ap ar le un;omega)
 have Ui: -(aQ m y)<=ay m x y/\ay m x y<=aQ m y:=by have:=h.le;(clear Bp Ap Oe ab cancel p2 p1 k ht g f one vM ap ar le un;omega)
 have s1:=ab (aQ m x) (bK m x y t') (aQ m x) (av m x y) (by omega) (Int.le_refl _) d.s.1 d.s.2
 have s2:=Oe (aQ m x) (bK m x y t') (aQ m x) (av m x y) (by omega) (Int.le_refl _) d.s.1 d.s.2
 have s3:=ab (ay m x y) (bL m x y t') (aQ m x) (av m x y) pl.1 pl.2 d.r.1 d.r.2
 have s4:=Oe (ay m x y) (bL m x y t') (aQ m x) (av m x y) pl.1 pl.2 d.r.1 d.r.2
 have r1:=ab (ay m x y) (bK m x y t') (aQ m y) (av m x y) Ui.1 Ui.2 d.s.1 d.s.2
 have r2:=Oe (ay m x y) (bK m x y t') (aQ m y) (av m x y) Ui.1 Ui.2 d.s.1 d.s.2
 have r3:=ab (aQ m y) (bL m x y t') (aQ m y) (av m x y) (by omega) (Int.le_refl _) d.r.1 d.r.2
 have r4:=Oe (aQ m y) (bL m x y t') (aQ m y) (av m x y) (by omega) (Int.le_refl _) d.r.1 d.r.2
 refine⟨h,le,by rw[d.det];exact un,?_,d.QS,f,⟨?_,?_⟩,?_,?_⟩
 ·have e1:3*(aQ m x*aQ m y)*aQ m t'=3*(aQ m x*aQ m y*aQ m t'):=by grind
  have e2:4*(aQ m x*aQ m y-ay m x y*ay m x y)*aQ m t'=4*(av m x y*aQ m t'):=by show _=4*((aQ m x*aQ m y-ay m x y*ay m x y)*aQ m t');grind
  omega
 ·refine cancel (c:=0) ?_
  rw[p1]
  have e:av m x y* -(2*aQ m x)= -(2*(aQ m x*av m x y)):=by grind
  omega
 ·refine cancel (c:=0) ?_
  rw[p1]
  have e:av m x y*(2*aQ m x)=2*(aQ m x*av m x y):=by grind
  omega
 ·refine cancel (c:=0) ?_
  rw[p2]
  have e:av m x y* -(2*aQ m y)= -(2*(aQ m y*av m x y)):=by grind
  omega
 ·refine cancel (c:=0) ?_
  rw[p2]
  have e:av m x y*(2*aQ m y)=2*(aQ m y*av m x y):=by grind
  omega
theorem Kd{x y z x' y' z':Nat->Int}(hx:∀i,i<3->x i=x' i)(hy:∀i,i<3->y i=y' i)(hz:∀i,i<3->z i=z' i):bQ x y z=bQ x' y' z':=by
 unfold bQ
 rw[hx 0 (by decide),hx 1 (by decide),hx 2 (by decide),hy 0 (by decide),hy 1 (by decide),hy 2 (by decide),hz 0 (by decide),hz 1 (by decide),hz 2 (by decide)]
theorem vN(m:List (List Int)){i:Nat}(hi:i<3):aQ m (yu i 1)=ent m i i:=by
 show ay m _ _=_
 rw[aV]
 unfold yu
 rcases aN hi with rfl|rfl|rfl<;>simp
theorem Qc{m:List (List Int)}(ev:bJ m){a b c:Addr}{X:Addr->Nat->Int}{zs:List Addr}(h:zs.Perm [a,b,c])(so:zs.Pairwise λa b=>cI m (X a)<=cI m (X b)):
  ∃p q r,zs=[p,q,r]/\p∈ [a,b,c]/\q∈ [a,b,c]/\r∈ [a,b,c]/\(bQ (X p) (X q) (X r)=bQ (X a) (X b) (X c)∨bQ (X p) (X q) (X r)= -bQ (X a) (X b) (X c))/\aQ m (X p)+aQ m (X q)<=aQ m (X a)+aQ m (X c):=by
 match zs,h.length_eq with
 | [p,q,r],_=>
  refine⟨p,q,r,rfl,h.mem_iff.mp (by simp),h.mem_iff.mp (by simp),h.mem_iff.mp (by simp),GW X h,?_⟩
  have e:=λd=>fP ev (X d)
  have ea:=e a
  have eb:=e b
  have ec:=e c
  simp only[List.pairwise_cons,List.mem_cons,List.not_mem_nil,or_false,forall_eq_or_imp,forall_eq]at so
  show ay m _ _+ay m _ _<=ay m _ _+ay m _ _
  rcases Of h with z|z|z|z|z|z<;>injection z with e1 z<;>injection z with e2 z<;>injection z with e3 z<;>subst e1 e2 e3<;>omega
structure gz(N:List (List Int)):Prop where
 xu:bE N
 ev:bJ N
 ab:b8 N=true
 pos:0<ent N 0 0
 BC:ent N 0 0<=ent N 1 1
 Dw:ent N 1 1<=ent N 2 2
 p: -(ent N 0 0)<=2*ent N 0 1/\2*ent N 0 1<=ent N 0 0
 u: -(2*ent N 0 0)<=ent N 0 2/\ent N 0 2<=2*ent N 0 0
 v: -(2*ent N 1 1)<=ent N 1 2/\ent N 1 2<=2*ent N 1 1
 few:3*(ent N 0 0*ent N 1 1*ent N 2 2)<=16*aA N
 QS:∀v:Nat->Int,v 2=1->ent N 2 2<=aQ N v
 hgt:4*((ent N 0 0*ent N 1 1-ent N 0 1*ent N 0 1)*ent N 2 2)<=4*aA N+3*((ent N 0 0*ent N 1 1-ent N 0 1*ent N 0 1)*ent N 1 1)
theorem oR(x y z:Nat->Int){j:Nat}(hj:j<3):ent (d8 x y z) 0 j=x j/\ent (d8 x y z) 1 j=y j/\ent (d8 x y z) 2 j=z j:=⟨cZ _ (by decide) hj,cZ _ (by decide) hj,cZ _ (by decide) hj⟩
theorem Dy{m:List (List Int)}(ev:bJ m)(c:bE m)(ab:b8 m=true){x y z:Nat->Int}(h:Fx m x y z):gz (br m (d8 x y z))/\(aA (d8 x y z)=1∨aA (d8 x y z)= -1)/\aA (br m (d8 x y z))=aA m:=by
 have hS:=fG ev c
 have un:cV (aA (d8 x y z)):=by rw[GP];exact h.unit
 have c3:bE (d8 x y z):=cP _
 have e:∀i j,i<3->j<3->ent (br m (d8 x y z)) i j=ay m (λk=>ent (d8 x y z) i k) (λk=>ent (d8 x y z) j k):=λi j hi hj=>kg m _ hi hj
 have r0:∀k,k<3->ent (d8 x y z) 0 k=x k:=λk hk=>(oR x y z hk).1
 have r1:∀k,k<3->ent (d8 x y z) 1 k=y k:=λk hk=>(oR x y z hk).2.1
 have r2:∀k,k<3->ent (d8 x y z) 2 k=z k:=λk hk=>(oR x y z hk).2.2
 have QT:ent (br m (d8 x y z)) 0 0=aQ m x:=(e 0 0 (by decide) (by decide)).trans (d7 r0 r0)
 have SO:ent (br m (d8 x y z)) 1 1=aQ m y:=(e 1 1 (by decide) (by decide)).trans (d7 r1 r1)
 have Uj:ent (br m (d8 x y z)) 2 2=aQ m z:=(e 2 2 (by decide) (by decide)).trans (d7 r2 r2)
 have AF:ent (br m (d8 x y z)) 0 1=ay m x y:=(e 0 1 (by decide) (by decide)).trans (d7 r0 r1)
 have Fq:ent (br m (d8 x y z)) 0 2=ay m x z:=(e 0 2 (by decide) (by decide)).trans (d7 r0 r2)
 have Ft:ent (br m (d8 x y z)) 1 2=ay m y z:=(e 1 2 (by decide) (by decide)).trans (d7 r1 r2)
 have dt:=vD (m:=m) un
 refine⟨⟨(show bE (gu (gu (d8 x y z) m) (dH (d8 x y z)))from cP _),rB ev c c3,pQ hS ab c3 un,?_,?_,?_,?_,?_,?_,?_,?_,?_⟩,un,dt⟩
 ·rw[QT];exact h.pair.pos
 ·rw[QT,SO];exact h.pair.le
 ·rw[SO,Uj];exact h.le
 ·rw[QT,AF];exact⟨h.pair.lo,h.pair.hi⟩
 ·rw[QT,Fq];exact h.u
 ·rw[SO,Ft];exact h.v
 ·rw[QT,SO,Uj,dt];exact h.few
 ·intro v hv
  have c:=h.QS (-v 0) (-v 1)
  rw[Uj]
  refine Int.le_trans c (Int.le_of_eq ?_)
  rw[show aQ (br m (d8 x y z)) v=aQ m (vC v (d8 x y z))from yp m (d8 x y z) v v]
  refine d7 (λi hi=> ?_) (λi hi=> ?_)<;>
  ·show z i- -v 0*x i- -v 1*y i=v 0*ent (d8 x y z) 0 i+v 1*ent (d8 x y z) 1 i+v 2*ent (d8 x y z) 2 i
   rw[r0 i hi,r1 i hi,r2 i hi,hv]
   grind
 ·rw[QT,SO,Uj,AF,dt];exact h.hgt
theorem Ke{m:List (List Int)}{x y z:Nat->Int}(h:Fx m x y z):3*aQ m x<=16*aA m/\3*aQ m y<=16*aA m/\3*aQ m z<=16*aA m:=by
 have p:=h.pair.pos
 have q:=h.pair.le
 have r:=h.le
 have f:=h.few
 have k1:aQ m y<=aQ m x*aQ m y:=by
  have:=Int.mul_le_mul_of_nonneg_right (show 1<=aQ m x by omega) (show 0<=aQ m y by omega)
  omega
 have k2:1*aQ m z<=aQ m x*aQ m y*aQ m z:=Int.mul_le_mul_of_nonneg_right (by omega) (by omega)
 omega
end L2
namespace zK
open PySem PyProof.Rows
section
variable{prog:Program}{w:World}{A:Around}{E:Value->Shared->Prop}{s:Shared}{κ:SortKind}{K:Keyed->Int}{D:Keyed->Prop}{st:SortSt}
theorem MU(hL:qI prog w A E s κ K D){Q:Unit->SortSt->Prop}(B:SB κ D st)(hp:pendingOf st= #[])(h64:(arrOf st).size<64)
  (hq:∀st',(arrOf st').Perm (arrOf st) ->failedOf st'=none->So K (arrOf st') 0 (arrOf st).size->Q () st'):wpS (model prog w) A E s sortRuns' Q st:=by
 rw[JL]
 refine wpS_bind (wpS_get ?_)
 dsimp only
 have mr:minRun' (arrOf st).size (arrOf st).size 0=(arrOf st).size:=by
  cases h:(arrOf st).size with
  |zero=>rfl
  |succ k=>
   rw[minRun'_succ,if_pos (by omega)]
 rw[mr]
 refine wpS_bind (wpS_mono (wpS_forRange (I:=λx c s1=>(x=0/\c=(none,0)/\s1=st)∨(c=(none,(arrOf st).size)/\(arrOf s1).Perm (arrOf st)/\failedOf s1=none/\So K (arrOf s1) 0 (arrOf st).size/\(pendingOf s1).size=1))
  (Q:=λc s1=>c=(none,(arrOf st).size)/\(arrOf s1).Perm (arrOf st)/\failedOf s1=none/\So K (arrOf s1) 0 (arrOf st).size/\(pendingOf s1).size<=1) ?_ ?_ (.inl ⟨rfl,rfl,rfl⟩)) ?_)
 ·rintro x c s1 _ hx (⟨rfl,rfl,rfl⟩|⟨rfl,h⟩)
  ·dsimp only
   refine kU (λc=>by omega) (λ_=> ?_)
   refine wpS_bind (w_count hL B (by omega) (by omega) λn s2 S2 n1 n2 Od=> ?_)
   dsimp only
   have YO:=S2.size
   have note:∀s3:SortSt,SC 0 s1 s3->So K (arrOf s3) 0 (arrOf s1).size-> ∀m,m=(arrOf s1).size-> ∀Q:ForInStep (Option Unit×Nat) ->SortSt->Prop,(∀s5,(arrOf s5).Perm (arrOf s1) ->failedOf s5=none->So K (arrOf s5) 0 (arrOf s1).size->(pendingOf s5).size=1->Q (.yield (none,(arrOf s1).size)) s5) ->wpS (model prog w) A E s (do
     modify λy=>setPending y ((pendingOf y).push (0,m,0))
     pure (ForInStep.yield ((none,0+m):Option Unit×Nat))) Q s3:=λs3 S3 HX m em Q hQ=>by
    subst em
    rw[Nat.zero_add]
    refine wpS_bind (wpS_modify (wpS_pure (hQ _ S3.perm (S3.failed.trans B.failed) HX ?_)))
    show((pendingOf s3).push _).size=1
    rw[S3.pend,hp]
    rfl
   by_cases hm:n<(arrOf s1).size
   ·rw[if_pos hm]
    refine wpS_bind (wpS_lift (wpAny_rule ⟨rfl,?_⟩))
    refine wpS_bind (NZ hL (B.sc S2) (by omega) (by omega) Od λs3 S3 HX=> ?_)
    simp only[Bool.not_true,Bool.false_eq_true,if_false]
    refine wpS_bind (wpS_get ?_)
    rw[(S2.trans S3).pend,hp]
    have em:min ((arrOf s1).size-0) (arrOf s1).size=(arrOf s1).size:=by omega
    rw[em]at HX
    exact note s3 (S2.trans S3) HX _ em _ λs5 p f o q=> .inr ⟨rfl,p,f,o,q⟩
   ·rw[if_neg hm]
    have en:n=(arrOf s1).size:=by omega
    rw[en]at Od
    refine wpS_bind (wpS_get ?_)
    rw[S2.pend,hp]
    exact note s2 S2 Od _ en _ λs5 p f o q=> .inr ⟨rfl,p,f,o,q⟩
  ·dsimp only
   exact kU (λ_=>wpS_pure ⟨rfl,h.1,h.2.1,h.2.2.1,Nat.le_of_eq h.2.2.2⟩) (λc=>absurd (Nat.le_refl _) c)
 ·rintro c s1 (⟨h0,rfl,rfl⟩|⟨rfl,h⟩)
  ·have z:(arrOf s1).size=0:=by omega
   rw[z]
   exact⟨rfl,Array.Perm.refl _,B.failed,λi j _ h=>absurd h (Nat.not_lt_zero _),by rw[hp];decide⟩
  ·exact⟨rfl,h.1,h.2.1,h.2.2.1,Nat.le_of_eq h.2.2.2⟩
 ·rintro c s1 ⟨rfl,h1,h2,h3,h4⟩
  dsimp only
  refine wpS_bind (wpS_mono (wpS_forRange (I:=λ_ c s2=>c=(none,())/\s2=s1) (Q:=λc s2=>c=(none,())/\s2=s1) ?_ (λ_ _ h=>h) ⟨rfl,rfl⟩) ?_)
  ·rintro x c s2 _ hx ⟨rfl,rfl⟩
   refine wpS_bind (wpS_get ?_)
   exact kU (λc=>wpS_pure ⟨rfl,rfl⟩) (λc=>absurd h4 c)
  ·rintro c s2 ⟨rfl,rfl⟩
   exact wpS_pure (hq _ h1 h2 h3)
end
end zK
namespace L2
open PySem PySem.Spec PyProof.Rows PySem.Calls zK
section
variable{prog:Program}{w:World}{A:Around}{E:Value->Shared->Prop}{s:Shared}
theorem MV{a kS:Addr}{P:PySem.Fin->Shared->Prop}{kf:V->Int}{ys:List V}{us:List Value}{keys:Array Value}{e1 e:Nat}(hk:qM kf ys us keys.toList)(hn:kS≠a)(hz:us.length<=sizeLine)(h64:us.length<64)
  (ha:s.heap.get? a=some (seqObj "list" #[] e1))(hS:s.heap.get? kS=some (seqObj "list" keys e))
  (h:∀(zs:List V)(out:List Value) h' tk,zs.Perm ys->zs.Pairwise (λx y=>kf x<=kf y) ->Vals zs out->out.length=us.length->(∀b o,b≠a->b≠kS->s.heap.get? b=some o->h'.get? b=some o) ->(∃c,h'.get? a=some (seqObj "list" out.toArray c)) ->(∃o,h'.get? kS=some o) ->
   P (.done (.ret .none)) {s with heap:=h',toks:=tk}):wpAny (model prog w) A (ksk_end a false us.toArray e1 (.ref kS) keys) P E s:=by
 have kl:keys.toList.length=us.length:=by
  have:∀{ys:List V}{us ks:List Value},qM kf ys us ks->ks.length=us.length:=λh=>by
   induction h with
   |nil=>rfl
   |cons t r _ ih=>simp[ih]
  exact this hk
 have kz:keys.size=us.length:=by rw[<-kl];exact(Array.length_toList ..).symm
 have Xj:(keys.zip us.toArray).size=us.length:=by rw[Array.size_zip,kz,List.size_toArray,Nat.min_self]
 have zl:(keys.zip us.toArray).toList=keys.toList.zip us:=ksk_zip keys us
 have tail:∀st:SortSt,(arrOf st).Perm (keys.zip us.toArray) ->failedOf st=none->So (λp=>numOf p.1) (arrOf st) 0 us.length->wpAny (model prog w) A (ksk_tail a false e1 (.ref kS) st) P E s:=by
  intro st hp hf hs
  have pl:(arrOf st).toList.Perm (keys.toList.zip us):=by rw[<-zl];exact Array.perm_iff_toList_perm.mp hp
  obtain⟨tr,t1,t2,t3⟩:=hk.out
  obtain⟨Uk,p',e'⟩:=yy pl tr t1
  have len:(arrOf st).toList.length=us.length:=by rw[pl.length_eq,List.length_zip,kl,Nat.min_self]
  have oz:((arrOf st).map (·.2)).size=us.length:=by rw[Array.size_map,<-len,Array.length_toList]
  have oe:((arrOf st).map (·.2)).toList=Uk.map λt=>t.1.2:=by
   rw[Array.toList_map,e',List.map_map]
   rfl
  unfold ksk_tail
  try dsimp only
  generalize(arrOf st).map (·.2)=ov at oz oe ⊢
  refine wpAny_bind (listUpdate_at hS rfl ?_ (by omega) (Nat.zero_le _))
  refine wpAny_bind (wpAny_letGo ?_)
  have Xk:=Heap.SameBut.update s.heap kS (Obj.mapSeq λ_=>(#[]:Array Value))
  have ha1:(s.heap.update kS (Obj.mapSeq λ_=>(#[]:Array Value))).get? a=some (seqObj "list" #[] e1):=(Xk.2 a hn.symm).trans ha
  have Xl:=Heap.SameBut.update (s.heap.update kS (Obj.mapSeq λ_=>(#[]:Array Value))) a (Obj.mapSeq λ_=>ov)
  refine wpAny_bind (seqEpoch_at ha1 rfl ?_)
  refine wpAny_bind (listUpdate_at ha1 rfl ?_ (Nat.zero_le _) (Nat.le_trans (Nat.le_of_eq oz) (Nat.le_succ_of_le hz)))
  rw[hf]
  simp only[bne_self_eq_false,Bool.false_eq_true,if_false]
  refine wpAny_pure (h (Uk.map Prod.snd) (Uk.map λt=>t.1.2) _ _ (by rw[t2];exact p'.map _) ?_ ?_ ?_ (λb o h1 h2 q=> ?_) ?_ ?_)
  ·have h2:=(rG (K:=λp=>numOf p.1) (a:=arrOf st) (lo:=0) (n:=us.length) (by rw[Nat.zero_add,<-len,Array.length_toList];exact Nat.le_refl _)).mp hs
   have e2:sl (arrOf st) 0 us.length=(arrOf st).toList:=by
    show((arrOf st).toList.drop 0).take us.length=_
    rw[List.drop_zero,List.take_of_length_le (by omega)]
   rw[e2,e',List.pairwise_map]at h2
   rw[List.pairwise_map]
   refine h2.imp_of_mem λ {x y} mx my q=> ?_
   obtain⟨_,k1,q1⟩:=t3 x (p'.mem_iff.mp mx)
   obtain⟨_,k2,q2⟩:=t3 y (p'.mem_iff.mp my)
   rw[q1,q2]at q
   exact q
  ·have:∀l:List (Keyed×V),(∀t∈l,RelV t.2 t.1.2) ->Vals (l.map Prod.snd) (l.map λt=>t.1.2):=λl=>by
    induction l with
    |nil=>intro _;exact .nil
    |cons t l ih=>intro hl;exact .cons (hl t List.mem_cons_self) (ih λz hz=>hl z (List.mem_cons_of_mem _ hz))
   exact this Uk λt ht=>(t3 t (p'.mem_iff.mp ht)).1
  ·rw[<-oe,<-oz,Array.length_toList]
  ·exact(Xl.2 b h1).trans ((Xk.2 b h2).trans q)
  ·rw[<-oe,Array.toArray_toList]
   exact⟨_,get?_update_seq ha1 λ_=>ov⟩
  ·exact⟨_,(Xl.2 kS hn).trans (get?_update_seq hS λ_=> #[])⟩
 unfold ksk_end
 try dsimp only
 simp only[Bool.false_eq_true,if_false]
 by_cases h2:us.toArray.size<2
 ·rw[if_pos h2,if_pos h2]
  refine wpAny_bind (wpAny_pure ?_)
  rw[StateT.run_pure]
  refine wpAny_bind (wpAny_pure ?_)
  try dsimp only
  refine tail (SortSt.mk' general' (keys.zip us.toArray) #[] 7 none) (Array.Perm.refl _) rfl (λi j hij hj=> ?_)
  rw[List.size_toArray]at h2
  have:i=j:=by omega
  subst this
  exact Int.le_refl _
 ·rw[if_neg h2,if_neg h2]
  rw[List.size_toArray]at h2
  rw[ksk_kind hk.ints (by omega)]
  refine wpAny_bind (wpAny_pure ?_)
  have R:zK.SB oneType' (λp=> ∃n t,p.1= .int n t) (SortSt.mk' oneType' (keys.zip us.toArray) #[] 7 none):=by
   refine⟨rfl,rfl,λp hp=> ?_⟩
   have l9:p∈(keys.zip us.toArray).toList:=hp
   rw[zl]at l9
   exact hk.ints.all p.1 (List.of_mem_zip (a:=p.1) (b:=p.2) l9).1
  refine wpAny_bind (wpAny_mono (MU GL (Q:=λ_ st'=>(arrOf st').Perm (keys.zip us.toArray)/\failedOf st'=none/\So (λp=>numOf p.1) (arrOf st') 0 (keys.zip us.toArray).size) R rfl (show(keys.zip us.toArray).size<64 by rw[Xj];exact h64) λst' a1 a2 a3=>⟨a1,a2,a3⟩) ?_ λ_ _ e=>e)
  rintro⟨⟨⟩,st'⟩ s' ⟨rfl,hp,hf,hs⟩
  rw[Xj]at hs
  try dsimp only
  exact tail st' hp hf hs
end
section
variable{X:Cx}{pins:List (Addr×Obj)}{σ:St}{H:Hp}{s:Shared}{B:Around}{a:Addr}{f:Value}{kf:V->Int}{ys:List V}{us:List Value}
theorem GX(I:Inv X pins σ H s)(fa:fW X pins H a){n:Nat}(ha:s.heap.get? a=some (seqObj "list" us.toArray n))(r:Vals ys us)(hz:us.length<=sizeLine)(h64:us.length<64){E:Value->Shared->Prop}{P:PySem.Fin->Shared->Prop}
  (turn:∀(qB:List (Addr×Obj))(v:V)(Hi:Hp)(u:Value)(si:Shared),v∈ys->az H Hi->RelV v u->Inv X qB σ Hi si->wpAny (model X.prog X.w) B (call f [u]) (EP X qB σ (λv' H'=>v'= .int (kf v)/\az Hi H')) (λ_ _=>False) si)
  (done:∀(Hn:Hp)(s':Shared)(zs:List V),Inv X pins σ (upd Hn a (.lst zs)) s'->az H Hn->Hn a=none->zs.Perm ys->zs.Pairwise (λx y=>kf x<=kf y) ->P (.done (.ret .none)) s'):
  wpAny (model X.prog X.w) B (ksk_tree a f false) P E s:=by
 have rl:=r.length
 unfold ksk_tree
 refine wpAny_bind (listItems_at ha rfl ?_)
 refine wpAny_bind (listUpdate_at ha rfl ?_ (by simpa using hz) (Nat.zero_le _))
 obtain⟨e1,ha1⟩:∃e1,(s.heap.update a (Obj.mapSeq λ_=> #[])).get? a=some (seqObj "list" #[] e1):=⟨_,get?_update_seq ha (λ_=> #[])⟩
 refine wpAny_bind (seqEpoch_at ha1 rfl ?_)
 refine wpAny_bind (wpAny_newTuple ?_ (by simpa using hz))
 refine wpAny_bind (wpAny_newList ?_ (Nat.zero_le _))
 refine wpAny_holding ?_
 have I1:Inv X pins σ H {s with heap:=s.heap.update a (Obj.mapSeq λ_=> #[])}:=I.qF (ch:=[a]) (t':=s.toks) (λb o hb e=>(Heap.get?_update_ne _ _ _ _ (by simpa using hb)).trans e) (λb hb=>by rw[List.mem_singleton.mp hb];exact fa)
 have I2:Inv X pins σ H {s with heap:=((s.heap.update a (Obj.mapSeq λ_=> #[])).push (seqObj "tuple" us.toArray 0))}:=I1.kept (t':=s.toks) λb o e=>Heap.get?_push_of_some _ e
 have I3:Inv X pins σ H {s with heap:=((s.heap.update a (Obj.mapSeq λ_=> #[])).push (seqObj "tuple" us.toArray 0)).push (seqObj "list" #[] 0)}:=I2.kept (t':=s.toks) λb o e=>Heap.get?_push_of_some _ e
 have fk:fW X pins H ((s.heap.update a (Obj.mapSeq λ_=> #[])).push (seqObj "tuple" us.toArray 0)).objs.size:=I2.Gd (Nat.le_refl _) I2.fresh
 have Xm:(((s.heap.update a (Obj.mapSeq λ_=> #[])).push (seqObj "tuple" us.toArray 0)).push (seqObj "list" #[] 0)).get? a=some (seqObj "list" #[] e1):=Heap.get?_push_of_some _ (Heap.get?_push_of_some _ ha1)
 have Mf:(((s.heap.update a (Obj.mapSeq λ_=> #[])).push (seqObj "tuple" us.toArray 0)).push (seqObj "list" #[] 0)).get? ((s.heap.update a (Obj.mapSeq λ_=> #[])).push (seqObj "tuple" us.toArray 0)).objs.size=some (seqObj "list" #[] 0):=Heap.get?_push_size _ rfl
 have VI:((s.heap.update a (Obj.mapSeq λ_=> #[])).push (seqObj "tuple" us.toArray 0)).objs.size≠a:=by
  have:=Heap.lt_size ha
  rw[size_push',Heap.size_update]
  exact Nat.ne_of_gt (Nat.lt_succ_of_lt this)
 generalize((s.heap.update a (Obj.mapSeq λ_=> #[])).push (seqObj "tuple" us.toArray 0)).objs.size=kS at fk Mf VI ⊢
 generalize((s.heap.update a (Obj.mapSeq λ_=> #[])).push (seqObj "tuple" us.toArray 0)).push (seqObj "list" #[] 0)=h3 at I3 Xm Mf ⊢
 show wpAny _ B (ksk_rest a f false us.toArray e1 (.ref kS)) P E {s with heap:=h3}
 have nc:∀(xs:Array Value)(m:Nat)(v:Option Value),(seqObj "list" xs m).data≠ .cell v:=λxs m v z=>nomatch z
 have I4:Inv X (Fl pins a e1 kS #[] 0) σ H {s with heap:=h3}:=I3.jL λp hp=>by
  rcases List.mem_append.mp hp with hp|hp
  ·exact I3.pin p (List.mem_append_right _ hp)
  ·rcases List.mem_cons.mp hp with rfl|hp
   ·exact zQ fa Xm (nc _ _)
   ·rw[List.mem_singleton.mp hp]
    exact zQ fk Mf (nc _ _)
 unfold ksk_rest
 refine wpAny_bind (wpAny_rule ?_)
 first
  |rw[List.forIn_toArray]
  |(rw[<-Array.forIn_toList];simp only[List.toList_toArray])
 refine wpAny_bind (ksk_fold (λi s'=> ∃Hi ks e,Inv X (Fl pins a e1 kS ks e) σ Hi s'/\az H Hi/\qM kf (ys.take i) (us.take i) ks.toList) us 0 {s with heap:=h3} ⟨H, #[],0,I4,az.refl _,by simpa using qM.nil⟩ ?_ ?_)
 ·rintro j x s' hx ⟨Hi,ks,e,J,sm,hk⟩
  simp only[Nat.zero_add]at hk ⊢
  obtain⟨v,hv,rv⟩:=Vals.at r hx
  have hj:j<us.length:=(List.getElem?_eq_some_iff.mp hx).1
  refine wpAny_bind (wpAny_attempt (wpAny_mono (turn _ v Hi x s' (List.mem_of_getElem? hv) sm rv J) (λu s2 he=> ?_) λ_ _ hF=>hF.elim))
  obtain⟨v',H',J',ru,rfl,YU⟩:=he
  obtain⟨t,rfl⟩:∃t,u= .int (kf v) t:=ru
  have pa:=J'.pin (a,seqObj "list" #[] e1) (by simp)
  have pk:=J'.pin (kS,seqObj "list" ks e) (by simp)
  have kl:ks.size=j:=by
   have h1:=hk.ints.length
   rw[Array.length_toList,List.length_map,List.length_take,rl]at h1
   omega
  try dsimp only
  refine wpAny_bind (listUpdate_at pk.1 rfl ?_ (by omega) (Nat.le_trans (Nat.le_of_eq (Array.size_push ..)) (by omega)))
  obtain⟨c2,hc2⟩:∃c2,(s2.heap.update kS (Obj.mapSeq (·.push (.int (kf v) t)))).get? kS=some (seqObj "list" (ks.push (.int (kf v) t)) c2):=⟨_,get?_update_seq pk.1 (·.push (.int (kf v) t))⟩
  have ya:ys.take (j+1)=ys.take j++ [v]:=by rw[List.take_add_one,hv];simp
  have ua:us.take (j+1)=us.take j++ [x]:=by rw[List.take_add_one,hx];simp
  have ea:(ks.push (Value.int (kf v) t)).toList=ks.toList++ [Value.int (kf v) t]:=by simp
  have J1:Inv X pins σ H' s2:=J'.jL λp hp=>J'.pin p (List.mem_append_right _ (List.mem_append_left _ hp))
  have J2:Inv X pins σ H' {s2 with heap:=s2.heap.update kS (Obj.mapSeq (·.push (.int (kf v) t)))}:=J1.qF (ch:=[kS]) (t':=s2.toks) (λb o hb e=>(Heap.get?_update_ne _ _ _ _ (by simpa using hb)).trans e) (λb hb=>by rw[List.mem_singleton.mp hb];exact yz fk pk.2.1)
  refine wpAny_pure ⟨rfl,H',ks.push (.int (kf v) t),c2,J2.jL λp hp=> ?_,sm.trans YU,by rw[ya,ua,ea];exact hk.snoc t rv⟩
  rcases List.mem_append.mp hp with hp|hp
  ·exact J2.pin p (List.mem_append_right _ hp)
  ·rcases List.mem_cons.mp hp with rfl|hp
   ·exact zQ (yz fa pa.2.1) ((Heap.get?_update_ne _ _ _ _ VI.symm).trans pa.1) (nc _ _)
   ·rw[List.mem_singleton.mp hp]
    exact zQ (yz fk pk.2.1) hc2 (nc _ _)
 ·rintro s' ⟨Hi,ks,e,J,sm,hk⟩
  rw[Nat.zero_add,List.take_of_length_le (Nat.le_of_eq rl),List.take_of_length_le (Nat.le_refl _)]at hk
  have pa:=J.pin (a,seqObj "list" #[] e1) (by simp)
  have pk:=J.pin (kS,seqObj "list" ks e) (by simp)
  have J1:Inv X pins σ Hi s':=J.jL λp hp=>J.pin p (List.mem_append_right _ (List.mem_append_left _ hp))
  try dsimp only
  refine wpAny_bind (listItems_at pk.1 rfl ?_)
  refine MV hk VI hz h64 pa.1 pk.1 λzs out h' tk pz so vo ol keep hA hS=> ?_
  have J2:Inv X pins σ Hi {s' with heap:=h',toks:=tk}:=J1.qF (ch:=[a,kS]) (t':=tk) (λb o hb e=>keep b o (λz=>hb (by simp[z])) (λz=>hb (by simp[z])) e) (λb hb=>by
   rcases List.mem_cons.mp hb with rfl|hb
   ·exact yz fa pa.2.1
   ·rw[List.mem_singleton.mp hb];exact yz fk pk.2.1)
  obtain⟨c,hc⟩:=hA
  exact done Hi _ zs (J2.NW (yz fa pa.2.1) ⟨by rw[vo.length,ol];exact hz,out,c,vo,hc⟩) sm pa.2.1 pz so
theorem BD{l:Addr}{fa:Addr}(I:Inv X pins σ H s)(hq:aU X.K H l ys)(h64:ys.length<64){Q:VK}
  (turn:∀(qB:List (Addr×Obj))(v:V)(Hi:Hp)(u:Value)(si:Shared),v∈ys->az H Hi->RelV v u->Inv X qB σ Hi si->wpAny (model X.prog X.w) X.A.in1.in1 (call (.ref fa) [u]) (EP X qB σ (λv' H'=>v'= .int (kf v)/\az Hi H')) (λ_ _=>False) si)
  (done:∀(Hn:Hp)(zs:List V),az H Hn->zs.Perm ys->zs.Pairwise (λx y=>kf x<=kf y) -> ∀p,Hn p=none->Q (.ref p) (upd Hn p (.lst zs))):
  wpAny (model X.prog X.w) X.A (call (.builtin "sorted") [.ref l] [(Str.ofString "key",.ref fa)]) (EP X pins σ Q) X.xe s:=by
 obtain⟨us,r,pl,hz⟩:=I.list hq
 have hz':us.length<=sizeLine:=by rw[<-r.length];exact hz
 refine call_function_entry_kw kind_sorted plain_sorted entry_sorted (ksk_s1 _ _) ?_
 unfold Builtin.«sorted»
 refine wpAny_bind (m:=checkCount "sorted" 1 1 _) (wpAny_pure ?_)
 refine wpAny_bind (collect_list pl.isList ?_ hz')
 refine wpAny_bind (wpAny_newList ?_ (by simpa using hz'))
 have z1:((s.heap.push (seqObj "list" #[] 0)).update s.heap.objs.size (Obj.mapSeq (· ++us.toArray))).objs.size=s.heap.objs.size+1:=by
  rw[Heap.size_update,size_push']
 generalize hg:((s.heap.push (seqObj "list" #[] 0)).update s.heap.objs.size (Obj.mapSeq (· ++us.toArray)))=h1 at z1
 have keep:∀b o,s.heap.get? b=some o->(h1.push (seqObj "list" us.toArray 0)).get? b=some o:=λb o e=>by
  have lb:=Heap.lt_size e
  refine Heap.get?_push_of_some _ ?_
  rw[<-hg,Heap.get?_update_ne _ _ _ _ (Nat.ne_of_lt lb)]
  exact Heap.get?_push_of_some _ e
 have OD:(h1.push (seqObj "list" us.toArray 0)).get? (s.heap.objs.size+1)=some (seqObj "list" us.toArray 0):=by
  rw[<-z1];exact Heap.get?_push_size _ rfl
 have I1:Inv X pins σ H {s with heap:=h1.push (seqObj "list" us.toArray 0)}:=I.kept (t':=s.toks) keep
 have YV:fW X pins H (s.heap.objs.size+1):=I.Gd (Nat.le_succ _) (I.hok.fresh (Nat.le_succ _))
 show wpAny _ _ _ _ _ {s with heap:=h1.push (seqObj "list" us.toArray 0)}
 rw[z1]
 refine wpAny_bind (wpAny_holding (wpAny_call_entry_kw slot_list_sort ⟨_,OD,rfl⟩ entry_list_sort ?_ (ksk_l1 _ _)))
 show wpAny (model X.prog X.w) X.A.in1.in1 (Builtin.«list.sort» ⟨[.ref (s.heap.objs.size+1)],[(Str.ofString "key",.ref fa)]⟩) _ _ _
 rw[ksk_t1]
 refine GX I1 YV OD r hz' (by rw[<-r.length];exact h64) turn λHn s' zs J sm hn pz so=>⟨_,rfl,?_⟩
 exact wpAny_pure ⟨_,rfl,.ref (s.heap.objs.size+1),_,J,rfl,done Hn zs sm pz so _ hn⟩
end
noncomputable def Fy(tb:TE)(K:PySem.W.Frag)(P:Addr)(σ:St)(x:V)(H1:Hp)(Q:VK):Prop:=∃(l:Addr)(ys:List V)(kf:V->Int),x= .ref l/\aU K H1 l ys/\ys.length<64/\H1 P=some .AG/\
 (∀v∈ys,∀Hi,az H1 Hi->tb (some v::σ) Hi λv' H'=>v'= .int (kf v)/\az Hi H')/\
 ∀(Hn:Hp)(zs:List V),az H1 Hn->zs.Perm ys->zs.Pairwise (λx y=>kf x<=kf y) -> ∀p,Hn p=none->Q (.ref p) (upd Hn p (.lst zs))
noncomputable def MW(tb:TE)(K:PySem.W.Frag)(P:Addr)(te:TE):TE:=λσ H Q=>te σ H λx H1=>Fy tb K P σ x H1 Q
section
variable{X:Cx}{P:Addr}{te tb:TE}{e body:Expr}{args:Arguments}{sc:Scope}{x:Str}{N2:List Str}{p pos JQ kpos:Pos}
theorem GY(hc:X.calm=true){k:Nat}(hr:fS (k+3) X.A)(cd:gP X.K X.env.code P)(bm:BM X.mg X.base)(Jh:Gl X "sorted")(hm:X.mg "sorted"=none)(he:PE X e te)(hB:SN sc X.env.scope.names [x] N2 X.N=true)
  (hbind:∀qual cl pm c ctv u,bindArgs (PySem.W.kla_fn "<lambda>" qual args body sc cl pm c ctv) ⟨[u],[]⟩=pure [(x,u)])
  (hbody:∀q f cd s H,PE (X.lam X.A.in1.in1 sc ([x]++N2) q f cd s H) body tb)
  (hdef:defaultsOf args X.env=([],[]):=by rfl)
  (hkw:keywordEach [⟨some "key",.Lambda args body sc JQ,kpos⟩] X.env=[(some (Str.ofString "key"),eval (.Lambda args body sc JQ) X.env)]:=by rfl)
  (hse:starEach [e] X.env=(false,eval e X.env)::starEach [] X.env:=by rfl)(hst:backTo pos (starEach [e] X.env)=(false,eval e X.env)::backTo pos (starEach [] X.env):=by rfl)
  (hpl:(backTo pos (starEach [e] X.env)).any (·.1)=false:=by rfl):PE X (.Call (.Name "sorted" p) [e] [⟨some "key",.Lambda args body sc JQ,kpos⟩] pos) (MW tb X.K P te):=by
 intro pins s σ H Q I h
 unfold SN at hB
 simp only[Bool.and_eq_true]at hB
 obtain⟨⟨⟨⟨⟨h1,h2⟩,h3⟩,h4⟩,h5⟩,h6⟩:=hB
 have Bk:=j7 h1
 have nc:∀y∈sc.names,y.2≠ .cell:=λy hy=>by
  have q:=List.all_eq_true.mp h5 y hy
  simpa using q
 have hx:sc.names.lookup x=some .local:=by
  have q:=List.all_eq_true.mp h6 x (by simp)
  simpa using q
 refine wpAny_Call_Name_kw (mh I Jh hm PyProof.Rows.boot_sorted ?_)
 refine PyProof.Rows.callWith_kw (fZ ((af he ak hse) pos pins s σ H (λvs H1=>match vs with| [v]=>Fy tb X.K P σ v H1 Q|_=>False) I h) λus s1 ⟨vs,H1,I1,r,q⟩=> ?_) hst hpl
 match vs,r,q with
 | [v],r,q=>
  obtain⟨l,ys,kf,rfl,hq,h64,hP,step,fin⟩:=q
  obtain⟨u,rfl,ru⟩:=vals1 r
  cases ru
  show wpAny _ _ (evalAll [do let v<-eval (.Lambda args body sc JQ) X.env;standAt pos;pure v]) _ _ s1
  refine wpAny_evalAll_cons (wpAny_bind (GK I1 cd hP bm Bk hdef λf H2 s2 I2 sm fr L=>wpAny_bind (wpAny_standAt (wpAny_pure (wpAny_evalAll_nil ?_)))))
  refine BD (kf:=kf) I2 (JP hq sm) h64 (λqB v Hi u si hv Xn rv J=> ?_) λHn zs YW pz so=>fin Hn zs (sm.trans YW) pz so
  exact MP J (L.same Xn) Bk (by simpa using h2) (by simpa using h3) (by simpa using h4) nc hx hbind J.ok.frames (J.ok.hd hc) hr.depth (λq cd=>hbody q f cd si Hi) rv (step v hv Hi (sm.trans Xn))
end
end L2
namespace L2
open PySem PySem.Spec PyProof.Rows
section
variable{M:Model}{A:Around}{E:Value->Shared->Prop}{s:Shared}{base:Heap}{env:Env}{outer:List Env}{L e:Addr}{cls a0:Value}
end
section
variable{P:Program}{w:World}{K:PySem.W.Frag}{mg:Str->Option Value}{base:Heap}{N:List Str}{qual:Str}{scope:Scope}{f:Addr}{cd:Value}{A:Around}{outer:List Env}{s:Shared}{H:Hp}{E:XK}
end
section
variable{X:Cx}{pins:List (Addr×Obj)}{σ:St}{H:Hp}{s:Shared}
noncomputable def Ends.behind(D:Ends)(i:Nat):Ends:={nx:=λσ H=>D.nx (σ.set i none) H,rt:=D.rt,bk:=λσ H=>D.bk (σ.set i none) H,ct:=λσ H=>D.ct (σ.set i none) H}
end
end L2
namespace L2
open PySem PySem.Spec PyProof.Rows PySem.W Builtin Builtin.ObjectAttr Builtin.Getset_descriptor
section
variable{K:Frag}{x D:Addr}
end
end L2
namespace L2
open PySem PySem.Spec PyProof.Rows
section
variable{P:Program}{w:World}{K:PySem.W.Frag}{mg:Str->Option Value}{base:Heap}
end
section
variable{X:Cx}{pins:List (Addr×Obj)}{σ:St}{H:Hp}{s:Shared}
end
section
variable{X:Cx}
end
structure dQ(P:Program)(w:World)(K:PySem.W.Frag)(mg:Str->Option Value)(base:Heap)(C:EN)(k:Nat)(x:Str)(ps:List Str)(sp:Sp):Prop where
 ex:∃f fd,pJ P w K mg base C k f fd ps sp/\Binds K fd ps []/\PySem.W.keepIn K (.ref f)=true/\mg x=some (.ref f)
structure fU(K:PySem.W.Frag)(mg:Str->Option Value)(x:Str)(st:Stmt)(ps:List Str):Prop where
 ex:∃f fd,NN K x x st f fd/\Binds K fd ps []/\mg x=some (.ref f)
structure qO(K:PySem.W.Frag)(mg:Str->Option Value)(x:Str)(st:Stmt)(ps:List Str)(T:Addr):Prop where
 ex:∃f fd,Gz K x x st f fd T/\Binds K fd ps []/\mg x=some (.ref f)
section
variable{P:Program}{w:World}{K:PySem.W.Frag}{mg:Str->Option Value}{base:Heap}{C:EN}{x:Str}{st:Stmt}{N ps:List Str}{j k:Nat}{sp:Sp}{T:Addr}
theorem dQ.mono(F:dQ P w K mg base C j x ps sp)(h:j<=k:=by decide):dQ P w K mg base C k x ps sp:=by
 obtain⟨f,fd,a,b⟩:=F.ex
 exact⟨f,fd,a.mono h,b⟩
theorem fU.ok(F:fU K mg x st ps)(S:aR N ps (aC st))(len:∀vs H Q E,sp vs H Q E->vs.length=ps.length)
  (hbody:∀f (cdv:Value) (A:Around) (outer:List Env) (s:Shared) (H:Hp) (vs:List V) (Q:VK) (E:XK),fS k (A.deeper (envOfC x (aC st) s.heap.objs.size f cdv)) ->sp vs H Q E->
   ∃t,yZ (zh dz P w K mg base N x (aC st) f cdv A outer s H E).HW (fL st) t/\t {nx:=λ_ H'=>Q .gK H',rt:=Q} (start N vs) H):dQ P w K mg base dz (k+1) x ps sp:=by
 obtain⟨f,fd,a,b,m⟩:=F.ex
 exact⟨f,fd,a.ok S len (hbody f),b,a.kp,m⟩
theorem qO.ok(F:qO K mg x st ps T)(S:aR N ps (aC st))(len:∀vs H Q E,sp vs H Q E->vs.length=ps.length)
  (hbody:∀f (cdv:Value) (A:Around) (outer:List Env) (s:Shared) (H:Hp) (vs:List V) (Q:VK) (E:XK),gP K cdv T->fS k (A.deeper (envOfC x (aC st) s.heap.objs.size f cdv)) ->sp vs H Q E->
   ∃t,yZ (zh dz P w K mg base N x (aC st) f cdv A outer s H E).HW (fL st) t/\t {nx:=λ_ H'=>Q .gK H',rt:=Q} (start N vs) H):dQ P w K mg base dz (k+1) x ps sp:=by
 obtain⟨f,fd,a,b,m⟩:=F.ex
 exact⟨f,fd,a.ok S len (hbody f),b,a.kp,m⟩
end
theorem aP{X:Cx}{CX:EN}{k:Nat}{ps:List Str}{sp:Sp}{E:XK}{x:Str}{p pos:Pos}{e:Expr}{es:List Expr}{t:TA}(F:dQ X.prog X.w X.K X.mg X.base CX k x ps sp)(hr:fS k X.A)(hg:Gl X x)(hx:Passes CX X E)(ha:PA X (e::es) t)
  (hdb:(x==("__debug__":Str))=false:=by decide)(he:starEach (e::es) X.env=(false,eval e X.env)::starEach es X.env:=by rfl)(hpl:(backTo pos (starEach es X.env)).any (·.1)=false:=by rfl):
  PE X (.Call (.Name x p) (e::es) [] pos) (j5 sp [] E t):=by
 obtain⟨f,fd,a,b,kp,m⟩:=F.ex
 exact LW a hr hg m kp b .nil hx ha hdb he hpl
noncomputable def FnAt(K:PySem.W.Frag)(x:Str)(st:Stmt)(f:Addr):Prop:=∃(oc:Value)(od an:Option Addr)(sl:Array (Option Value))(kV dc pm cd ct:Value),PySem.W.nsIn K mainGlobals x=some (some (.ref f))/\
 K.lookup f=some ⟨oc,od,.func (PySem.W.fnOf x x (gZ st) (fL st) (aC st) .none kV dc pm an cd ct),sl⟩/\PySem.W.codeIn K cd x=true/\PySem.W.keepIn K (.ref f)=true
theorem fnAt{K:PySem.W.Frag}{x:Str}{st:Stmt}{f:Addr}{oc:Value}{od an:Option Addr}{sl:Array (Option Value)}{kV dc pm cd ct:Value}(a:PySem.W.nsIn K mainGlobals x=some (some (.ref f)):=by k_is)
  (l:K.lookup f=some ⟨oc,od,.func (PySem.W.fnOf x x (gZ st) (fL st) (aC st) .none kV dc pm an cd ct),sl⟩:=by k_is)(c:PySem.W.codeIn K cd x=true:=by k_is)(k:PySem.W.keepIn K (.ref f)=true:=by k_is):FnAt K x st f:=
 ⟨oc,od,an,sl,kV,dc,pm,cd,ct,a,l,c,k⟩
section
variable{q:Program}{loose:List Str}{mean:ExcName->Option Value}{mg mb:Str->Option Value}{h:Heap}{K:PySem.W.Frag}{x:Str}{st:Stmt}{f:Addr}{ps:List Str}
theorem FnAt.fun(Tp:Top q loose mean mg mb h)(X:K.In h)(A:FnAt K x st f)
  (hb:∀(kV doc pm:Value)(an:Option Addr)(cdv ct:Value)(us:List Value),us.length=ps.length->bindArgs (PySem.W.fnOf x x (gZ st) (fL st) (aC st) .none kV doc pm an cdv ct) ⟨us,[]⟩=pure (ps.zip us)):fU K mg x st ps:=by
 obtain⟨oc,od,an,sl,kV,dc,pm,cd,ct,a,l,c,k⟩:=A
 have F:=IP (st:=st) l c k
 exact⟨f,_,F,F.binds hb,PySem.W.mg_of X Tp.g a⟩
theorem FnAt.GZ(Tp:Top q loose mean mg mb h)(X:K.In h)(A:FnAt K x st f){d:DefRec}(r:(recsOf q).find? (λe=>e.name==x)=some d)
  (hb:∀(kV doc pm:Value)(an:Option Addr)(cdv ct:Value)(us:List Value),us.length=ps.length->bindArgs (PySem.W.fnOf x x (gZ st) (fL st) (aC st) .none kV doc pm an cdv ct) ⟨us,[]⟩=pure (ps.zip us)):
  ∃T,qO K mg x st ps T/\isCodeTable h T/\h.get? T=some {cls:= .none,data:= .fields #[]}/\tabOf K f=some (.ref T):=by
 obtain⟨oc,od,an,sl,kV,dc,pm,cd,ct,a,l,c,k⟩:=A
 have m:=PySem.W.mg_of X Tp.g a
 obtain⟨T,cA,cT,cE⟩:=CY Tp r X m l (show PySem.W.codeIn K (PySem.W.fnOf x x (gZ st) (fL st) (aC st) .none kV dc pm an cd ct).code x=true from c)
 have F:Gz K x x st f _ T:=⟨⟨oc,od,kV,dc,pm,an,cd,ct,sl,rfl,l,c,cA⟩,k⟩
 exact⟨T,⟨f,_,F,F.fn.binds hb,m⟩,cT,cE,Bb l cA⟩
end
end L2
set_option maxHeartbeats 1000000
namespace CX
open PySem L2
noncomputable def top(i:Nat):Stmt:=PySem.Challenge.pw_conekin_k28_least_forms_are_small.main.body.getD i (.Pass ⟨0,0,0,0⟩)
noncomputable abbrev pX:Stmt:=top 5
noncomputable abbrev kj:List Str:=["thing"]
theorem BE:aR ["thing"] kj (aC pX):=⟨rfl,rfl,rfl,by decide+kernel,rfl,by decide+kernel,by decide+kernel⟩
noncomputable abbrev vO:Stmt:=top 6
noncomputable abbrev oh:List Str:=["thing"]
theorem Hf:aR ["thing"] oh (aC vO):=⟨rfl,rfl,rfl,by decide+kernel,rfl,by decide+kernel,by decide+kernel⟩
noncomputable abbrev pY:Stmt:=top 7
noncomputable abbrev ko:List Str:=["thing"]
theorem BF:aR ["thing"] ko (aC pY):=⟨rfl,rfl,rfl,by decide+kernel,rfl,by decide+kernel,by decide+kernel⟩
noncomputable abbrev rQ:Stmt:=top 8
noncomputable abbrev jX:List Str:=["one","other"]
theorem Dz:aR ["one","other"] jX (aC rQ):=⟨rfl,rfl,rfl,by decide+kernel,rfl,by decide+kernel,by decide+kernel⟩
noncomputable abbrev lD:Stmt:=top 9
noncomputable abbrev gn:List Str:=["table"]
theorem vP:aR ["table"] gn (aC lD):=⟨rfl,rfl,rfl,by decide+kernel,rfl,by decide+kernel,by decide+kernel⟩
noncomputable abbrev kq:Stmt:=top 10
noncomputable abbrev gC:List Str:=["table","i","j"]
theorem jv:aR ["table","i","j","row","next_row","column","next_column"] gC (aC kq):=⟨rfl,rfl,rfl,by decide+kernel,rfl,by decide+kernel,by decide+kernel⟩
noncomputable abbrev lE:Stmt:=top 11
noncomputable abbrev eN:List Str:=["table"]
theorem cS:aR ["table","a","b","c","d","e","f","g","h","i"] eN (aC lE):=⟨rfl,rfl,rfl,by decide+kernel,rfl,by decide+kernel,by decide+kernel⟩
noncomputable abbrev zU:Stmt:=top 12
noncomputable abbrev qP:List Str:=["table"]
theorem Kf:aR ["table"] qP (aC zU):=⟨rfl,rfl,rfl,by decide+kernel,rfl,by decide+kernel,by decide+kernel⟩
noncomputable abbrev pZ:Stmt:=top 13
noncomputable abbrev kr:List Str:=["table"]
theorem BG:aR ["table"] kr (aC pZ):=⟨rfl,rfl,rfl,by decide+kernel,rfl,by decide+kernel,by decide+kernel⟩
noncomputable abbrev rR:Stmt:=top 14
noncomputable abbrev jY:List Str:=["table","by"]
theorem DC:aR ["table","by"] jY (aC rR):=⟨rfl,rfl,rfl,by decide+kernel,rfl,by decide+kernel,by decide+kernel⟩
noncomputable abbrev jx:Stmt:=top 17
noncomputable abbrev f9:List Str:=["thing"]
theorem rS:aR ["thing"] f9 (aC jx):=⟨rfl,rfl,rfl,by decide+kernel,rfl,by decide+kernel,by decide+kernel⟩
noncomputable abbrev rT:Stmt:=top 18
noncomputable abbrev l6:List Str:=["thing"]
theorem DE:aR ["thing"] l6 (aC rT):=⟨rfl,rfl,rfl,by decide+kernel,rfl,by decide+kernel,by decide+kernel⟩
noncomputable abbrev rV:Stmt:=top 19
noncomputable abbrev gI:List Str:=["table","one","other"]
theorem mK:aR ["table","one","other","x","y","z"] gI (aC rV):=⟨rfl,rfl,rfl,by decide+kernel,rfl,by decide+kernel,by decide+kernel⟩
noncomputable abbrev zV:Stmt:=top 20
noncomputable abbrev mL:List Str:=["table","row"]
theorem Kg:aR ["table","row"] mL (aC zV):=⟨rfl,rfl,rfl,by decide+kernel,rfl,by decide+kernel,by decide+kernel⟩
noncomputable abbrev rW:Stmt:=top 21
noncomputable abbrev l7:List Str:=["table"]
theorem p5:aR ["table","first","mixed"] l7 (aC rW):=⟨rfl,rfl,rfl,by decide+kernel,rfl,by decide+kernel,by decide+kernel⟩
noncomputable abbrev DF:Stmt:=top 22
noncomputable abbrev vQ:List Str:=["form"]
theorem Fz:aR ["form","told"] vQ (aC DF):=⟨rfl,rfl,rfl,by decide+kernel,rfl,by decide+kernel,by decide+kernel⟩
noncomputable abbrev p6:Stmt:=top 24
noncomputable abbrev iW:List Str:=["form","rows"]
theorem BH:aR ["form","rows"] iW (aC p6):=⟨rfl,rfl,rfl,by decide+kernel,rfl,by decide+kernel,by decide+kernel⟩
noncomputable abbrev mO:Stmt:=top 25
noncomputable abbrev gJ:List Str:=["row","times","other"]
theorem xw:aR ["row","times","other"] gJ (aC mO):=⟨rfl,rfl,rfl,by decide+kernel,rfl,by decide+kernel,by decide+kernel⟩
noncomputable abbrev rX:Stmt:=top 26
noncomputable abbrev l8:List Str:=["top","bottom"]
theorem DG:aR ["top","bottom"] l8 (aC rX):=⟨rfl,rfl,rfl,by decide+kernel,rfl,by decide+kernel,by decide+kernel⟩
noncomputable abbrev mP:Stmt:=top 27
noncomputable abbrev iB:List Str:=["form","one","other"]
theorem lF:aR ["form","one","other"] iB (aC mP):=⟨rfl,rfl,rfl,by decide+kernel,rfl,by decide+kernel,by decide+kernel⟩
noncomputable abbrev p7:Stmt:=top 28
noncomputable abbrev ku:List Str:=["form","one","other","third"]
theorem gD:aR ["form","one","other","third","across","along","aside","by_one","by_other","area","first","second","corners"] ku (aC p7):=⟨rfl,rfl,rfl,by decide+kernel,rfl,by decide+kernel,by decide+kernel⟩
noncomputable abbrev mQ:Stmt:=top 29
noncomputable abbrev iC:List Str:=["form"]
theorem dF:aR ["form","one","other","third"] iC (aC mQ):=⟨rfl,rfl,rfl,by decide+kernel,rfl,by decide+kernel,by decide+kernel⟩
noncomputable abbrev DH:Stmt:=top 30
noncomputable abbrev vR:List Str:=["form"]
theorem FD:aR ["form","basis"] vR (aC DH):=⟨rfl,rfl,rfl,by decide+kernel,rfl,by decide+kernel,by decide+kernel⟩
noncomputable abbrev DI:Stmt:=top 32
noncomputable abbrev rY:List Str:=["number"]
theorem zW:aR ["number","told"] rY (aC DI):=⟨rfl,rfl,rfl,by decide+kernel,rfl,by decide+kernel,by decide+kernel⟩
noncomputable abbrev vS:Stmt:=top 33
noncomputable abbrev om:List Str:=["table","n"]
theorem cY:aR ["table","n","first","mixed","far","second","third","flat","bent","high","whole","most","told","reach","z","span","y","left"] om (aC vS):=⟨rfl,rfl,rfl,by decide+kernel,rfl,by decide+kernel,by decide+kernel⟩
noncomputable abbrev oq:Stmt:=top 34
noncomputable abbrev jl:List Str:=["table","n"]
theorem dS:aR ["table","n","first","told","y","z","shift","left","side","sides","number"] jl (aC oq):=⟨rfl,rfl,rfl,by decide+kernel,rfl,by decide+kernel,by decide+kernel⟩
noncomputable abbrev lG:Stmt:=top 36
noncomputable abbrev gW:List Str:=["table"]
theorem vU:aR ["table"] gW (aC lG):=⟨rfl,rfl,rfl,by decide+kernel,rfl,by decide+kernel,by decide+kernel⟩
noncomputable abbrev iX:Stmt:=top 37
noncomputable abbrev fQ:List Str:=["table","firsts","seconds"]
theorem kW:aR ["table","firsts","seconds","halved"] fQ (aC iX):=⟨rfl,rfl,rfl,by decide+kernel,rfl,by decide+kernel,by decide+kernel⟩
noncomputable abbrev lH:Stmt:=top 38
noncomputable abbrev gX:List Str:=["table"]
theorem cg:aR ["table","firsts","seconds","thirds","best","told","mixed","one","other","third","found"] gX (aC lH):=⟨rfl,rfl,rfl,by decide+kernel,rfl,by decide+kernel,by decide+kernel⟩
noncomputable abbrev zX:Stmt:=top 39
noncomputable abbrev qQ:List Str:=["form"]
theorem qR:aR ["form","table","basis","last"] qQ (aC zX):=⟨rfl,rfl,rfl,by decide+kernel,rfl,by decide+kernel,by decide+kernel⟩
noncomputable abbrev p8:Stmt:=top 41
noncomputable abbrev kB:List Str:=["_law_script","_law_at"]
theorem jm:aR ["_law_script","_law_at","_law_cell","_law_great"] kB (aC p8):=⟨rfl,rfl,rfl,by decide+kernel,rfl,by decide+kernel,by decide+kernel⟩
noncomputable abbrev ou:Stmt:=top 42
noncomputable abbrev fV:List Str:=["_law_bag_here","_law_many"]
theorem qS:aR ["_law_bag_here","_law_many","_law_digit"] fV (aC ou):=⟨rfl,rfl,rfl,by decide+kernel,rfl,by decide+kernel,by decide+kernel⟩
noncomputable abbrev ie:Stmt:=top 43
noncomputable abbrev cW:List Str:=["_law_t"]
theorem gR:aR ["_law_t","_law_first","_law_second"] cW (aC ie):=⟨rfl,rfl,rfl,by decide+kernel,rfl,by decide+kernel,by decide+kernel⟩
noncomputable abbrev kC:Stmt:=top 44
noncomputable abbrev gE:List Str:=["_law_form","_law_one","_law_other"]
theorem gb:aR ["_law_form","_law_one","_law_other","_law_total","_law_i","_law_j"] gE (aC kC):=⟨rfl,rfl,rfl,by decide+kernel,rfl,by decide+kernel,by decide+kernel⟩
noncomputable abbrev kD:Stmt:=top 46
noncomputable abbrev gF:List Str:=["_law_form","_law_by"]
theorem uc:aR ["_law_form","_law_by"] gF (aC kD):=⟨rfl,rfl,rfl,by decide+kernel,rfl,by decide+kernel,by decide+kernel⟩
noncomputable abbrev iD:Stmt:=top 47
noncomputable abbrev fK:List Str:=["_law_bag_here"]
theorem cX:aR ["_law_bag_here","_law_a","_law_b","_law_c","_law_one","_law_other","_law_third"] fK (aC iD):=⟨rfl,rfl,rfl,by decide+kernel,rfl,by decide+kernel,by decide+kernel⟩
noncomputable abbrev jy:Stmt:=top 48
noncomputable abbrev gc:List Str:=["_law_form"]
theorem rZ:aR ["_law_form"] gc (aC jy):=⟨rfl,rfl,rfl,by decide+kernel,rfl,by decide+kernel,by decide+kernel⟩
noncomputable abbrev kE:Stmt:=top 49
noncomputable abbrev gG:List Str:=["_law_bag_here","_law_most"]
theorem g6:aR ["_law_bag_here","_law_most","_law_turn","_law_form","_law_last"] gG (aC kE):=⟨rfl,rfl,rfl,by decide+kernel,rfl,by decide+kernel,by decide+kernel⟩
noncomputable abbrev mR:Stmt:=top 50
noncomputable abbrev iE:List Str:=["_law_bag_here","_law_far"]
theorem gp:aR ["_law_bag_here","_law_far","_law_made","_law_turn","_law_i","_law_j","_law_times"] iE (aC mR):=⟨rfl,rfl,rfl,by decide+kernel,rfl,by decide+kernel,by decide+kernel⟩
noncomputable abbrev mS:Stmt:=top 51
noncomputable abbrev iF:List Str:=[]
theorem xx:aR [] iF (aC mS):=⟨rfl,rfl,rfl,by decide+kernel,rfl,by decide+kernel,by decide+kernel⟩
noncomputable abbrev mT:Stmt:=top 52
noncomputable abbrev iG:List Str:=[]
theorem xy:aR [] iG (aC mT):=⟨rfl,rfl,rfl,by decide+kernel,rfl,by decide+kernel,by decide+kernel⟩
noncomputable abbrev mU:Stmt:=top 53
noncomputable abbrev iH:List Str:=["_law_form"]
theorem xA:aR ["_law_form"] iH (aC mU):=⟨rfl,rfl,rfl,by decide+kernel,rfl,by decide+kernel,by decide+kernel⟩
noncomputable abbrev jz:Stmt:=top 54
noncomputable abbrev gf:List Str:=["_law_form"]
theorem iY:aR ["_law_form","_law_i","_law_j"] gf (aC jz):=⟨rfl,rfl,rfl,by decide+kernel,rfl,by decide+kernel,by decide+kernel⟩
noncomputable abbrev qT:Stmt:=top 55
noncomputable abbrev SQ:List Str:=["_law_script"]
theorem mV:aR ["_law_script","_law_k","_law_bag_here","_law_form","_law_first","_law_others","_law_row","_law_at","_law_basis_here"] SQ (aC qT):=⟨rfl,rfl,rfl,by decide+kernel,rfl,by decide+kernel,by decide+kernel⟩
section
variable{P:Program}{w:World}{K:PySem.W.Frag}{mg:Str->Option Value}{base:Heap}
inductive DJ(T0:Addr)(vs:List V)(H:Hp)(Q:VK)(E:XK):Prop
 |mk(t1:Addr)(b1:List Addr)(m1:List (List Int))(t2:Addr)(b2:List Addr)(m2:List (List Int))(_:vs=[.ref t1,.ref t2])(_:Tab H t1 b1 m1)(_:Tab H t2 b2 m2)(_:bE m1)(_:bE m2)(_:Bd 4096 m1)(_:Bd 4096 m2)(_:H T0=some (fE T0))(_:∀r bs H',az H H'->H r=none->(∀b∈bs,H b=none) ->r∉bs->Tab H' r bs (gu m1 m2) ->Q (.ref r) H')
theorem DK{bO:Addr}(F:qO K mg "product" rQ jX bO)(bm:BM mg base)(yG:mg "sum"=none)(aH:mg "range"=none):dQ P w K mg base dz 1 "product" jX (DJ bO):=by
 refine F.ok Dz (λvs H Q E h=> ?_) (λf cdv A outer s H vs Q E cd hr h=> ?_)
 ·obtain⟨t1,b1,m1,t2,b2,m2,rfl,h1,h2,c1,c2,d1,d2,hP,q⟩:=h
  rfl
 obtain⟨t1,b1,m1,t2,b2,m2,rfl,h1,h2,c1,c2,d1,d2,hP,q⟩:=h
 have hu:=hr.units
 refine⟨_,(cF (aW (lu (N2:=["one","other"]) (te:=(tP 1 (x9 (dw (tC (.int 3)) j4)) (dZ 0) (AZ 1 bO (x9 (dw (tC (.int 3)) j4)) (dZ 0) (jq (rI nI λi j=> .int (i*j)) (jq (jM K) (jq (jM K) (bU 3) (bU 2)) (bU 0)) (jq (jM K) (jq (jM K) (bU 4) (bU 0)) (bU 1)))))) rfl (cN rfl aH (af ah ak)) (by kernel_rfl) rfl (λ_ _ _=>by exact ly (lu (N2:=["i","one","other"]) (te:=(AZ 1 bO (x9 (dw (tC (.int 3)) j4)) (dZ 0) (jq (rI nI λi j=> .int (i*j)) (jq (jM K) (jq (jM K) (bU 3) (bU 2)) (bU 0)) (jq (jM K) (jq (jM K) (bU 4) (bU 0)) (bU 1))))) rfl (cN rfl aH (af ah ak)) (by kernel_rfl) rfl (λ_ _ _=>by exact ly (Mp (N2:=["j","i","one","other"]) (te:=(jq (rI nI λi j=> .int (i*j)) (jq (jM K) (jq (jM K) (bU 3) (bU 2)) (bU 0)) (jq (jM K) (jq (jM K) (bU 4) (bU 0)) (bU 1)))) rfl (fS.depth hr) cd bm rfl yG (cN rfl aH (af ah ak)) (by kernel_rfl) (λ_ _ _ _=>by exact ly (aq aE (aD au (aD au (pv 3) (pv 2) (λ_ _=>rfl)) (pv 0) (λ_ _=>rfl)) (aD au (aD au (pv 4) (pv 0) (λ_ _=>rfl)) (pv 1) (λ_ _=>rfl))))))))))),?_⟩
 refine⟨3,rfl,by decide,by decide,λD hD=>zB (gT (n:=3)) rfl hD _ (λi x hi ex H1 Q1 s1 k1=> ?_) (λbs H1 s1 fr nD hT=>q D bs H1 s1 hD fr nD hT)⟩
 obtain⟨_,rfl⟩:=fN ex
 refine⟨3,rfl,by decide,by decide,λD2 Kh=>qE (gT (n:=3)) rfl Kh (λj=>ent m1 i 0*ent m2 0 j+ent m1 i 1*ent m2 1 j+ent m1 i 2*ent m2 2 j) (λj x hj Qd H2 Q2 s2 k2=> ?_) (λH2 s2 e2=>k1 D2 H2 Kh s2 e2)⟩
 obtain⟨_,rfl⟩:=fN Qd
 refine⟨3,rfl,by decide,by decide,Pq (gT (n:=3)) (s2 _ _ (s1 _ _ hP)) (λk=>ent m1 i k*ent m2 k j) (λk x YX H3 Q3 s3 k3=> ?_) (λH3 s3=> ?_)⟩
 ·obtain⟨hk,rfl⟩:=fN YX
  have sm:=s1.trans (s2.trans s3)
  obtain⟨b,row,e1,e2,e3⟩:=kQ (h1.same sm) c1 hi hk
  obtain⟨b',VJ,AW,IZ,VL⟩:=kQ (h2.same sm) c2 hk hj
  exact⟨_,rfl,_,rfl,t1,_,_,_,rfl,rfl,aU.of (h1.same sm).1,e1,_,rfl,b,_,_,_,rfl,rfl,aU.of e2,e3,_,rfl,_,rfl,t2,_,_,_,rfl,rfl,aU.of (h2.same sm).1,AW,_,rfl,b',_,_,_,rfl,rfl,aU.of IZ,VL,_,_,rfl,rfl,⟨d1 i k hi hk,d2 k j hk hj⟩,k3 H3 (az.refl _)⟩
 ·have:=k2 H3 s3
  rw[show preSum (λk=>ent m1 i k*ent m2 k j) (mE 3).length=_ from Vu _]
  exact this
inductive DL(vs:List V)(H:Hp)(Q:VK)(E:XK):Prop
 |mk(t1:Addr)(b1:List Addr)(m1:List (List Int))(_:vs=[.ref t1])(_:Tab H t1 b1 m1)(_:bE m1)(_:∀r bs H',az H H'->H r=none->(∀b∈bs,H b=none) ->r∉bs->Tab H' r bs (dH m1) ->Q (.ref r) H')
theorem vV(F:fU K mg "turned_over" lD gn)(aH:mg "range"=none):dQ P w K mg base dz 1 "turned_over" gn DL:=by
 refine F.ok vP (λvs H Q E h=> ?_) (λf cdv A outer s H vs Q E hr h=> ?_)
 ·obtain⟨t1,b1,m1,rfl,h1,c1,q⟩:=h
  rfl
 obtain⟨t1,b1,m1,rfl,h1,c1,q⟩:=h
 have hu:=hr.units
 refine⟨_,(cF (aW (lu (N2:=["table"]) (te:=(tP 1 (x9 (dw (tC (.int 3)) j4)) (dZ 0) (jq (jM K) (jq (jM K) (bU 2) (bU 0)) (bU 1)))) rfl (cN rfl aH (af ah ak)) (by kernel_rfl) rfl (λ_ _ _=>by exact ly (lu (N2:=["i","table"]) (te:=(jq (jM K) (jq (jM K) (bU 2) (bU 0)) (bU 1))) rfl (cN rfl aH (af ah ak)) (by kernel_rfl) rfl (λ_ _ _=>by exact ly (aD au (aD au (pv 2) (pv 0) (λ_ _=>rfl)) (pv 1) (λ_ _=>rfl)))))))),?_⟩
 refine⟨3,rfl,by decide,by decide,λD hD=>zB (gT (n:=3)) rfl hD _ (λi x hi ex H1 Q1 s1 k1=> ?_) (λbs H1 s1 fr nD hT=>q D bs H1 s1 hD fr nD hT)⟩
 obtain⟨_,rfl⟩:=fN ex
 refine⟨3,rfl,by decide,by decide,λD2 Kh=>qE (gT (n:=3)) rfl Kh (λj=>ent m1 j i) (λj x hj Qd H2 Q2 s2 k2=> ?_) (λH2 s2 e2=>k1 D2 H2 Kh s2 e2)⟩
 obtain⟨_,rfl⟩:=fN Qd
 have sm:=s1.trans s2
 obtain⟨b,row,e1,e2,e3⟩:=kQ (h1.same sm) c1 hj hi
 exact⟨_,rfl,_,rfl,t1,_,_,_,rfl,rfl,aU.of (h1.same sm).1,e1,_,rfl,b,_,_,_,rfl,rfl,aU.of e2,e3,k2 H2 (az.refl _)⟩
inductive uJ(K:PySem.W.Frag)(vs:List V)(H:Hp)(Q:VK)(E:XK):Prop
 |mk(t:Addr)(bs:List Addr)(m:List (List Int))(i j:Nat)(_:vs=[.ref t,.int (i:Int),.int (j:Int)])(_:Tab H t bs m)(_:bE m)(_:i<3)(_:j<3)(_:Bd 4096 m)(_:Q (.int (iN m i j)) H)
theorem ud(F:fU K mg "signed_minor" kq gC):dQ P w K mg base dz 1 "signed_minor" gC (uJ K):=by
 refine F.ok jv (λvs H Q E h=> ?_) (λf cdv A outer s H vs Q E hr h=> ?_)
 ·obtain⟨t,bs,m,i,j,rfl,hT,b7,hi,hj,hB,q⟩:=h
  rfl
 obtain⟨t,bs,m,i,j,rfl,hT,b7,hi,hj,hB,q⟩:=h
 have hu:=hr.units
 refine⟨_,(oO (@aB _ _ _ _ _ (uW (i:=3) (j:=4) rfl jv.nd rfl rfl (by decide) rfl rfl (af (aD au (pv 0) (aq g8 (aq bV (pv 1) ah) ah) (λ_ _=>rfl)) (af (aD au (pv 0) (aq g8 (aq bV (pv 1) ah) ah) (λ_ _=>rfl)) ak)) rfl)
  (@aB _ _ _ _ _ (uW (i:=5) (j:=6) rfl jv.nd rfl rfl (by decide) rfl rfl (af (aq g8 (aq bV (pv 2) ah) ah) (af (aq g8 (aq bV (pv 2) ah) ah) ak)) rfl)
  (@aT _ _ _ (aW (aq dG (aq aE (aD au (pv 3) (pv 5) (λ_ _=>rfl)) (aD au (pv 4) (pv 6) (λ_ _=>rfl))) (aq aE (aD au (pv 3) (pv 6) (λ_ _=>rfl)) (aD au (pv 4) (pv 5) (λ_ _=>rfl))))))))),?_⟩
 obtain⟨b,e1,e2,_⟩:=aZ hT b7 (i:=(i+1)%3) (wY _)
 obtain⟨b',AW,IZ,_⟩:=aZ hT b7 (i:=(i+2)%3) (wY _)
 rw[<-m3 i 1]at e1
 rw[<-m3 i 2]at AW
 refine⟨_,rfl,_,rfl,_,_,rfl,rfl,_,_,rfl,rfl,(by show(0:Int)<3;decide),t,_,_,_,rfl,rfl,aU.of hT.1,e1,?_⟩
 refine⟨_,rfl,_,rfl,_,_,rfl,rfl,_,_,rfl,rfl,(by show(0:Int)<3;decide),t,_,_,_,rfl,rfl,aU.of hT.1,AW,_,_,rfl,?_⟩
 refine⟨_,rfl,_,_,rfl,rfl,_,_,rfl,rfl,(by show(0:Int)<3;decide),_,rfl,_,_,rfl,rfl,_,_,rfl,rfl,(by show(0:Int)<3;decide),_,_,rfl,?_⟩
 have a1:=zC (λc=>ent m ((i+1)%3) c) (c:=(j+1)%3) (wY _)
 have a2:=zC (λc=>ent m ((i+2)%3) c) (c:=(j+2)%3) (wY _)
 have a3:=zC (λc=>ent m ((i+1)%3) c) (c:=(j+2)%3) (wY _)
 have a4:=zC (λc=>ent m ((i+2)%3) c) (c:=(j+1)%3) (wY _)
 rw[<-m3 j 1]at a1 a4
 rw[<-m3 j 2]at a2 a3
 refine⟨_,rfl,_,rfl,b,_,_,_,rfl,rfl,aU.of e2,a1,_,rfl,_,rfl,b',_,_,_,rfl,rfl,aU.of IZ,a2,_,_,rfl,rfl,⟨hB _ _ (wY _) (wY _),hB _ _ (wY _) (wY _)⟩,?_⟩
 exact⟨_,rfl,_,rfl,b,_,_,_,rfl,rfl,aU.of e2,a3,_,rfl,_,rfl,b',_,_,_,rfl,rfl,aU.of IZ,a4,_,_,rfl,rfl,⟨hB _ _ (wY _) (wY _),hB _ _ (wY _) (wY _)⟩,_,_,rfl,rfl,q⟩
theorem vW{H:Hp}{t:Addr}{bs:List Addr}{m:List (List Int)}(hT:Tab H t bs m)(b7:bE m):∃c0 c1 c2,bs=[c0,c1,c2]/\bH H c0 (λc=>ent m 0 c)/\bH H c1 (λc=>ent m 1 c)/\bH H c2 (λc=>ent m 2 c):=by
 have l3:bs.length=3:=by rw[<-hT.2.length,b7.1]
 match bs,l3,hT with
 | [c0,c1,c2],_,hT=>
  obtain⟨b0,x1,x2,_⟩:=aZ hT b7 (i:=0) (by decide)
  obtain⟨b1,y1,y2,_⟩:=aZ hT b7 (i:=1) (by decide)
  obtain⟨b2,w1,w2,_⟩:=aZ hT b7 (i:=2) (by decide)
  cases x1;cases y1;cases w1
  exact⟨c0,c1,c2,rfl,x2,y2,w2⟩
inductive BI(vs:List V)(H:Hp)(Q:VK)(E:XK):Prop
 |mk(t:Addr)(bs:List Addr)(m:List (List Int))(_:vs=[.ref t])(_:Tab H t bs m)(_:bE m)(_:Bd 1000 m)(_:True)(_:∀H',az H H'->Q (.int (aA m)) H')
theorem vX(F:fU K mg "determinant" lE eN):dQ P w K mg base dz 3 "determinant" eN BI:=by
 refine F.ok cS (λvs H Q E h=> ?_) (λf cdv A outer s H vs Q E hr h=> ?_)
 ·obtain⟨t,bs,m,rfl,hT,b7,hB,hP,q⟩:=h
  rfl
 obtain⟨t,bs,m,rfl,hT,b7,hB,hP,q⟩:=h
 have hu:=hr.units
 refine⟨_,(oO (@aB _ _ _ _ _ (iO (pv 0) (jc rfl (aJ (jc rfl (aJ (aI (i:=1) cS.nd rfl (Or.inl rfl)) (aJ (aI (i:=2) cS.nd rfl (Or.inl rfl)) (aJ (aI (i:=3) cS.nd rfl (Or.inl rfl)) fj)))) (aJ (jc rfl (aJ (aI (i:=4) cS.nd rfl (Or.inl rfl)) (aJ (aI (i:=5) cS.nd rfl (Or.inl rfl)) (aJ (aI (i:=6) cS.nd rfl (Or.inl rfl)) fj)))) (aJ (jc rfl (aJ (aI (i:=7) cS.nd rfl (Or.inl rfl)) (aJ (aI (i:=8) cS.nd rfl (Or.inl rfl)) (aJ (aI (i:=9) cS.nd rfl (Or.inl rfl)) fj)))) fj)))))
  (@aT _ _ _ (aW (aq bV (aq bV (aq aE (pv 1) (aq dG (aq aE (pv 5) (pv 9)) (aq aE (pv 6) (pv 8)))) (aq aE (pv 2) (aq dG (aq aE (pv 6) (pv 7)) (aq aE (pv 4) (pv 9))))) (aq aE (pv 3) (aq dG (aq aE (pv 4) (pv 8)) (aq aE (pv 5) (pv 7))))))))),?_⟩
 obtain⟨c0,c1,c2,rfl,x2,y2,w2⟩:=vW hT b7
 refine⟨_,rfl,t,_,rfl,aU.of hT.1,rfl,_,_,rfl,c0,_,rfl,aU.of x2,rfl,_,_,rfl,_,_,rfl,_,_,rfl,rfl,_,_,rfl,c1,_,rfl,aU.of y2,rfl,_,_,rfl,_,_,rfl,_,_,rfl,rfl,_,_,rfl,c2,_,rfl,aU.of w2,rfl,_,_,rfl,_,_,rfl,_,_,rfl,rfl,rfl,?_⟩
 refine⟨_,rfl,_,rfl,_,rfl,_,_,rfl,rfl,⟨aL (hB 1 1 (by decide) (by decide)) (by decide),aL (hB 2 2 (by decide) (by decide)) (by decide)⟩,_,rfl,_,rfl,_,_,rfl,rfl,⟨aL (hB 1 2 (by decide) (by decide)) (by decide),aL (hB 2 1 (by decide) (by decide)) (by decide)⟩,_,_,rfl,rfl,_,_,rfl,rfl,⟨aL (hB 0 0 (by decide) (by decide)) (by decide),aL (lz (cH (hB 1 1 (by decide) (by decide)) (hB 2 2 (by decide) (by decide))) (cH (hB 1 2 (by decide) (by decide)) (hB 2 1 (by decide) (by decide)))) (by decide)⟩,_,rfl,_,rfl,_,rfl,_,_,rfl,rfl,⟨aL (hB 1 2 (by decide) (by decide)) (by decide),aL (hB 2 0 (by decide) (by decide)) (by decide)⟩,_,rfl,_,rfl,_,_,rfl,rfl,⟨aL (hB 1 0 (by decide) (by decide)) (by decide),aL (hB 2 2 (by decide) (by decide)) (by decide)⟩,_,_,rfl,rfl,_,_,rfl,rfl,⟨aL (hB 0 1 (by decide) (by decide)) (by decide),aL (lz (cH (hB 1 2 (by decide) (by decide)) (hB 2 0 (by decide) (by decide))) (cH (hB 1 0 (by decide) (by decide)) (hB 2 2 (by decide) (by decide)))) (by decide)⟩,_,_,rfl,rfl,_,rfl,_,rfl,_,rfl,_,_,rfl,rfl,⟨aL (hB 1 0 (by decide) (by decide)) (by decide),aL (hB 2 1 (by decide) (by decide)) (by decide)⟩,_,rfl,_,rfl,_,_,rfl,rfl,⟨aL (hB 1 1 (by decide) (by decide)) (by decide),aL (hB 2 0 (by decide) (by decide)) (by decide)⟩,_,_,rfl,rfl,_,_,rfl,rfl,⟨aL (hB 0 2 (by decide) (by decide)) (by decide),aL (lz (cH (hB 1 0 (by decide) (by decide)) (hB 2 1 (by decide) (by decide))) (cH (hB 1 1 (by decide) (by decide)) (hB 2 0 (by decide) (by decide)))) (by decide)⟩,_,_,rfl,rfl,?_⟩
 have e:ent m 0 0*(ent m 1 1*ent m 2 2-ent m 1 2*ent m 2 1)+ent m 0 1*(ent m 1 2*ent m 2 0-ent m 1 0*ent m 2 2)+ent m 0 2*(ent m 1 0*ent m 2 1-ent m 1 1*ent m 2 0)=aA m:=by
  rw[dI]
 have q:=q H (az.refl _)
 rw[<-e]at q
 exact q
inductive FF(vs:List V)(H:Hp)(Q:VK)(E:XK):Prop
 |mk(t1:Addr)(b1:List Addr)(m1:List (List Int))(_:vs=[.ref t1])(_:Tab H t1 b1 m1)(_:bE m1)(_:Bd 4096 m1)(_:∀r bs H',az H H'->H r=none->(∀b∈bs,H b=none) ->r∉bs->Tab H' r bs (ju m1) ->Q (.ref r) H')
theorem Kl(F:fU K mg "cover" zU qP)(aH:mg "range"=none)(kF:dQ P w K mg base dz 1 "signed_minor" gC (uJ K)):dQ P w K mg base dz 2 "cover" qP FF:=by
 refine F.ok Kf (λvs H Q E h=> ?_) (λf cdv A outer s H vs Q E hr h=> ?_)
 ·obtain⟨t1,b1,m1,rfl,h1,c1,d1,q⟩:=h
  rfl
 obtain⟨t1,b1,m1,rfl,h1,c1,d1,q⟩:=h
 have hu:=hr.units
 refine⟨_,(cF (aW (lu (N2:=["table"]) (te:=(tP 1 (x9 (dw (tC (.int 3)) j4)) (dZ 0) (j5 (uJ K) [] E0 (dw (bU 2) (dw (bU 0) (dw (bU 1) j4)))))) rfl (cN rfl aH (af ah ak)) (by kernel_rfl) rfl (λ_ _ _=>by exact ly (lu (N2:=["i","table"]) (te:=(j5 (uJ K) [] E0 (dw (bU 2) (dw (bU 0) (dw (bU 1) j4))))) rfl (cN rfl aH (af ah ak)) (by kernel_rfl) rfl (λ_ _ _=>by exact ly (aP kF hr rfl aM (af (pv 2) (af (pv 0) (af (pv 1) ak)))))))))),?_⟩
 refine⟨3,rfl,by decide,by decide,λD hD=>zB (gT (n:=3)) rfl hD (λi j=>iN m1 j i) (λi x hi ex H1 Q1 s1 k1=> ?_) (λbs H1 s1 fr nD hT=>q D bs H1 s1 hD fr nD hT)⟩
 obtain⟨_,rfl⟩:=fN ex
 refine⟨3,rfl,by decide,by decide,λD2 Kh=>qE (gT (n:=3)) rfl Kh (λj=>iN m1 j i) (λj x hj Qd H2 Q2 s2 k2=> ?_) (λH2 s2 e2=>k1 D2 H2 Kh s2 e2)⟩
 obtain⟨_,rfl⟩:=fN Qd
 exact⟨_,rfl,_,rfl,_,rfl,t1,b1,m1,j,i,rfl,h1.same (s1.trans s2),c1,hj,hi,d1,k2 H2 (az.refl _)⟩
inductive r6(T0:Addr)(vs:List V)(H:Hp)(Q:VK)(E:XK):Prop
 |mk(t1:Addr)(b1:List Addr)(m1:List (List Int))(t2:Addr)(b2:List Addr)(m2:List (List Int))(_:vs=[.ref t1,.ref t2])(_:Tab H t1 b1 m1)(_:Tab H t2 b2 m2)(_:bE m1)(_:bE m2)(_:Bd 1000 m1)(_:Bd 1000 m2)(_:H T0=some (fE T0))(_:∀r bs H',az H H'->H r=none->(∀b∈bs,H b=none) ->r∉bs->Tab H' r bs (gu (gu m2 m1) (dH m2)) ->Q (.ref r) H')
theorem DM{bO:Addr}(F:fU K mg "carried" rR jY)(iZ:dQ P w K mg base dz 1 "product" jX (DJ bO))(gr:dQ P w K mg base dz 1 "turned_over" gn DL):dQ P w K mg base dz 2 "carried" jY (r6 bO):=by
 refine F.ok DC (λvs H Q E h=> ?_) (λf cdv A outer s H vs Q E hr h=> ?_)
 ·obtain⟨t1,b1,m1,t2,b2,m2,rfl,h1,h2,c1,c2,d1,d2,hP,q⟩:=h
  rfl
 obtain⟨t1,b1,m1,t2,b2,m2,rfl,h1,h2,c1,c2,d1,d2,hP,q⟩:=h
 have hu:=hr.units
 refine⟨_,(cF (aW (aP iZ hr rfl aM (af (aP iZ hr rfl aM (af (pv 1) (af (pv 0) ak))) (af (aP gr hr rfl aM (af (pv 1) ak)) ak))))),?_⟩
 refine⟨_,rfl,_,rfl,t2,b2,m2,t1,b1,m1,rfl,h2,h1,c2,c1,d2.mono (by decide),d1.mono (by decide),hP,λr rs H1 s1 fr frs nr hr=> ?_⟩
 refine⟨_,rfl,t2,b2,m2,rfl,h2.same s1,c2,λo os H2 s2 fo fos no ho=> ?_⟩
 refine⟨r,rs,_,o,os,_,rfl,hr.same s2,ho,cP _,cP _,(uH d2 d1).mono (by decide),(Bf d2).mono (by decide),s2 _ _ (s1 _ _ hP),λu us H3 s3 fu VM nu Lz=> ?_⟩
 have sm:=s1.trans s2
 exact q u us H3 (sm.trans s3) (sm.none fu) (λb hb=>sm.none (VM b hb)) nu Lz
inductive Og(vs:List V)(H:Hp)(Q:VK)(E:XK):Prop
 |mk(t:Addr)(bs:List Addr)(m:List (List Int))(_:vs=[.ref t])(_:Tab H t bs m)(_:bE m)(_:Bd 440 m)(_:dH m=m)(_:True)(_:b8 m=true-> ∀H',az H H'->Q .gK H')(_:b8 m=false-> ∀(x:Nat->Int) a H',az H H'->H a=none->bH H' a x-> ¬(x 0=0/\x 1=0/\x 2=0) ->ay m x x<=0->(∀i,i<3->(x i).natAbs<2^1000) ->Q (.ref a) H')
theorem DN(F:fU K mg "low_row" rW l7)(cJ:dQ P w K mg base dz 3 "determinant" eN BI)(zY:dQ P w K mg base dz 3 "cover" qP FF):dQ P w K mg base dz 4 "low_row" l7 Og:=by
 refine F.ok p5 (λvs H Q E h=> ?_) (λf cdv A outer s H vs Q E hr h=> ?_)
 ·obtain⟨t,bs,m,rfl,hT,b7,hB,hS,hP,q1,q2⟩:=h
  rfl
 obtain⟨t,bs,m,rfl,hT,b7,hB,hS,hP,q1,q2⟩:=h
 have hu:=hr.units
 refine⟨_,(oO (@aB _ _ _ _ _ (aY (i:=1) p5.nd rfl (Or.inl rfl) (aD au (aD au (pv 0) ah (λ_ _=>rfl)) ah (λ_ _=>rfl)))
  (@aB _ _ _ _ _ (eE (cL vc (pv 1) ah (cK _)) (Df (iT (bg dJ (bg dJ (bg dJ iS (by kernel_rfl)) (by kernel_rfl)) (by kernel_rfl)))) d9)
  (@aB _ _ _ _ _ (aY (i:=2) p5.nd rfl (Or.inl rfl) (aD au (aD au (pv 0) ah (λ_ _=>rfl)) ah (λ_ _=>rfl)))
  (@aB _ _ _ _ _ (eE (cL vc (aq dG (aq aE (pv 1) (aD au (aD au (pv 0) ah (λ_ _=>rfl)) ah (λ_ _=>rfl))) (aq aE (pv 2) (pv 2))) ah (cK _)) (@aT _ _ _ (aW (dR (af (AM uZ (pv 2)) (af (pv 1) (af ah ak)))))) d9)
  (@aB _ _ _ _ _ (eE (cL vc (aP cJ hr rfl aM (af (pv 0) ak)) ah (cK _)) (@aT _ _ _ (aW (aD au (aP zY hr rfl aM (af (pv 0) ak)) ah (λ_ _=>rfl)))) d9)
  (@aT _ _ _ (aW rm)))))))),?_⟩
 obtain⟨c0,x1,x2,_⟩:=aZ hT b7 (i:=0) (by decide)
 obtain⟨c1,y1,y2,_⟩:=aZ hT b7 (i:=1) (by decide)
 obtain⟨c2,w1,w2,_⟩:=aZ hT b7 (i:=2) (by decide)
 have b0:=hB 0 0 (by decide) (by decide)
 have b1:=hB 0 1 (by decide) (by decide)
 refine⟨_,rfl,t,_,_,_,rfl,rfl,aU.of hT.1,x1,c0,_,_,_,rfl,rfl,aU.of x2,rfl,?_⟩
 refine⟨_,rfl,_,_,rfl,rfl,_,rfl,lS (λc=> ?_) (λc=> ?_)⟩
 ·have c:ent m 0 0<=0:=of_decide_eq_true c
  have ab:b8 m=false:=by
   unfold b8
   rw[decide_eq_false (by omega),Bool.false_and]
  refine⟨(by show 3<=sizeLine;decide),λr hr=> ?_⟩
  refine q2 ab (λi=>if i=0 then 1 else 0) r _ (az.up hr) hr ao (λz=>by simp at z) (by rw[Sn];exact c) (λi _=> ?_)
  show(if i=0 then(1:Int)else 0).natAbs<_
  exact aL (a:=1) (by split<;>decide) (by decide)
 have c:0<ent m 0 0:=by
  have:¬ent m 0 0<=0:=λz=>c (decide_eq_true z)
  omega
 refine⟨_,rfl,t,_,_,_,rfl,rfl,aU.of hT.1,x1,c0,_,_,_,rfl,rfl,aU.of x2,rfl,?_⟩
 refine⟨_,rfl,_,rfl,t,_,_,_,rfl,rfl,aU.of hT.1,y1,c1,_,_,_,rfl,rfl,aU.of y2,rfl,_,_,rfl,rfl,⟨aL (hB 0 0 (by decide) (by decide)) (by decide),aL (hB 1 1 (by decide) (by decide)) (by decide)⟩,_,rfl,_,rfl,_,_,rfl,rfl,⟨aL (hB 0 1 (by decide) (by decide)) (by decide),aL (hB 0 1 (by decide) (by decide)) (by decide)⟩,_,_,rfl,rfl,_,_,rfl,rfl,_,rfl,lS (λd=> ?_) (λd=> ?_)⟩
 ·have d:ent m 0 0*ent m 1 1-ent m 0 1*ent m 0 1<=0:=of_decide_eq_true d
  have ab:b8 m=false:=by
   unfold b8
   rw[decide_eq_false (p:=ent m 0 1*ent m 0 1<ent m 0 0*ent m 1 1) (by omega),Bool.false_and,Bool.and_false]
  refine⟨_,rfl,_,rfl,_,rfl,(by show 3<=sizeLine;decide),λr hr=> ?_⟩
  refine q2 ab (λi=>match i with|0=> -ent m 0 1|1=>ent m 0 0|_=>0) r _ (az.up hr) hr ao (λz=>by have y:ent m 0 0=0:=z.2.1;omega) ?_ (λi hi=> ?_)
  ·rw[Sq hS _ rfl rfl rfl]
   exact Int.mul_nonpos_of_nonneg_of_nonpos (by omega) d
  ·rcases aN hi with rfl|rfl|rfl
   ·show(-ent m 0 1).natAbs<_
    exact aL (a:=440) (by omega) (by decide)
   ·exact aL b0 (by decide)
   ·show(0:Int).natAbs<_
    exact Nat.two_pow_pos _
 have d:0<ent m 0 0*ent m 1 1-ent m 0 1*ent m 0 1:=by
  have:¬ent m 0 0*ent m 1 1-ent m 0 1*ent m 0 1<=0:=λz=>d (decide_eq_true z)
  omega
 refine⟨_,rfl,t,bs,m,rfl,hT,b7,hB.mono (by decide),hP,λH1 s1=>⟨_,_,rfl,rfl,_,rfl,lS (λe=> ?_) (λe=> ?_)⟩⟩
 ·have e:aA m<=0:=of_decide_eq_true e
  have ab:b8 m=false:=by
   unfold b8
   rw[decide_eq_false (p:=0<aA m) (by omega),Bool.and_false,Bool.and_false]
  refine⟨_,rfl,t,bs,m,rfl,hT.same s1,b7,hB.mono (by decide),λr rs H2 s2 fr frs nr T2=> ?_⟩
  obtain⟨k,k1,k2,k3⟩:=aZ T2 (cP _) (i:=2) (by decide)
  refine⟨r,_,_,_,rfl,rfl,aU.of T2.1,k1,?_⟩
  have WX:0<ent (ju m) 2 2:=by
   rw[NX,jd hS (i:=0) (j:=1) (by decide) (by decide)]
   exact d
  refine q2 ab (λj=>ent (ju m) 2 j) k H2 (s1.trans s2) (s1.none (frs k k3)) k2 (λz=>by have y:ent (ju m) 2 2=0:=z.2.2;omega) ?_ (λj hj=> ?_)
  ·rw[Su]
   exact Int.mul_nonpos_of_nonpos_of_nonneg e (by omega)
  ·show(ent (ju m) 2 j).natAbs<_
   rw[nX m (by decide) hj]
   exact aL (Fb hB j 2) (by decide)
 ·have e:0<aA m:=by
   have:¬aA m<=0:=λz=>e (decide_eq_true z)
   omega
  refine q1 ?_ H1 s1
  unfold b8
  rw[decide_eq_true c,decide_eq_true e,decide_eq_true (p:=ent m 0 1*ent m 0 1<ent m 0 0*ent m 1 1) (by omega)]
  rfl
inductive r8(vs:List V)(H:Hp)(Q:VK)(E:XK):Prop
 |mk(z:Int)(_:vs=[.int z])(_:Q (.bl true) H)
theorem BJ(F:fU K mg "is_whole" pX kj)(dU:mg "isinstance"=none)(tV:mg "int"=none)(DO:mg "bool"=none):dQ P w K mg base dz 1 "is_whole" kj r8:=by
 refine F.ok BE (λvs H Q E h=> ?_) (λf cdv A outer s H vs Q E hr h=> ?_)
 ·obtain⟨z,rfl,q⟩:=h
  rfl
 obtain⟨z,rfl,q⟩:=h
 have hu:=hr.units
 refine⟨_,(cF (aW (ze (eG kP rfl dU PyProof.Rows.boot_isinstance (af (pv 0) (af (uE (v:= .ty "int") rfl tV PyProof.Rows.boot_int rfl) ak))) (zd (OF (eG kP rfl dU PyProof.Rows.boot_isinstance (af (pv 0) (af (uE (v:= .ty "bool") rfl DO PyProof.Rows.boot_bool rfl) ak)))))))),?_⟩
 exact⟨_,rfl,_,_,_,_,rfl,.int _,vz K "int",_,rfl,xh ⟨_,rfl,_,_,_,_,rfl,.int _,zA K,_,rfl,q⟩⟩
inductive zZ(T0:Addr)(vs:List V)(H:Hp)(Q:VK)(E:XK):Prop
 |mk(b:Addr)(x:Nat->Int)(_:vs=[.ref b])(_:bH H b x)(_:H T0=some (fE T0))(_:∀H',az H H'->Q (.bl true) H')
theorem Hg{bT:Addr}(F:qO K mg "is_row" vO oh bT)(bm:BM mg base)(dU:mg "isinstance"=none)(r9:mg "list"=none)(kG:mg "len"=none)(qU:mg "all"=none)(p9:dQ P w K mg base dz 1 "is_whole" kj r8):dQ P w K mg base dz 3 "is_row" oh (zZ bT):=by
 refine F.ok Hf (λvs H Q E h=> ?_) (λf cdv A outer s H vs Q E cd hr h=> ?_)
 ·obtain⟨b,x,rfl,hx,hP,q⟩:=h
  rfl
 obtain⟨b,x,rfl,hx,hP,q⟩:=h
 have hu:=hr.units
 refine⟨_,(oO (@aB _ _ _ _ _ (eE (PW.pt (Ih (rq (mj (eG kP rfl dU PyProof.Rows.boot_isinstance (af (pv 0) (af (uE (v:= .ty "list") rfl r9 PyProof.Rows.boot_list rfl) ak))))) (CI (cL AN (eG iw rfl kG PySem.boot_len (af (pv 0) ak)) ah (cK _))))) (@aT _ _ _ (aW pC)) d9)
  (@aT _ _ _ (aW (zy (N2:=["thing"]) (te:=(j5 r8 [] E0 (dw (bU 0) j4))) rfl (fS.depth hr) cd bm rfl qU (gv (pv 0)) (by kernel_rfl) (λ_ _ _ _=>by exact ly (aP p9 (Bc hr) rfl aM (af (pv 0) ak)))))))),?_⟩
 refine⟨_,rfl,_,_,_,_,rfl,.lst hx,vz K "list",_,rfl,pK ⟨_,rfl,b,_,rfl,.inl (aU.of hx),rfl,_,rfl,IQ rfl ?_⟩⟩
 refine⟨_,rfl,b,rfl,⟨_,aU.of hx⟩,CZ (oM (aU.of hx)) hP (λ_=>true) (λj y ey H1 Q1 s1 k1=> ?_) (λc H1 s1 hc=> ?_)⟩
 ·obtain⟨z,rfl⟩:∃z,y= .int z:=by
   have hy:=List.mem_of_getElem? ey
   simp only[List.mem_cons,List.not_mem_nil,or_false]at hy
   rcases hy with rfl|rfl|rfl<;>exact⟨_,rfl⟩
  exact⟨_,rfl,z,rfl,k1 H1 (az.refl _)⟩
 ·have e:c=true:=hc.mpr λ_ _=>rfl
  subst e
  exact q H1 s1
inductive yH(T1 T0:Addr)(vs:List V)(H:Hp)(Q:VK)(E:XK):Prop
 |mk(t:Addr)(bs:List Addr)(m:List (List Int))(_:vs=[.ref t])(_:Tab H t bs m)(_:bE m)(_:H T1=some (fE T1))(_:H T0=some (fE T0))(_:∀H',az H H'->Q (.bl true) H')
theorem BK{bT bI:Addr}(F:qO K mg "is_table" pY ko bI)(bm:BM mg base)(dU:mg "isinstance"=none)(r9:mg "list"=none)(kG:mg "len"=none)(qU:mg "all"=none)(vY:dQ P w K mg base dz 3 "is_row" oh (zZ bT)):dQ P w K mg base dz 5 "is_table" ko (yH bT bI):=by
 refine F.ok BF (λvs H Q E h=> ?_) (λf cdv A outer s H vs Q E cd hr h=> ?_)
 ·obtain⟨t,bs,m,rfl,hT,b7,hR,hP,q⟩:=h
  rfl
 obtain⟨t,bs,m,rfl,hT,b7,hR,hP,q⟩:=h
 have hu:=hr.units
 refine⟨_,(oO (@aB _ _ _ _ _ (eE (PW.pt (Ih (rq (mj (eG kP rfl dU PyProof.Rows.boot_isinstance (af (pv 0) (af (uE (v:= .ty "list") rfl r9 PyProof.Rows.boot_list rfl) ak))))) (CI (cL AN (eG iw rfl kG PySem.boot_len (af (pv 0) ak)) ah (cK _))))) (@aT _ _ _ (aW pC)) d9)
  (@aT _ _ _ (aW (zy (N2:=["thing"]) (te:=(j5 (zZ bT) [] E0 (dw (bU 0) j4))) rfl (fS.depth hr) cd bm rfl qU (gv (pv 0)) (by kernel_rfl) (λ_ _ _ _=>by exact ly (aP vY (Bc hr) rfl aM (af (pv 0) ak)))))))),?_⟩
 have l3:(bs.map V.ref).length=3:=by rw[List.length_map,<-hT.2.length,b7.1]
 refine⟨_,rfl,_,_,_,_,rfl,.lst hT.1,vz K "list",_,rfl,pK ⟨_,rfl,t,_,rfl,.inl (aU.of hT.1),rfl,_,rfl,IQ (by rw[l3];rfl) ?_⟩⟩
 refine⟨_,rfl,t,rfl,⟨_,aU.of hT.1⟩,CZ (oM (aU.of hT.1)) hP (λ_=>true) (λj y ey H1 Q1 s1 k1=> ?_) (λc H1 s1 hc=> ?_)⟩
 ·have hj:j<3:=by
   have:=(List.getElem?_eq_some_iff.mp ey).1
   rw[l3]at this
   exact this
  obtain⟨b,e1,e2,_⟩:=aZ (hT.same s1) b7 hj
  have ex':y= .ref b:=by
   have q1:=iR ey
   rw[e1]at q1
   exact(Option.some.inj q1).symm
  subst ex'
  exact⟨_,rfl,b,λc=>ent m j c,rfl,e2,s1 _ _ hR,k1⟩
 ·have e:c=true:=hc.mpr λ_ _=>rfl
  subst e
  exact q H1 s1
inductive BL(T1 T2 T0:Addr)(vs:List V)(H:Hp)(Q:VK)(E:XK):Prop
 |mk(t:Addr)(bs:List Addr)(m:List (List Int))(_:vs=[.ref t])(_:Tab H t bs m)(_:bE m)(_:bJ m)(_:H T1=some (fE T1))(_:H T2=some (fE T2))(_:H T0=some (fE T0))(_:∀H',az H H'->Q (.bl true) H')
theorem se{bT bI aO:Addr}(F:qO K mg "is_even_table" jx f9 aO)(bm:BM mg base)(qU:mg "all"=none)(aH:mg "range"=none)(qa:dQ P w K mg base dz 6 "is_table" ko (yH bT bI))(gr:dQ P w K mg base dz 6 "turned_over" gn DL):dQ P w K mg base dz 7 "is_even_table" f9 (BL bT bI aO):=by
 refine F.ok rS (λvs H Q E h=> ?_) (λf cdv A outer s H vs Q E cd hr h=> ?_)
 ·obtain⟨t,bs,m,rfl,hT,b7,ev,hR,hU,hP,q⟩:=h
  rfl
 obtain⟨t,bs,m,rfl,hT,b7,ev,hR,hU,hP,q⟩:=h
 have hu:=hr.units
 refine⟨_,(oO (@aB _ _ _ _ _ (eE (rq (mj (aP qa hr rfl aM (af (pv 0) ak)))) (@aT _ _ _ (aW pC)) d9)
  (@aT _ _ _ (aW (ze (kO (Ph hu) (pv 0) (aP gr hr rfl aM (af (pv 0) ak)) (cK _)) (zd (zy (N2:=["thing"]) (te:=(jq WH (jq (rI (λ_ j=>0<j) λi j=> .int (i%j)) (jq (jM K) (jq (jM K) (bU 1) (bU 0)) (bU 0)) (tC (.int 2))) (tC (.int 0)))) rfl (fS.depth hr) cd bm rfl qU (cN rfl aH (af ah ak)) (by kernel_rfl) (λ_ _ _ _=>by exact ly (kO EM (aq g8 (aD au (aD au (pv 1) (pv 0) (λ_ _=>rfl)) (pv 0) (λ_ _=>rfl)) ah) ah (cK _)))))))))),?_⟩
 refine⟨_,rfl,t,bs,m,rfl,hT,b7,hR,hU,λH1 s1=>⟨_,rfl,pK ?_⟩⟩
 refine⟨_,rfl,_,rfl,t,bs,m,rfl,hT.same s1,b7,λr rs H2 s2 fr frs nr Tr=> ?_⟩
 rw[fG ev b7]at Tr
 refine Mr (Pj m) (NV ((hT.same s1).same s2)) (NV Tr) (CW m) ⟨_,rfl,xh ?_⟩
 have s12:=s1.trans s2
 refine⟨3,rfl,by decide,by decide,CZ (gT (n:=3)) (s12 _ _ hP) (λ_=>true) (λj y ey H3 Q3 s3 k3=> ?_) (λc H3 s3 hc=> ?_)⟩
 ·obtain⟨hj,rfl⟩:=fN ey
  obtain⟨b,row,e1,e2,e3⟩:=kQ (hT.same (s12.trans s3)) b7 hj hj
  refine⟨_,rfl,_,rfl,t,_,_,_,rfl,rfl,aU.of (hT.same (s12.trans s3)).1,e1,_,rfl,b,_,_,_,rfl,rfl,aU.of e2,e3,_,_,rfl,rfl,(by show(0:Int)<2;decide),rfl,?_⟩
  have e:ent m j j%2=0:=by
   obtain⟨_,a,b,c,p1,p2,p3⟩:=ev
   rcases aN hj with rfl|rfl|rfl<;>omega
  rw[decide_eq_true (congrArg V.int e)]
  exact k3 H3 (az.refl _)
 ·have e:c=true:=hc.mpr λ_ _=>rfl
  subst e
  exact q H3 (s12.trans s3)
inductive BN(T1 T2 T3:Addr)(vs:List V)(H:Hp)(Q:VK)(E:XK):Prop
 |mk(t:Addr)(bs:List Addr)(m:List (List Int))(_:vs=[.ref t])(_:Tab H t bs m)(_:bE m)(_:Bd 440 m)(_:bJ m)(_:b8 m=true)(_:H T1=some (fE T1))(_:H T2=some (fE T2))(_:H T3=some (fE T3))(_:True)(_:∀H',az H H'->Q (.bl true) H')
theorem DP{bT bI aO:Addr}(F:fU K mg "is_form" rT l6)(jA:dQ P w K mg base dz 7 "is_even_table" f9 (BL bT bI aO))(sf:dQ P w K mg base dz 7 "low_row" l7 Og):dQ P w K mg base dz 8 "is_form" l6 (BN bT bI aO):=by
 refine F.ok DE (λvs H Q E h=> ?_) (λf cdv A outer s H vs Q E hr h=> ?_)
 ·obtain⟨t,bs,m,rfl,hT,b7,hB,ev,ab,h1,h2,h3,h4,q⟩:=h
  rfl
 obtain⟨t,bs,m,rfl,hT,b7,hB,ev,ab,h1,h2,h3,h4,q⟩:=h
 have hu:=hr.units
 refine⟨_,(cF (aW (ze (aP jA hr rfl aM (af (pv 0) ak)) (zd (kO Iv (aP sf hr rfl aM (af (pv 0) ak)) rm (cK _)))))),?_⟩
 refine⟨_,rfl,t,bs,m,rfl,hT,b7,ev,h1,h2,h3,λH1 s1=>⟨_,rfl,xh ?_⟩⟩
 exact⟨_,rfl,t,bs,m,rfl,hT.same s1,b7,hB,fG ev b7,trivial,λ_ H2 s2=>⟨rfl,q H2 (s1.trans s2)⟩,λYY=>absurd YY (by rw[ab];decide)⟩
inductive Km(T1 T2 T3:Addr)(vs:List V)(H:Hp)(Q:VK)(E:XK):Prop
 |mk(t:Addr)(bs:List Addr)(m:List (List Int))(_:vs=[.ref t])(_:Tab H t bs m)(_:bE m)(_:Bd 440 m)(_:bJ m)(_:b8 m=true)(_:aA m/2<=200)(_:H T1=some (fE T1))(_:H T2=some (fE T2))(_:H T3=some (fE T3))(_:True)(_:∀H',az H H'->Q (.int (aA m/2)) H')
theorem MX{bT bI aO:Addr}(F:fU K mg "half" DF vQ){jB:_}(jC:mg "GREATEST_HALF"=some (Value.int 200 jB))(sj:dQ P w K mg base dz 8 "is_form" l6 (BN bT bI aO))(cJ:dQ P w K mg base dz 8 "determinant" eN BI):dQ P w K mg base dz 9 "half" vQ (Km bT bI aO):=by
 refine F.ok Fz (λvs H Q E h=> ?_) (λf cdv A outer s H vs Q E hr h=> ?_)
 ·obtain⟨t,bs,m,rfl,hT,b7,hB,ev,ab,le,h1,h2,h3,h4,q⟩:=h
  rfl
 obtain⟨t,bs,m,rfl,hT,b7,hB,ev,ab,le,h1,h2,h3,h4,q⟩:=h
 have hu:=hr.units
 refine⟨_,(oO (@aB _ _ _ _ _ (eE (rq (mj (aP sj hr rfl aM (af (pv 0) ak)))) (@aT _ _ _ AJ) d9)
  (@aB _ _ _ _ _ (aY (i:=1) Fz.nd rfl (Or.inl rfl) (aq fm (aP cJ hr rfl aM (af (pv 0) ak)) ah))
  (@aB _ _ _ _ _ (eE (cL qD (pv 1) (LM (v:= .int 200) rfl jC ⟨_,rfl⟩) (cK _)) (@aT _ _ _ AJ) d9)
  (@aT _ _ _ (aW (pv 1))))))),?_⟩
 refine⟨_,rfl,t,bs,m,rfl,hT,b7,hB,ev,ab,h1,h2,h3,h4,λH1 s1=>⟨_,rfl,pK ?_⟩⟩
 refine⟨_,rfl,t,bs,m,rfl,hT.same s1,b7,hB.mono (by decide),trivial,λH2 s2=>⟨_,_,rfl,rfl,⟨by decide,by decide⟩,?_⟩⟩
 refine⟨_,rfl,_,_,rfl,rfl,_,rfl,lS (λc=> ?_) (λ_=>⟨_,rfl,q H2 (s1.trans s2)⟩)⟩
 have c:(200:Int)<aA m/2:=of_decide_eq_true c
 omega
theorem Hh{H:Hp}{t:Addr}{bs:List Addr}{m:List (List Int)}(hT:Tab H t bs m)(b7:bE m):∃c0 c1 c2,bs=[c0,c1,c2]/\bH H c0 (λc=>ent m 0 c)/\bH H c1 (λc=>ent m 1 c)/\bH H c2 (λc=>ent m 2 c):=by
 have l3:bs.length=3:=by rw[<-hT.2.length,b7.1]
 match bs,l3,hT with
 | [c0,c1,c2],_,hT=>
  obtain⟨b0,x1,x2,_⟩:=aZ hT b7 (i:=0) (by decide)
  obtain⟨b1,y1,y2,_⟩:=aZ hT b7 (i:=1) (by decide)
  obtain⟨b2,w1,w2,_⟩:=aZ hT b7 (i:=2) (by decide)
  cases x1;cases y1;cases w1
  exact⟨c0,c1,c2,rfl,x2,y2,w2⟩
inductive qb(T0:Addr)(vs:List V)(H:Hp)(Q:VK)(E:XK):Prop
 |mk(t:Addr)(bs:List Addr)(m:List (List Int))(a b:Addr)(x y:Nat->Int)(_:vs=[.ref t,.ref a,.ref b])(_:Tab H t bs m)(_:bE m)(_:Bd 1000 m)(_:bH H a x)(_:bH H b y)(_:∀i,i<3->(x i).natAbs<2^1000)(_:∀i,i<3->(y i).natAbs<2^1000)(_:H T0=some (fE T0))(_:∀H',az H H'->Q (.int (ay m x y)) H')
theorem DQ{aF:Addr}(F:qO K mg "pairing" rV gI aF)(bm:BM mg base)(yG:mg "sum"=none)(ow:mg "zip"=none):dQ P w K mg base dz 1 "pairing" gI (qb aF):=by
 refine F.ok mK (λvs H Q E h=> ?_) (λf cdv A outer s H vs Q E cd hr h=> ?_)
 ·obtain⟨t,bs,m,a,b,x,y,rfl,hT,b7,hB,hx,hy,bx,bY,hP,q⟩:=h
  rfl
 obtain⟨t,bs,m,a,b,x,y,rfl,hT,b7,hB,hx,hy,bx,bY,hP,q⟩:=h
 have hu:=hr.units
 refine⟨_,(oO (@aB _ _ _ _ _ (iO (pv 2) (jc rfl (aJ (aI (i:=3) mK.nd rfl (Or.inr rfl)) (aJ (aI (i:=4) mK.nd rfl (Or.inr rfl)) (aJ (aI (i:=5) mK.nd rfl (Or.inr rfl)) fj)))))
  (@aT _ _ _ (aW (My (N2:=["table","one","other","x","y","z"]) (te:=(jq (rI nI λi j=> .int (i*j)) (bU 0) (jq (CD λi j=> .int (i+j)) (jq (CD λi j=> .int (i+j)) (jq (rI nI λi j=> .int (i*j)) (jq (jM K) (bU 1) (tC (.int 0))) (bU 5)) (jq (rI nI λi j=> .int (i*j)) (jq (jM K) (bU 1) (tC (.int 1))) (bU 6))) (jq (rI nI λi j=> .int (i*j)) (jq (jM K) (bU 1) (tC (.int 2))) (bU 7))))) rfl (fS.depth hr) cd bm rfl yG (Dc rfl ow (af (pv 1) (af (pv 0) ak))) (by kernel_rfl) (λ_ _ _ _=>by exact ly (aq aE (pv 0) (aq bV (aq bV (aq aE (aD au (pv 1) ah (λ_ _=>rfl)) (pv 5)) (aq aE (aD au (pv 1) ah (λ_ _=>rfl)) (pv 6))) (aq aE (aD au (pv 1) ah (λ_ _=>rfl)) (pv 7)))))))))),?_⟩
 obtain⟨c0,c1,c2,rfl,x2,y2,w2⟩:=Hh hT b7
 refine⟨_,rfl,b,_,rfl,aU.of hy,rfl,_,_,rfl,_,_,rfl,_,_,rfl,rfl,?_⟩
 refine⟨_,rfl,_,rfl,a,t,_,_,rfl,aU.of hx,aU.of hT.1,MA (aU.of hx) (aU.of hT.1) rfl hP (λi=>x i*(ent m i 0*y 0+ent m i 1*y 1+ent m i 2*y 2)) (λi u v eu ev H' Q' sm k=> ?_) (λH' sm=> ?_)⟩
 ·have hi:i<3:=(List.getElem?_eq_some_iff.mp eu).1
  obtain⟨c,e1,e2,_⟩:=aZ (hT.same sm) b7 hi
  have VN:u= .int (x i):=by
   rcases aN hi with rfl|rfl|rfl<;>exact(Option.some.inj eu).symm
  have ev':v= .ref c:=by
   have q1:=iR ev
   rw[e1]at q1
   exact(Option.some.inj q1).symm
  subst VN ev'
  have b0:=cH (hB i 0 hi (by decide)) (bY 0 (by decide))
  have b1:=cH (hB i 1 hi (by decide)) (bY 1 (by decide))
  have b2:=cH (hB i 2 hi (by decide)) (bY 2 (by decide))
  have bs:=mG (mG b0 b1) (aL b2 (by decide))
  exact⟨_,rfl,_,rfl,c,_,_,_,rfl,rfl,aU.of e2,rfl,_,rfl,_,_,rfl,rfl,⟨aL (hB i 0 hi (by decide)) (by decide),aL (bY 0 (by decide)) (by decide)⟩,_,rfl,c,_,_,_,rfl,rfl,aU.of e2,rfl,_,rfl,_,_,rfl,rfl,⟨aL (hB i 1 hi (by decide)) (by decide),aL (bY 1 (by decide)) (by decide)⟩,_,_,rfl,rfl,_,rfl,c,_,_,_,rfl,rfl,aU.of e2,rfl,_,rfl,_,_,rfl,rfl,⟨aL (hB i 2 hi (by decide)) (by decide),aL (bY 2 (by decide)) (by decide)⟩,_,_,rfl,rfl,_,_,rfl,rfl,⟨aL (bx i hi) (by decide),aL bs (by decide)⟩,k H' (az.refl _)⟩
 ·have e:PySem.preSum (λi=>x i*(ent m i 0*y 0+ent m i 1*y 1+ent m i 2*y 2)) 3=ay m x y:=by
   rw[aV]
   show 0+x 0*(ent m 0 0*y 0+ent m 0 1*y 1+ent m 0 2*y 2)+x 1*(ent m 1 0*y 0+ent m 1 1*y 1+ent m 1 2*y 2)+x 2*(ent m 2 0*y 0+ent m 2 1*y 1+ent m 2 2*y 2)=_
   grind
  have q:=q H' sm
  rw[<-e]at q
  exact q
inductive qV(T0:Addr)(vs:List V)(H:Hp)(Q:VK)(E:XK):Prop
 |mk(t:Addr)(bs:List Addr)(m:List (List Int))(a:Addr)(x:Nat->Int)(_:vs=[.ref t,.ref a])(_:Tab H t bs m)(_:bE m)(_:Bd 1000 m)(_:bH H a x)(_:∀i,i<3->(x i).natAbs<2^1000)(_:H T0=some (fE T0))(_:∀H',az H H'->Q (.int (cI m x)) H')
theorem Kn{aF:Addr}(F:fU K mg "worth" zV mL)(cy:dQ P w K mg base dz 1 "pairing" gI (qb aF)):dQ P w K mg base dz 2 "worth" mL (qV aF):=by
 refine F.ok Kg (λvs H Q E h=> ?_) (λf cdv A outer s H vs Q E hr h=> ?_)
 ·obtain⟨t,bs,m,a,x,rfl,hT,b7,hB,hx,bx,hP,q⟩:=h
  rfl
 obtain⟨t,bs,m,a,x,rfl,hT,b7,hB,hx,bx,hP,q⟩:=h
 have hu:=hr.units
 refine⟨_,(cF (aW (aq fm (aP cy hr rfl aM (af (pv 0) (af (pv 1) (af (pv 1) ak)))) ah))),?_⟩
 exact⟨_,rfl,_,rfl,_,rfl,t,bs,m,a,a,x,x,rfl,hT,b7,hB,hx,hx,bx,bx,hP,λH' sm=>⟨_,_,rfl,rfl,⟨by decide,by decide⟩,q H' sm⟩⟩
inductive vZ(vs:List V)(H:Hp)(Q:VK)(E:XK):Prop
 |mk(a:Addr)(y:Nat->Int)(q:Int)(b:Addr)(x:Nat->Int)(_:vs=[.ref a,.int q,.ref b])(_:bH H a y)(_:bH H b x)(_:q.natAbs<2^4096)(_:∀i,i<3->(x i).natAbs<2^4096)(_:∀r H',az H H'->H r=none->bH H' r (ji y q x) ->Q (.ref r) H')
theorem xB(F:fU K mg "less_times" mO gJ)(ow:mg "zip"=none):dQ P w K mg base dz 1 "less_times" gJ vZ:=by
 refine F.ok xw (λvs H Q E h=> ?_) (λf cdv A outer s H vs Q E hr h=> ?_)
 ·obtain⟨a,y,q,b,x,rfl,hy,hx,bq,bx,k⟩:=h
  rfl
 obtain⟨a,y,q,b,x,rfl,hy,hx,bq,bx,k⟩:=h
 have hu:=hr.units
 refine⟨_,(cF (aW (Dd (N2:=["row","times","other"]) (te:=(jq (CD λi j=> .int (i-j)) (bU 0) (jq (rI nI λi j=> .int (i*j)) (bU 3) (bU 1)))) rfl (Dc rfl ow (af (pv 0) (af (pv 2) ak))) (by kernel_rfl) rfl (λ_ _ _=>by exact ly (aq dG (pv 0) (aq aE (pv 3) (pv 1))))))),?_⟩
 refine⟨_,rfl,_,rfl,a,b,_,_,rfl,aU.of hy,aU.of hx,λD hD=>Bj (aU.of hy) (aU.of hx) rfl (by show 3<=sizeLine;decide) hD (λu v=>match u,v with| .int i,.int j=> .int (i-q*j)|_,_=> .gK) (λn u v eu ev G Q' sm kk=> ?_) (λH5 s5 e5=>k D H5 s5 hD e5)⟩
 have hn:n<3:=(List.getElem?_eq_some_iff.mp eu).1
 have VN:u= .int (y n):=by rcases aN hn with rfl|rfl|rfl<;>exact(Option.some.inj eu).symm
 have ev':v= .int (x n):=by rcases aN hn with rfl|rfl|rfl<;>exact(Option.some.inj ev).symm
 subst VN ev'
 exact⟨_,rfl,_,rfl,_,rfl,_,_,rfl,rfl,⟨bq,bx n hn⟩,_,_,rfl,rfl,kk⟩
inductive Oh(vs:List V)(H:Hp)(Q:VK)(E:XK):Prop
 |mk(P A:Int)(_:vs=[.int P,.int A])(_:0<A)(_:(2*A).natAbs.log2<9000)(_:Q (.int ((2*P+A)/(2*A))) H)
theorem DR(F:fU K mg "nearest" rX l8):dQ P w K mg base dz 1 "nearest" l8 Oh:=by
 refine F.ok DG (λvs H Q E h=> ?_) (λf cdv A outer s H vs Q E hr h=> ?_)
 ·obtain⟨P,A,rfl,hA,bA,q⟩:=h
  rfl
 obtain⟨P,A,rfl,hA,bA,q⟩:=h
 have hu:=hr.units
 refine⟨_,(cF (aW (aq nV (aq bV (aq g7 ah (pv 0)) (pv 1)) (aq g7 ah (pv 1))))),?_⟩
 exact⟨_,rfl,_,_,rfl,rfl,.inl ⟨by decide,by decide⟩,_,rfl,_,_,rfl,rfl,_,rfl,_,_,rfl,rfl,.inl ⟨by decide,by decide⟩,_,_,rfl,rfl,⟨by show(0:Int)<2*A;omega,bA⟩,q⟩
inductive BO(T0:Addr)(vs:List V)(H:Hp)(Q:VK)(E:XK):Prop
 |mk(t:Addr)(bs:List Addr)(m:List (List Int))(a b:Addr)(x y:Nat->Int)(w:Int)(_:vs=[.ref t,.ref a,.ref b])(_:Tab H t bs m)(_:bE m)(_:Bd 440 m)(_:bJ m)(_:b8 m=true)(_:bH H a x)(_:bH H b y)(_:∃t,bQ x y t≠0)(_:aQ m x<=w)(_:aQ m y<=w)(_:w.natAbs<2^446)(_:H T0=some (fE T0))(_:∀a' b' x' y' P H',mJ m x' y'->ic m x y x' y'->aQ m x'<=w->aQ m y'<=w->az H H'->bH H' a' x'->bH H' b' y'->H' P=some (.tup [.ref a',.ref b']) ->Q (.ref P) H')
theorem xC{aF:Addr}(F:fU K mg "least_pair" mP iB)(fX:dQ P w K mg base dz 3 "less_times" gJ vZ)(su:dQ P w K mg base dz 3 "nearest" l8 Oh)(cy:dQ P w K mg base dz 3 "pairing" gI (qb aF))(iI:dQ P w K mg base dz 3 "worth" mL (qV aF)):dQ P w K mg base dz 4 "least_pair" iB (BO aF):=by
 refine F.ok lF (λvs H Q E h=> ?_) (λf cdv A outer s H vs Q E hr h=> ?_)
 ·obtain⟨t,bs,m,a,b,x,y,w,rfl,hT,b7,hB,ev,ab,hx,hy,⟨t0,ind⟩,wx,wy,bw,hP,q⟩:=h
  rfl
 obtain⟨t,bs,m,a,b,x,y,w,rfl,hT,b7,hB,ev,ab,hx,hy,⟨t0,ind⟩,wx,wy,bw,hP,q⟩:=h
 have hu:=hr.units
 refine⟨_,(cF (uX PassesOwn.never (mj pC) (oO (@aB _ _ _ _ _ (aY (i:=2) lF.nd rfl (Or.inl rfl) (aP fX hr rfl aM (af (pv 2) (af (aP su hr rfl aM (af (aP cy hr rfl aM (af (pv 0) (af (pv 1) (af (pv 2) ak)))) (af (aP cy hr rfl aM (af (pv 0) (af (pv 1) (af (pv 1) ak)))) ak))) (af (pv 1) ak)))))
  (@aB _ _ _ _ _ (eE (cL Iu (aP iI hr rfl aM (af (pv 0) (af (pv 2) ak))) (aP iI hr rfl aM (af (pv 0) (af (pv 1) ak))) (cK _)) (@aT _ _ _ (aW (iP (af (pv 1) (af (pv 2) ak))))) d9)
  (@aT _ _ _ (uW (i:=1) (j:=2) rfl lF.nd rfl rfl (by decide) rfl rfl (af (pv 2) (af (pv 1) ak)) rfl))))))),?_⟩
 have Po:=jV (fG ev b7) ab
 have bits:∀z:Nat->Int,aQ m z<=w-> ∀i,i<3->(z i).natAbs<2^666:=λz hz i hi=>n9 ev b7 ab hB (by have:=eF Po z;(clear hi hu q hP wy wx ab;omega)) hi
 refine uY (λσ H'=> ∃(a' b':Addr)(x' y':Nat->Int),σ=[some (.ref t),some (.ref a'),some (.ref b')]/\az H H'/\bH H' a' x'/\bH H' b' y'/\ic m x y x' y'/\aQ m x'<=w/\aQ m y'<=w) (JU m 1) ⟨a,b,x,y,rfl,az.refl _,hx,hy,ic.refl _ _ _,wx,wy⟩ (λσ H' hh=> ?_) ?_
 rotate_left
 ·rintro σ H' Q Q' h ⟨c,e,k⟩
  exact⟨c,e,h _ _ k⟩
 obtain⟨a',b',x',y',rfl,s1,hx',hy',pr,Oi,Oj⟩:=hh
 have SR:bQ x' y' t0≠0:=by
  obtain⟨e,he,hd⟩:=pr.det
  rw[hd]
  rcases he with rfl|rfl
  ·rw[Int.one_mul];exact ind
  ·intro z;apply ind;omega
 have nx:0<aQ m x':=MS Po λz=>SR (Dv z _ _)
 have bx:=bits x' Oi
 have bY:=bits y' Oj
 refine⟨true,rfl,xh ?_⟩
 have b1:∀z:Nat->Int,(∀i,i<3->(z i).natAbs<2^666) -> ∀i,i<3->(z i).natAbs<2^1000:=λz h i hi=>aL (h i hi) (by decide)
 refine⟨_,rfl,_,rfl,_,rfl,_,rfl,t,bs,m,a',b',x',y',rfl,hT.same s1,b7,hB.mono (by decide),hx',hy',b1 _ bx,b1 _ bY,s1 _ _ hP,λH2 s2=> ?_⟩
 have s12:=s1.trans s2
 refine⟨_,rfl,_,rfl,_,rfl,t,bs,m,a',a',x',x',rfl,hT.same s12,b7,hB.mono (by decide),s2 _ _ hx',s2 _ _ hx',b1 _ bx,b1 _ bx,s12 _ _ hP,λH3 s3=> ?_⟩
 have xD:=s12.trans s3
 have VO:=s2.trans s3
 have bP:=jh (hB) bx bY
 have bA:=jh (hB) bx bx
 have lg:(2*aQ m x').natAbs.log2<9000:=by
  refine(Nat.log2_lt (by omega)).mpr ?_
  have c0:(2*aQ m x').natAbs<2^(2+1781):=cH (by decide) bA
  exact Nat.lt_of_lt_of_le c0 (Nat.pow_le_pow_right (by decide) (by decide))
 have bq:((2*ay m x' y'+aQ m x')/(2*aQ m x')).natAbs<2^4096:=by
  refine Nat.lt_of_le_of_lt (ki _ (by omega)) ?_
  have c1:(2*ay m x' y').natAbs<2^(2+1781):=cH (by decide) bP
  exact aL (mG c1 (aL bA (show 666+440+666+9<=2+1781 by decide))) (by decide)
 refine⟨_,_,rfl,nx,lg,_,rfl,b',y',_,a',x',rfl,VO _ _ hy',VO _ _ hx',bq,(λi hi=>aL (bx i hi) (by decide)),λr H4 s4 fr er=> ?_⟩
 have DS:=xD.trans s4
 have QU:=VO.trans s4
 have wl:=Int.le_trans (JV ev (y:=y') nx) Oj
 have bl:=bits _ wl
 have pl:=pr.trans (ic.less ev (y:=y') nx)
 have lp:=GR ev (y:=y') nx
 have ax:bH H4 a' x':=QU _ _ hx'
 have Xo:=rJ (m:=m) (i:=1) (σ:=[some (.ref t),some (.ref a'),some (.ref b')]) (by rfl) hx'
 generalize ji y' ((2*ay m x' y'+aQ m x')/(2*aQ m x')) x'=z at er wl bl pl lp
 refine⟨_,rfl,_,rfl,t,bs,m,r,z,rfl,hT.same DS,b7,hB.mono (by decide),er,b1 _ bl,DS _ _ hP,λH5 s5=> ?_⟩
 refine⟨_,rfl,_,rfl,t,bs,m,a',x',rfl,hT.same (DS.trans s5),b7,hB.mono (by decide),s5 _ _ ax,b1 _ bx,(DS.trans s5) _ _ hP,λH6 s6=> ?_⟩
 have QV:=s5.trans s6
 have CG:=DS.trans QV
 have ez:=fP ev z
 have ex:=fP ev x'
 refine⟨_,_,rfl,rfl,_,rfl,lS (λc=> ?_) (λc=> ?_)⟩
 ·have c:cI m x'<=cI m z:=of_decide_eq_true c
  refine⟨_,rfl,_,rfl,(by show 2<=sizeLine;decide),λP VP=> ?_⟩
  have uP:=az.up (o:= .tup [.ref a',.ref r]) VP
  exact q a' r x' z P _ ⟨nx,by show ay m x' x'<=ay m z z;omega,lp.1,lp.2⟩ pl Oi wl (CG.trans uP) ((QV.trans uP) _ _ ax) ((QV.trans uP) _ _ er) ao
 ·have c:¬cI m x'<=cI m z:=λy=>c (decide_eq_true y)
  refine⟨_,rfl,_,rfl,_,_,rfl,?_⟩
  refine⟨⟨r,a',z,x',rfl,CG,QV _ _ er,QV _ _ ax,pl.swap,wl,Oi⟩,?_⟩
  have at2:=rJ (m:=m) (i:=1) (σ:=[some (.ref t),some (.ref r),some (.ref a')]) (by rfl) (QV _ _ er)
  show JU m 1 [some (.ref t),some (.ref r),some (.ref a')] H6<JU m 1 [some (.ref t),some (.ref a'),some (.ref b')] H'
  rw[Xo,at2]
  have:=eF Po z
  have e1:aQ m z=ay m z z:=rfl
  have e2:aQ m x'=ay m x' x':=rfl
  (clear at2 lp bl wl Xo fr bq lg bA bP b1 bY bx SR Oj Oi bits hu ind q hP bw wy wx ab;omega)
inductive z5(T1 T0:Addr)(vs:List V)(H:Hp)(Q:VK)(E:XK):Prop
 |mk(t:Addr)(bs:List Addr)(m:List (List Int))(p:Addr)(as:List Addr)(X:Addr->Nat->Int)(_:vs=[.ref t,.ref p])(_:Tab H t bs m)(_:bE m)(_:Bd 440 m)(_:H p=some (.lst (as.map V.ref)))(_:as.length<64)(_:∀b∈as,bH H b (X b))(_:∀b∈as,(∀i,i<3->(X b i).natAbs<2^1000))(_:H T1=some (fE T1))(_:H T0=some .AG)(_:∀(Hn:Hp) (zs:List Addr),az H Hn->zs.Perm as->zs.Pairwise (λa b=>cI m (X a)<=cI m (X b)) -> ∀r,Hn r=none->Q (.ref r) (upd Hn r (.lst (zs.map V.ref))))
theorem BP{aF bC:Addr}(F:qO K mg "in_order" p6 iW bC)(bm:BM mg base)(gY:mg "sorted"=none)(iI:dQ P w K mg base dz 3 "worth" mL (qV aF)):dQ P w K mg base dz 7 "in_order" iW (z5 aF bC):=by
 refine F.ok BH (λvs H Q E h=> ?_) (λf cdv A outer s H vs Q E cd hr h=> ?_)
 ·obtain⟨t,bs,m,p,as,X,rfl,hT,b7,hB,hp,Xp,hX,bX,hP,hC,q⟩:=h
  rfl
 obtain⟨t,bs,m,p,as,X,rfl,hT,b7,hB,hp,Xp,hX,bX,hP,hC,q⟩:=h
 have hu:=hr.units
 refine⟨_,(cF (aW (GY (N2:=["form","rows"]) (tb:=(j5 (qV aF) [] E0 (dw (bU 1) (dw (bU 0) j4)))) rfl hr cd bm rfl gY (pv 1) (by kernel_rfl) (λ_ _ _ _ _ _=>rfl) (λ_ _ _ _ _=>by exact ly (aP iI (JR hr) rfl aM (af (pv 1) (af (pv 0) ak))))))),?_⟩
 refine⟨_,rfl,p,as.map V.ref,(λv=>match v with| .ref b=>cI m (X b)|_=>0),rfl,aU.of hp,(by rw[List.length_map];exact Xp),hC,(λv hv Hi si=> ?_),λHn zs sn pz so r hr=> ?_⟩
 ·obtain⟨b,rfl,hb⟩:=nW hv
  exact⟨_,rfl,_,rfl,t,bs,m,b,X b,rfl,hT.same si,b7,hB.mono (by decide),si _ _ (hX b hb),bX b hb,si _ _ hP,λH' s=>⟨rfl,s⟩⟩
 ·obtain⟨zs,rfl,YZ⟩:=GN pz
  rw[List.pairwise_map]at so
  exact q Hn zs sn YZ so r hr
inductive Ko(T1 T0:Addr)(vs:List V)(H:Hp)(Q:VK)(E:XK):Prop
 |mk(t:Addr)(bs:List Addr)(m:List (List Int))(a b c:Addr)(x y z:Nat->Int)(_:vs=[.ref t,.ref a,.ref b,.ref c])(_:Tab H t bs m)(_:bE m)(_:Bd 440 m)(_:bJ m)(_:b8 m=true)(_:bH H a x)(_:bH H b y)(_:bH H c z)(_:mJ m x y)(_:∀i,i<3->(x i).natAbs<2^666)(_:∀i,i<3->(y i).natAbs<2^666)(_:∀i,i<3->(z i).natAbs<2^666)(_:(aA m*(bQ x y z*bQ x y z)).natAbs<2^448)(_:(aQ m y).natAbs<2^446)(_:H T1=some (fE T1))(_:H T0=some .AG)(_:∀r z' H',Drawn m x y z z'->az H H'->bH H' r z'->Q (.ref r) H')
theorem BQ{aF bC:Addr}(F:fU K mg "drawn_in" p7 ku)(cy:dQ P w K mg base dz 7 "pairing" gI (qb aF))(fX:dQ P w K mg base dz 7 "less_times" gJ vZ)(ig:dQ P w K mg base dz 7 "in_order" iW (z5 aF bC)):dQ P w K mg base dz 8 "drawn_in" ku (Ko aF bC):=by
 refine F.ok gD (λvs H Q E h=> ?_) (λf cdv A outer s H vs Q E hr h=> ?_)
 ·obtain⟨t,bs,m,a,b,c,x,y,z,rfl,hT,b7,hB,ev,ab,ha,hb,hc,lp,bx,bY,bz,bd,bw,hP,hC,q⟩:=h
  rfl
 obtain⟨t,bs,m,a,b,c,x,y,z,rfl,hT,b7,hB,ev,ab,ha,hb,hc,lp,bx,bY,bz,bd,bw,hP,hC,q⟩:=h
 have hu:=hr.units
 refine⟨_,(oO (@aB _ _ _ _ _ (Mt (i:=4) (j:=5) (k:=6) rfl gD.nd rfl rfl rfl (by decide) (by decide) (by decide) rfl rfl rfl (af (aP cy hr rfl aM (af (pv 0) (af (pv 1) (af (pv 1) ak)))) (af (aP cy hr rfl aM (af (pv 0) (af (pv 1) (af (pv 2) ak)))) (af (aP cy hr rfl aM (af (pv 0) (af (pv 2) (af (pv 2) ak)))) ak))) rfl)
  (@aB _ _ _ _ _ (uW (i:=7) (j:=8) rfl gD.nd rfl rfl (by decide) rfl rfl (af (aP cy hr rfl aM (af (pv 0) (af (pv 1) (af (pv 3) ak)))) (af (aP cy hr rfl aM (af (pv 0) (af (pv 2) (af (pv 3) ak)))) ak)) rfl)
  (@aB _ _ _ _ _ (aY (i:=9) gD.nd rfl (Or.inl rfl) (aq dG (aq aE (pv 4) (pv 6)) (aq aE (pv 5) (pv 5))))
  (@aB _ _ _ _ _ (aY (i:=10) gD.nd rfl (Or.inl rfl) (aq nV (aq dG (aq aE (pv 6) (pv 7)) (aq aE (pv 5) (pv 8))) (pv 9)))
  (@aB _ _ _ _ _ (aY (i:=11) gD.nd rfl (Or.inl rfl) (aq nV (aq dG (aq aE (pv 4) (pv 8)) (aq aE (pv 5) (pv 7))) (pv 9)))
  (@aB _ _ _ _ _ (aY (i:=12) gD.nd rfl (Or.inl rfl) (dR (af (iP (af (pv 10) (af (pv 11) ak))) (af (iP (af (pv 10) (af (aq bV (pv 11) ah) ak))) (af (iP (af (aq bV (pv 10) ah) (af (pv 11) ak))) (af (iP (af (aq bV (pv 10) ah) (af (aq bV (pv 11) ah) ak))) ak))))))
  (@aT _ _ _ (aW (aD au (aP ig hr rfl aM (af (pv 0) (af (Dd (N2:=["form","one","other","third","across","along","aside","by_one","by_other","area","first","second","corners"]) (te:=(j5 vZ [] E0 (dw (j5 vZ [] E0 (dw (bU 5) (dw (bU 0) (dw (bU 3) j4)))) (dw (bU 1) (dw (bU 4) j4))))) rfl (gv (pv 12)) (by kernel_rfl) rfl (λ_ _ _=>by exact ly (aP fX hr rfl aM (af (aP fX hr rfl aM (af (pv 5) (af (pv 0) (af (pv 3) ak)))) (af (pv 1) (af (pv 4) ak)))))) ak))) ah (λ_ _=>rfl))))))))))),?_⟩
 have b1:∀v:Nat->Int,(∀i,i<3->(v i).natAbs<2^666) -> ∀i,i<3->(v i).natAbs<2^1000:=λv h i hi=>aL (h i hi) (by decide)
 have Po:=jV (fG ev b7) ab
 obtain⟨_,ap⟩:=lp.zS
 have s0:=az.refl H
 refine⟨_,rfl,_,rfl,_,rfl,t,bs,m,a,a,x,x,rfl,hT.same s0,b7,hB.mono (by decide),s0 _ _ ha,s0 _ _ ha,b1 _ bx,b1 _ bx,s0 _ _ hP,λH1 s1=> ?_⟩
 refine⟨_,rfl,_,rfl,_,rfl,t,bs,m,a,b,x,y,rfl,hT.same s1,b7,hB.mono (by decide),s1 _ _ ha,s1 _ _ hb,b1 _ bx,b1 _ bY,s1 _ _ hP,λH2 s2=> ?_⟩
 have s12:=s1.trans s2
 refine⟨_,rfl,_,rfl,_,rfl,t,bs,m,b,b,y,y,rfl,hT.same s12,b7,hB.mono (by decide),s12 _ _ hb,s12 _ _ hb,b1 _ bY,b1 _ bY,s12 _ _ hP,λH3 s3=> ?_⟩
 have xD:=s12.trans s3
 refine⟨_,_,_,rfl,?_⟩
 refine⟨_,rfl,_,rfl,_,rfl,t,bs,m,a,c,x,z,rfl,hT.same xD,b7,hB.mono (by decide),xD _ _ ha,xD _ _ hc,b1 _ bx,b1 _ bz,xD _ _ hP,λH4 s4=> ?_⟩
 have DS:=xD.trans s4
 refine⟨_,rfl,_,rfl,_,rfl,t,bs,m,b,c,y,z,rfl,hT.same DS,b7,hB.mono (by decide),DS _ _ hb,DS _ _ hc,b1 _ bY,b1 _ bz,DS _ _ hP,λH5 s5=> ?_⟩
 have MY:=DS.trans s5
 refine⟨_,_,rfl,?_⟩
 have c1:=jh hB bx bx
 have c2:=jh hB bx bY
 have c3:=jh hB bY bY
 have c4:=jh hB bx bz
 have c5:=jh hB bY bz
 have up:∀{v:Int},v.natAbs<2^(666+440+666+9) ->v.natAbs<2^4096:=λh=>aL h (by decide)
 refine⟨_,rfl,_,rfl,_,_,rfl,rfl,⟨up c1,up c3⟩,_,rfl,_,rfl,_,_,rfl,rfl,⟨up c2,up c2⟩,_,_,rfl,rfl,?_⟩
 have bA:(av m x y).natAbs<2^3600:=aL (lz (cH c1 c3) (cH c2 c2)) (by decide)
 have bS:(bK m x y z).natAbs<2^3600:=aL (lz (cH c3 c4) (cH c2 c5)) (by decide)
 have bR:(bL m x y z).natAbs<2^3600:=aL (lz (cH c1 c5) (cH c2 c4)) (by decide)
 have lg:(av m x y).natAbs.log2<9000:=(Nat.log2_lt (by show(av m x y).natAbs≠0;have:0<av m x y:=ap;omega)).mpr (Nat.lt_of_lt_of_le bA (Nat.pow_le_pow_right (by decide) (by decide)))
 refine⟨_,rfl,_,rfl,_,_,rfl,rfl,⟨up c3,up c4⟩,_,rfl,_,rfl,_,_,rfl,rfl,⟨up c2,up c5⟩,_,_,rfl,rfl,_,rfl,_,_,rfl,rfl,⟨ap,lg⟩,?_⟩
 refine⟨_,rfl,_,rfl,_,_,rfl,rfl,⟨up c1,up c5⟩,_,rfl,_,rfl,_,_,rfl,rfl,⟨up c2,up c4⟩,_,_,rfl,rfl,_,rfl,_,_,rfl,rfl,⟨ap,lg⟩,?_⟩
 have bF:(bK m x y z/av m x y).natAbs<2^3600:=Nat.lt_of_le_of_lt (ki _ ap) bS
 have bG:(bL m x y z/av m x y).natAbs<2^3600:=Nat.lt_of_le_of_lt (ki _ ap) bR
 refine⟨_,rfl,_,rfl,(by show 2<=sizeLine;decide),λp0 g0=>⟨_,rfl,_,rfl,_,_,rfl,rfl,(by show 2<=sizeLine;decide),λp1 g1=>⟨_,rfl,_,_,rfl,rfl,_,rfl,(by show 2<=sizeLine;decide),λp2 g2=>⟨_,rfl,_,_,rfl,rfl,_,rfl,_,_,rfl,rfl,(by show 2<=sizeLine;decide),λp3 g3=>⟨(by show 4<=sizeLine;decide),λL gL=> ?_⟩⟩⟩⟩⟩
 have v0:=az.up (o:= .tup [.int (bK m x y z/av m x y),.int (bL m x y z/av m x y)]) g0
 have v1:=az.up (o:= .tup [.int (bK m x y z/av m x y),.int ((bL m x y z/av m x y)+1)]) g1
 have v2:=az.up (o:= .tup [.int ((bK m x y z/av m x y)+1),.int (bL m x y z/av m x y)]) g2
 have v3:=az.up (o:= .tup [.int ((bK m x y z/av m x y)+1),.int ((bL m x y z/av m x y)+1)]) g3
 have vL:=az.up (o:= .lst [.ref p0,.ref p1,.ref p2,.ref p3]) gL
 have Xq:=v3.trans vL
 have Xr:=v2.trans Xq
 have Xu:=v1.trans Xr
 have vv:=v0.trans Xu
 have t0:=Xu _ _ (ao (H:=H5) (a:=p0) (o:= .tup [.int (bK m x y z/av m x y),.int (bL m x y z/av m x y)]))
 have t1:=Xr _ _ (ao (a:=p1) (o:= .tup [.int (bK m x y z/av m x y),.int ((bL m x y z/av m x y)+1)]))
 have t2:=Xq _ _ (ao (a:=p2) (o:= .tup [.int ((bK m x y z/av m x y)+1),.int (bL m x y z/av m x y)]))
 have t3:=vL _ _ (ao (a:=p3) (o:= .tup [.int ((bK m x y z/av m x y)+1),.int ((bL m x y z/av m x y)+1)]))
 have Qe:=MY.trans vv
 refine⟨_,rfl,_,rfl,L,rfl,⟨_,aU.of ao⟩,λD hD=>GO (oM (aU.of ao)) (by show 4<=sizeLine;decide) hD (λj=> .int (if j<2 then(bK m x y z/av m x y)else(bK m x y z/av m x y)+1)) (λj=> .int (if j%2=0 then(bL m x y z/av m x y)else(bL m x y z/av m x y)+1)) (λj v ev'=> ?_) (λj v H=> ∃r,v= .ref r/\r≠D/\bH H r (bZ z (if j<2 then(bK m x y z/av m x y)else(bK m x y z/av m x y)+1) x (if j%2=0 then(bL m x y z/av m x y)else(bL m x y z/av m x y)+1) y)) (λj v H H' h off=> ?_) (λj hj H6 Q6 s6 eD k6=> ?_) (λws H6 s6 lw rel eD=> ?_)⟩
 ·have hj:j<4:=(List.getElem?_eq_some_iff.mp ev').1
  obtain rfl|rfl|rfl|rfl:j=0∨j=1∨j=2∨j=3:=by omega
  ·exact⟨p0,(Option.some.inj ev').symm,pI.of t0⟩
  ·exact⟨p1,(Option.some.inj ev').symm,pI.of t1⟩
  ·exact⟨p2,(Option.some.inj ev').symm,pI.of t2⟩
  ·exact⟨p3,(Option.some.inj ev').symm,pI.of t3⟩
 ·obtain⟨r,e,nr,hr⟩:=h
  exact⟨r,e,nr,off _ _ nr hr⟩
 ·have sa:=Qe.trans s6
  have b4:∀{v:Int},v.natAbs<2^3600->(v+1).natAbs<2^4096:=λh=>aL (mG h (show(1:Int).natAbs<2^3600 from aL (a:=1) (by decide) (by decide))) (by decide)
  have bi:(if j<2 then(bK m x y z/av m x y)else(bK m x y z/av m x y)+1).natAbs<2^4096:=by split;exact aL bF (by decide);exact b4 bF
  have bj:(if j%2=0 then(bL m x y z/av m x y)else(bL m x y z/av m x y)+1).natAbs<2^4096:=by split;exact aL bG (by decide);exact b4 bG
  obtain⟨oD,eD⟩:=eD
  refine⟨_,rfl,_,rfl,_,rfl,c,z,_,a,x,rfl,sa _ _ hc,sa _ _ ha,bi,(λi hi=>aL (bx i hi) (by decide)),λr1 H7 s7 f1 e1=> ?_⟩
  refine⟨_,rfl,_,rfl,r1,_,_,b,y,rfl,e1,(sa.trans s7) _ _ hb,bj,(λi hi=>aL (bY i hi) (by decide)),λr2 H8 s8 f2 e2=> ?_⟩
  exact k6 (.ref r2) H8 (s7.trans s8) ⟨r2,rfl,(λw=>by rw[w,s7 _ _ eD]at f2;cases f2),e2⟩
 have Xv:ws.length=4:=lw
 obtain⟨w0,w1,w2,w3,rfl⟩:∃a b c d,ws=[a,b,c,d]:=by
  match ws,Xv with
  | [a,b,c,d],_=>exact⟨a,b,c,d,rfl⟩
 obtain⟨r0,rfl,_,x0⟩:=rel 0 _ rfl
 obtain⟨r1,rfl,_,x1⟩:=rel 1 _ rfl
 obtain⟨r2,rfl,_,x2⟩:=rel 2 _ rfl
 obtain⟨r3,rfl,_,x3⟩:=rel 3 _ rfl
 have x0:bH H6 r0 (bZ z (bK m x y z/av m x y) x (bL m x y z/av m x y) y):=x0
 have x1:bH H6 r1 (bZ z (bK m x y z/av m x y) x ((bL m x y z/av m x y)+1) y):=x1
 have x2:bH H6 r2 (bZ z ((bK m x y z/av m x y)+1) x (bL m x y z/av m x y) y):=x2
 have x3:bH H6 r3 (bZ z ((bK m x y z/av m x y)+1) x ((bL m x y z/av m x y)+1) y):=x3
 have CG:=Qe.trans s6
 have D0:0<=aA m:=Int.le_of_lt (gH ab).2.2
 have each:∀r∈ [r0,r1,r2,r3],∃i j,(i=(bK m x y z/av m x y)∨i=(bK m x y z/av m x y)+1)/\(j=(bL m x y z/av m x y)∨j=(bL m x y z/av m x y)+1)/\bH H6 r (bZ z i x j y):=λr hr=>by
  simp only[List.mem_cons,List.not_mem_nil,or_false]at hr
  rcases hr with rfl|rfl|rfl|rfl
  ·exact⟨_,_,.inl rfl,.inl rfl,x0⟩
  ·exact⟨_,_,.inl rfl,.inr rfl,x1⟩
  ·exact⟨_,_,.inr rfl,.inl rfl,x2⟩
  ·exact⟨_,_,.inr rfl,.inr rfl,x3⟩
 have same:∀{r:Addr}{v:Nat->Int},bH H6 r v->aQ m (aK (dP H6 r))=aQ m v:=λh=>d7 (iA h) (iA h)
 refine⟨t,bs,m,D,[r0,r1,r2,r3],(λr=>aK (dP H6 r)),rfl,hT.same CG,b7,hB,eD,(by show 4<64;decide),(λr hr=> ?_),(λr hr i hi=> ?_),CG _ _ hP,CG _ _ hC,λHn zs sn pz so p hp=> ?_⟩
 ·obtain⟨i,j,_,_,h⟩:=each r hr
  exact zT h
 ·obtain⟨i',j',hi',hj',h⟩:=each r hr
  show(aK (dP H6 r) i).natAbs<2^1000
  rw[iA h i hi]
  have cl:=GV ev lp hi' hj' D0
  have n0:=eF Po (bZ z i' x j' y)
  refine aL (n9 ev b7 ab hB ?_ hi) (by decide)
  have k1:=Int.mul_nonneg D0 (bu (bQ x y z))
  have k2:0<=aQ m y:=eF Po y
  have k3:(aA m*(bQ x y z*bQ x y z)+3*aQ m y).natAbs<2^(448+1):=mG bd (aL (cH (show(3:Int).natAbs<2^2 by decide) bw) (by decide))
  refine Nat.lt_of_le_of_lt ?_ (aL k3 (show 448+1<=450 by decide))
  (clear hj' hi' hi same each D0 Xv eD rel lw hD t3 t2 t1 t0 gL g3 g2 g1 g0 bG bF lg bR bS bA up c5 c4 c3 c2 c1 ap b1 hu q hC hP bw bd bz bY bx ab;omega)
 have Za:∃Zb rest,zs=Zb::rest:=by
  cases zs with
  |nil=>have:=pz.length_eq;simp at this
  |cons r rest=>exact⟨r,rest,rfl⟩
 obtain⟨rz,rest,rfl⟩:=Za
 obtain⟨i,j,hi,hj,hz⟩:=each rz (pz.mem_iff.mp List.mem_cons_self)
 have least:∀r∈ [r0,r1,r2,r3],aQ m (bZ z i x j y)<=aQ m (aK (dP H6 r)):=λr hr=>by
  rw[<-same hz]
  rcases List.mem_cons.mp (pz.mem_iff.mpr hr)with e|hr'
  ·rw[e]
   exact Int.le_refl _
  ·have:cI m (aK (dP H6 rz))<=cI m (aK (dP H6 r)):=(List.pairwise_cons.mp so).1 r hr'
   have p1:=fP ev (aK (dP H6 rz))
   have p2:=fP ev (aK (dP H6 r))
   show ay m _ _<=ay m _ _
   omega
 have sF:=CG.trans (sn.trans (az.up (o:= .lst ((rz::rest).map V.ref)) hp))
 refine⟨p,_,_,_,rfl,rfl,aU.of ao,JE,q rz _ _ (Ka ev lp hi hj λi' j' hi' hj'=> ?_) sF ((sn.trans (az.up hp)) _ _ hz)⟩
 rcases hi' with rfl|rfl<;>rcases hj' with rfl|rfl
 ·rw[<-same x0];exact least r0 (by simp)
 ·rw[<-same x1];exact least r1 (by simp)
 ·rw[<-same x2];exact least r2 (by simp)
 ·rw[<-same x3];exact least r3 (by simp)
inductive FG(T1 T0:Addr)(vs:List V)(H:Hp)(Q:VK)(E:XK):Prop
 |mk(t:Addr)(bs:List Addr)(m:List (List Int))(_:vs=[.ref t])(_:Tab H t bs m)(_:bE m)(_:Bd 440 m)(_:bJ m)(_:b8 m=true)(_:(aA m).natAbs<2^440)(_:H T1=some (fE T1))(_:H T0=some .AG)(_:∀(r a b c:Addr) (x y z:Nat->Int) H',Fx m x y z->az H H'->H r=none->H' r=some (.lst [.ref a,.ref b,.ref c]) ->bH H' a x->bH H' b y->bH H' c z->Q (.ref r) H')
theorem xE{aF bC:Addr}(F:fU K mg "near_basis" mQ iC)(ig:dQ P w K mg base dz 8 "in_order" iW (z5 aF bC))(mW:dQ P w K mg base dz 8 "least_pair" iB (BO aF))(qc:dQ P w K mg base dz 8 "drawn_in" ku (Ko aF bC))(iI:dQ P w K mg base dz 8 "worth" mL (qV aF)):dQ P w K mg base dz 9 "near_basis" iC (FG aF bC):=by
 refine F.ok dF (λvs H Q E h=> ?_) (λf cdv A outer s H vs Q E hr h=> ?_)
 ·obtain⟨t,bs,m,rfl,hT,b7,hB,ev,ab,bD,hP,hC,q⟩:=h
  rfl
 obtain⟨t,bs,m,rfl,hT,b7,hB,ev,ab,bD,hP,hC,q⟩:=h
 have hu:=hr.units
 refine⟨_,(oO (@aB _ _ _ _ _ (iO (aP ig hr rfl aM (af (pv 0) (af (dR (af (dR (af ah (af ah (af ah ak)))) (af (dR (af ah (af ah (af ah ak)))) (af (dR (af ah (af ah (af ah ak)))) ak)))) ak))) (jc rfl (aJ (aI (i:=1) dF.nd rfl (Or.inl rfl)) (aJ (aI (i:=2) dF.nd rfl (Or.inl rfl)) (aJ (aI (i:=3) dF.nd rfl (Or.inl rfl)) fj)))))
  (@aT _ _ _ (uX PassesOwn.never (mj pC) (oO (@aB _ _ _ _ _ (iO (aP mW hr rfl aM (af (pv 0) (af (pv 1) (af (pv 2) ak)))) (nM rfl (aJ (aI (i:=1) dF.nd rfl (Or.inl rfl)) (aJ (aI (i:=2) dF.nd rfl (Or.inl rfl)) fj))))
  (@aB _ _ _ _ _ (aY (i:=3) dF.nd rfl (Or.inl rfl) (aP qc hr rfl aM (af (pv 0) (af (pv 1) (af (pv 2) (af (pv 3) ak))))))
  (@aB _ _ _ _ _ (eE (cL Iu (aP iI hr rfl aM (af (pv 0) (af (pv 3) ak))) (aP iI hr rfl aM (af (pv 0) (af (pv 2) ak))) (cK _)) (@aT _ _ _ (aW (dR (af (pv 1) (af (pv 2) (af (pv 3) ak)))))) d9)
  (@aT _ _ _ (iO (aP ig hr rfl aM (af (pv 0) (af (dR (af (pv 1) (af (pv 2) (af (pv 3) ak)))) ak))) (jc rfl (aJ (aI (i:=1) dF.nd rfl (Or.inl rfl)) (aJ (aI (i:=2) dF.nd rfl (Or.inl rfl)) (aJ (aI (i:=3) dF.nd rfl (Or.inl rfl)) fj)))))))))))))),?_⟩
 have Po:=jV (fG ev b7) ab
 have bits:∀z:Nat->Int,aQ m z<=(2^440:Int) -> ∀i,i<3->(z i).natAbs<2^666:=λz hz i hi=>n9 ev b7 ab hB (by have:=eF Po z;omega) hi
 have b1:∀v:Nat->Int,(∀i,i<3->(v i).natAbs<2^666) -> ∀i,i<3->(v i).natAbs<2^1000:=λv h i hi=>aL (h i hi) (by decide)
 have ord:∀{H1:Hp}{a b c:Addr}{x y z:Nat->Int},bH H1 a x->bH H1 b y->bH H1 c z->(bQ x y z=1∨bQ x y z= -1) ->aQ m x<=(2^440:Int) ->aQ m y<=(2^440:Int) ->aQ m z<=(2^440:Int) ->
   (∀r∈ [a,b,c],bH H1 r (aK (dP H1 r)))/\(∀r∈ [a,b,c],∀i,i<3->(aK (dP H1 r) i).natAbs<2^1000)/\ ∀zs:List Addr,zs.Perm [a,b,c] ->zs.Pairwise (λa b=>cI m (aK (dP H1 a))<=cI m (aK (dP H1 b))) ->
   ∃(p q r:Addr)(x1 y1 z1:Nat->Int),zs=[p,q,r]/\bH H1 p x1/\bH H1 q y1/\bH H1 r z1/\(bQ x1 y1 z1=1∨bQ x1 y1 z1= -1)/\aQ m x1<=(2^440:Int)/\aQ m y1<=(2^440:Int)/\aQ m z1<=(2^440:Int)/\aQ m x1+aQ m y1<=aQ m x+aQ m z:=λ {H1 a b c x y z} ha hb hc un wx wy wz=>by
  have same:∀{r:Addr}{v:Nat->Int},bH H1 r v->aQ m (aK (dP H1 r))=aQ m v:=λh=>d7 (iA h) (iA h)
  have each:∀r∈ [a,b,c],bH H1 r (aK (dP H1 r))/\aQ m (aK (dP H1 r))<=(2^440:Int):=λr hr=>by
   simp only[List.mem_cons,List.not_mem_nil,or_false]at hr
   rcases hr with rfl|rfl|rfl
   ·exact⟨zT ha,by rw[same ha];exact wx⟩
   ·exact⟨zT hb,by rw[same hb];exact wy⟩
   ·exact⟨zT hc,by rw[same hc];exact wz⟩
  refine⟨λr hr=>(each r hr).1,λr hr=>b1 _ (bits _ (each r hr).2),λzs pz so=> ?_⟩
  obtain⟨p,q,r,rfl,hp,hq,hr,dt,sum⟩:=Qc (X:=λr=>aK (dP H1 r)) ev pz so
  refine⟨p,q,r,_,_,_,rfl,(each p hp).1,(each q hq).1,(each r hr).1,?_,(each p hp).2,(each q hq).2,(each r hr).2,by rw[<-same ha,<-same hc];exact sum⟩
  have e:=Kd (iA ha) (iA hb) (iA hc)
  rcases un with u|u<;>rcases dt with d|d<;>rw[e,u]at d<;>rw[d]<;>simp
 refine⟨_,rfl,(by show 3<=sizeLine;decide),λa0 h0=>⟨(by show 3<=sizeLine;decide),λa1 h1=>⟨(by show 3<=sizeLine;decide),λa2 h2=>⟨(by show 3<=sizeLine;decide),λA hA=> ?_⟩⟩⟩⟩
 have v0:=az.up (o:= .lst [.int 1,.int 0,.int 0]) h0
 have v1:=az.up (o:= .lst [.int 0,.int 1,.int 0]) h1
 have v2:=az.up (o:= .lst [.int 0,.int 0,.int 1]) h2
 have vA:=az.up (o:= .lst [.ref a0,.ref a1,.ref a2]) hA
 have sA:=v0.trans (v1.trans (v2.trans vA))
 have r0:bH _ a0 (yu 0 1):=vA _ _ (v2 _ _ (v1 _ _ (ao (H:=H) (a:=a0) (o:= .lst [.int 1,.int 0,.int 0]))))
 have r1:bH _ a1 (yu 1 1):=vA _ _ (v2 _ _ (ao (a:=a1) (o:= .lst [.int 0,.int 1,.int 0])))
 have r2:bH _ a2 (yu 2 1):=vA _ _ (ao (a:=a2) (o:= .lst [.int 0,.int 0,.int 1]))
 have wE:∀i,i<3->aQ m (yu i 1)<=(2^440:Int):=λi hi=>by
  rw[vN m hi]
  have:=hB i i hi hi
  omega
 obtain⟨o1,o2,o3⟩:=ord r0 r1 r2 (.inl (by decide)) (wE 0 (by decide)) (wE 1 (by decide)) (wE 2 (by decide))
 refine⟨t,bs,m,A,[a0,a1,a2],_,rfl,hT.same sA,b7,hB,ao,(by show 3<64;decide),o1,o2,sA _ _ hP,sA _ _ hC,λHn zs sn pz so R hR=> ?_⟩
 obtain⟨a,b,c,x,y,z,rfl,hx,hy,hz,un,wx,wy,wz,_⟩:=o3 zs pz so
 have uR:=az.up (o:= .lst ([a,b,c].map V.ref)) hR
 have s1:=sn.trans uR
 have hx:=s1 _ _ hx
 have hy:=s1 _ _ hy
 have hz:=s1 _ _ hz
 have eR:upd Hn R (.lst ([a,b,c].map V.ref)) R=some (.lst [.ref a,.ref b,.ref c]):=ao
 have sH:=sA.trans s1
 refine⟨R,[.ref a,.ref b,.ref c],rfl,aU.of eR,rfl,_,_,rfl,_,_,rfl,_,_,rfl,rfl,?_⟩
 refine uY (λσ H'=> ∃(a b c:Addr)(x y z:Nat->Int),σ=[some (.ref t),some (.ref a),some (.ref b),some (.ref c)]/\az H H'/\bH H' a x/\bH H' b y/\bH H' c z/\(bQ x y z=1∨bQ x y z= -1)/\aQ m x<=(2^440:Int)/\aQ m y<=(2^440:Int)/\aQ m z<=(2^440:Int)) (λσ H=>JU m 1 σ H+JU m 2 σ H) ⟨a,b,c,x,y,z,rfl,sH,hx,hy,hz,un,wx,wy,wz⟩ (λσ H' hh=> ?_) ?_
 rotate_left
 ·rintro σ H' Q Q' h ⟨c,e,k⟩
  exact⟨c,e,h _ _ k⟩
 obtain⟨a,b,c,x,y,z,rfl,s1,hx,hy,hz,un,wx,wy,wz⟩:=hh
 refine⟨true,rfl,xh ?_⟩
 have ne:bQ x y z≠0:=by omega
 refine⟨_,rfl,_,rfl,_,rfl,t,bs,m,a,b,x,y,(2^440:Int),rfl,hT.same s1,b7,hB,ev,ab,hx,hy,⟨z,ne⟩,wx,wy,(by decide),s1 _ _ hP,λa' b' x' y' P H2 lp pr Oi Oj s2 hx' hy' eP=> ?_⟩
 refine⟨P,[.ref a',.ref b'],rfl,pI.of eP,rfl,_,_,rfl,_,_,rfl,rfl,?_⟩
 have s12:=s1.trans s2
 have un':bQ x' y' z=1∨bQ x' y' z= -1:=by
  obtain⟨e,he,hd⟩:=pr.det
  rw[hd]
  rcases he with rfl|rfl<;>rcases un with u|u<;>rw[u]<;>simp
 have one:bQ x' y' z*bQ x' y' z=1:=by rcases un' with u|u<;>rw[u]<;>decide
 have ny:=eF Po y'
 refine⟨_,rfl,_,rfl,_,rfl,_,rfl,t,bs,m,a',b',c,x',y',z,rfl,hT.same s12,b7,hB,ev,ab,hx',hy',s2 _ _ hz,lp,bits _ Oi,bits _ Oj,bits _ wz,(by rw[one,Int.mul_one];exact aL bD (by decide)),(by omega),s12 _ _ hP,s12 _ _ hC,λr z' H3 dr s3 hz'=> ?_⟩
 have xD:=s12.trans s3
 have nz:=eF Po z'
 have Xw:bH H3 a' x':=s3 _ _ hx'
 have VQ:bH H3 b' y':=s3 _ _ hy'
 have Xx:bQ x' y' z'=1∨bQ x' y' z'= -1:=by rw[dr.det];exact un'
 have bz:∀i,i<3->(z' i).natAbs<2^666:=λi hi=>by
  obtain⟨ar,ap⟩:=lp.zS
  have few:=dr.few
  rw[one,Int.mul_one]at few
  have D0:=(gH ab).2.2
  refine n9 ev b7 ab hB ?_ hi
  have vM:1<=av m x' y':=ap
  have k1:aQ m z'<=av m x' y'*aQ m z':=by
   have:=Int.mul_le_mul_of_nonneg_right vM nz
   omega
  have k2:4*(av m x' y'*aQ m z')<=4*(av m x' y'*(aA m+aQ m y')):=by
   have e1:av m x' y'*(aA m+aQ m y')=av m x' y'*aA m+av m x' y'*aQ m y':=Int.mul_add ..
   have e2:1*aA m<=av m x' y'*aA m:=Int.mul_le_mul_of_nonneg_right vM (Int.le_of_lt D0)
   have e3:0<=av m x' y'*aQ m y':=Int.mul_nonneg (by omega) ny
   omega
  have k3:aQ m z'<=aA m+aQ m y':=Int.le_of_mul_le_mul_left (a:=av m x' y') (by omega) ap
  omega
 refine⟨_,rfl,_,rfl,t,bs,m,r,z',rfl,hT.same xD,b7,hB.mono (by decide),hz',b1 _ bz,xD _ _ hP,λH4 s4=> ?_⟩
 refine⟨_,rfl,_,rfl,t,bs,m,b',y',rfl,hT.same (xD.trans s4),b7,hB.mono (by decide),s4 _ _ VQ,b1 _ (bits _ Oj),(xD.trans s4) _ _ hP,λH5 s5=> ?_⟩
 have VR:=s4.trans s5
 have MY:=xD.trans VR
 have ez:=fP ev z'
 have ey:=fP ev y'
 refine⟨_,_,rfl,rfl,_,rfl,lS (λcd=> ?_) (λcd=> ?_)⟩
 ·have cd:cI m y'<=cI m z':=of_decide_eq_true cd
  refine⟨_,rfl,_,rfl,_,rfl,(by show 3<=sizeLine;decide),λR hR=> ?_⟩
  have uR:=az.up (o:= .lst [.ref a',.ref b',.ref r]) hR
  have VS:=VR.trans uR
  exact q R a' b' r x' y' z' _ (MT lp dr un' (by show ay m y' y'<=ay m z' z';omega)) (MY.trans uR) (MY.none hR) ao (VS _ _ Xw) (VS _ _ VQ) (VS _ _ hz')
 ·have cd:¬cI m y'<=cI m z':=λw=>cd (decide_eq_true w)
  have lt:aQ m z'<aQ m y':=by show ay m z' z'<ay m y' y';omega
  refine⟨_,rfl,_,rfl,_,rfl,_,rfl,(by show 3<=sizeLine;decide),λL hL=> ?_⟩
  have uL:=az.up (o:= .lst [.ref a',.ref b',.ref r]) hL
  have VT:=VR.trans uL
  obtain⟨o1,o2,o3⟩:=ord (VT _ _ Xw) (VT _ _ VQ) (VT _ _ hz') Xx Oi Oj (by omega)
  have Qe:=MY.trans uL
  refine⟨t,bs,m,L,[a',b',r],_,rfl,hT.same Qe,b7,hB,ao,(by show 3<64;decide),o1,o2,Qe _ _ hP,Qe _ _ hC,λHn zs sn pz so R hR=> ?_⟩
  obtain⟨p1,q1,r1,x1,y1,z1,rfl,Oc,hy1,hz1,Xy,Xz,XA,XC,sum⟩:=o3 zs pz so
  have uR:=az.up (o:= .lst ([p1,q1,r1].map V.ref)) hR
  have s6:=sn.trans uR
  have Oc:=s6 _ _ Oc
  have hy1:=s6 _ _ hy1
  have hz1:=s6 _ _ hz1
  have eR:upd Hn R (.lst ([p1,q1,r1].map V.ref)) R=some (.lst [.ref p1,.ref q1,.ref r1]):=ao
  refine⟨R,[.ref p1,.ref q1,.ref r1],rfl,aU.of eR,rfl,_,_,rfl,_,_,rfl,_,_,rfl,rfl,?_⟩
  refine⟨⟨p1,q1,r1,x1,y1,z1,rfl,Qe.trans s6,Oc,hy1,hz1,Xy,Xz,XA,XC⟩,?_⟩
  have m1:=rJ (m:=m) (i:=1) (σ:=[some (.ref t),some (.ref p1),some (.ref q1),some (.ref r1)]) (by rfl) Oc
  have m2:=rJ (m:=m) (i:=2) (σ:=[some (.ref t),some (.ref p1),some (.ref q1),some (.ref r1)]) (by rfl) hy1
  have m3:=rJ (m:=m) (i:=1) (σ:=[some (.ref t),some (.ref a),some (.ref b),some (.ref c)]) (by rfl) hx
  have m4:=rJ (m:=m) (i:=2) (σ:=[some (.ref t),some (.ref a),some (.ref b),some (.ref c)]) (by rfl) hy
  show JU m 1 [some (.ref t),some (.ref p1),some (.ref q1),some (.ref r1)] (upd Hn R (.lst ([p1,q1,r1].map V.ref)))+JU m 2 [some (.ref t),some (.ref p1),some (.ref q1),some (.ref r1)] (upd Hn R (.lst ([p1,q1,r1].map V.ref)))<JU m 1 [some (.ref t),some (.ref a),some (.ref b),some (.ref c)] H'+JU m 2 [some (.ref t),some (.ref a),some (.ref b),some (.ref c)] H'
  rw[m1,m2,m3,m4]
  have n1:0<=ay m x1 x1:=eF Po x1
  have n2:0<=ay m y1 y1:=eF Po y1
  have n3:0<=ay m x x:=eF Po x
  have n4:0<=ay m y y:=eF Po y
  have ps:ay m x' x'+ay m y' y'<=ay m x x+ay m y y:=pr.sum
  have sm:ay m x1 x1+ay m y1 y1<=ay m x' x'+ay m z' z':=sum
  have lt:ay m z' z'<ay m y' y':=lt
  (clear lt m4 m3 m2 m1 eR hz1 hy1 Oc sum XC XA Xz Xy hR o3 o2 o1 hL bz Xx nz ny one un' eP Oj Oi ne wz wy wx un wE hA h2 h1 h0 ord b1 bits hu q hC hP bD ab;omega)
inductive Kp(T2 T1 T0:Addr)(vs:List V)(H:Hp)(Q:VK)(E:XK):Prop
 |mk(t:Addr)(bs:List Addr)(m:List (List Int))(_:vs=[.ref t])(_:Tab H t bs m)(_:bE m)(_:Bd 440 m)(_:bJ m)(_:b8 m=true)(_:(aA m).natAbs<2^440)(_:H T2=some (fE T2))(_:H T1=some (fE T1))(_:H T0=some .AG)(_:∀u us r rs B P H',gz (br m B) ->(aA B=1∨aA B= -1) ->aA (br m B)=aA m->bE B->Bd 700 B->az H H'->H' P=some (.tup [.ref u,.ref r]) ->Tab H' u us (br m B) ->Tab H' r rs B->Q (.ref P) H')
theorem MZ{aF bC bO:Addr}(F:fU K mg "near" DH vR)(mX:dQ P w K mg base dz 9 "near_basis" iC (FG aF bC))(jZ:dQ P w K mg base dz 9 "carried" jY (r6 bO)):dQ P w K mg base dz 10 "near" vR (Kp bO aF bC):=by
 refine F.ok FD (λvs H Q E h=> ?_) (λf cdv A outer s H vs Q E hr h=> ?_)
 ·obtain⟨t,bs,m,rfl,hT,b7,hB,ev,ab,bD,hM,hP,hC,q⟩:=h
  rfl
 obtain⟨t,bs,m,rfl,hT,b7,hB,ev,ab,bD,hM,hP,hC,q⟩:=h
 have hu:=hr.units
 refine⟨_,(oO (@aB _ _ _ _ _ (aY (i:=1) FD.nd rfl (Or.inl rfl) (aP mX hr rfl aM (af (pv 0) ak)))
  (@aT _ _ _ (aW (iP (af (aP jZ hr rfl aM (af (pv 0) (af (pv 1) ak))) (af (pv 1) ak))))))),?_⟩
 have Po:=jV (fG ev b7) ab
 refine⟨_,rfl,t,bs,m,rfl,hT,b7,hB,ev,ab,bD,hP,hC,λr a b c x y z H1 nr s1 fr er hx hy hz=> ?_⟩
 obtain⟨f1,f2,f3⟩:=Ke nr
 have bits:∀v:Nat->Int,3*aQ m v<=16*aA m-> ∀i,i<3->(v i).natAbs<2^666:=λv hv i hi=>n9 ev b7 ab hB (by have:=eF Po v;omega) hi
 obtain⟨nt,un,dt⟩:=Dy ev b7 ab nr
 have TB:Tab H1 r [a,b,c] (d8 x y z):=kR (λi j=>if i=0 then x j else if i=1 then y j else z j) er hx hy hz
 have bB:Bd 666 (d8 x y z):=λi j hi hj=>by
  obtain⟨g0,g1,g2⟩:=oR x y z hj
  rcases aN hi with rfl|rfl|rfl
  ·rw[g0];exact bits x f1 j hj
  ·rw[g1];exact bits y f2 j hj
  ·rw[g2];exact bits z f3 j hj
 refine⟨_,rfl,_,rfl,t,bs,m,r,[a,b,c],d8 x y z,rfl,hT.same s1,TB,b7,cP _,hB.mono (by decide),bB.mono (by decide),s1 _ _ hM,λu us H2 s2 fu VM nu Tu=> ?_⟩
 refine⟨_,rfl,(by show 2<=sizeLine;decide),λP VP=> ?_⟩
 have uP:=az.up (o:= .tup [.ref u,.ref r]) VP
 exact q u us r [a,b,c] (d8 x y z) P _ nt un dt (cP _) (bB.mono (by decide)) (s1.trans (s2.trans uP)) ao (Tu.same uP) ((TB.same s2).same uP)
end
end CX
namespace L2
open PySem PySem.Spec PyProof.Rows
section
variable{X:Cx}
noncomputable def SS:V->List V->Hp->VK->Prop:=λx vs H Q=> ∃i:Int,x= .int i/\vs=[]/\Q (.int ((Builtin.Int.intBits i:Nat):Int)) H
theorem Na:UX X "int.bit_length" SS:=by
 intro pins s σ H x vs v us Q I rx rv h
 obtain⟨i,rfl,rfl,q⟩:=h
 obtain⟨t,rfl⟩:=rx
 have Zc:=rv.zero
 subst Zc
 exact PyProof.Rows.call_int_bit_length ⟨.int _,H,I.tok _,⟨_,rfl⟩,q⟩
end
theorem BR{N:Int}(h:0<=N):N<2^(Builtin.Int.intBits N):=by
 unfold Builtin.Int.intBits
 by_cases c:(N==0)=true
 ·rw[if_pos c]
  have:N=0:=by simpa using c
  subst this
  decide
 ·rw[if_neg c]
  have n0:N.natAbs≠0:=by
   have:¬N=0:=by simpa using c
   omega
  have:=Nat.lt_log2_self (n:=N.natAbs)
  have e:((2^(N.natAbs.log2+1):Nat):Int)=2^(N.natAbs.log2+1):=by push_cast;rfl
  omega
theorem DT{N:Int}(h:0<=N){r:Int}(r0:0<=r)(hr:r*r<=N):r<=1*2^((((Builtin.Int.intBits N:Nat):Int)+1)/2).toNat:=by
 have b:=BR h
 generalize Builtin.Int.intBits N=k at b ⊢
 have e:(((k:Int)+1)/2).toNat=(k+1)/2:=by(clear b hr r0 h;omega)
 rw[e,Int.one_mul]
 refine Int.le_of_lt_add_one (Int.lt_of_not_ge λz=> ?_)
 have p0:(0:Int)<=2^((k+1)/2):=Int.le_of_lt (Int.pow_pos (by decide))
 have s:((2:Int)^((k+1)/2)+1)*(2^((k+1)/2)+1)<=r*r:=Int.mul_le_mul z z (by omega) r0
 have q:(2:Int)^k<=2^((k+1)/2)*2^((k+1)/2):=by
  rw[<-Int.pow_add]
  exact_mod_cast Nat.pow_le_pow_right (n:=2) (by decide) (show k<=(k+1)/2+(k+1)/2 by omega)
 have e2:((2:Int)^((k+1)/2)+1)*(2^((k+1)/2)+1)=2^((k+1)/2)*2^((k+1)/2)+2*2^((k+1)/2)+1:=by grind
 omega
theorem Hj{N t:Int}(t0:0<t)(h:N<t*t)(N0:0<=N):(∀r,0<=r->r*r<=N->r<=(t+N/t)/2)/\(t+N/t)/2<t/\0<=(t+N/t)/2:=by
 have q0:0<=N/t:=Int.ediv_nonneg N0 (Int.le_of_lt t0)
 refine⟨λr r0 hr=> ?_,?_,by omega⟩
 ·have k:(2*r-t)*t<=N:=by
   have s:=bu (t-r)
   have e:(t-r)*(t-r)=t*t-2*(r*t)+r*r:=by grind
   have e2:(2*r-t)*t=2*(r*t) -t*t:=by grind
   omega
  have:2*r-t<=N/t:=(Int.le_ediv_iff_mul_le t0).mpr k
  omega
 ·have:N/t<t:=(Int.ediv_lt_iff_lt_mul t0).mpr h
  omega
theorem Hl{N t:Int}(t0:0<=t)(h:¬N<t*t)(up:∀r,0<=r->r*r<=N->r<=t):t*t<=N/\N<(t+1)*(t+1):=by
 refine⟨by omega,Int.lt_of_not_ge λz=> ?_⟩
 have:=up (t+1) (by omega) z
 omega
theorem yI{N a b:Int}(a0:0<=a)(b0:0<=b)(h1:a*a<=N)(h2:N<(b+1)*(b+1)):a<=b:=by
 refine Int.le_of_lt_add_one (Int.lt_of_not_ge λz=> ?_)
 have:=Int.mul_le_mul z z (show 0<=b+1 by omega) a0
 omega
end L2
set_option maxHeartbeats 1000000
namespace CX
open PySem L2
section
variable{P:Program}{w:World}{K:PySem.W.Frag}{mg:Str->Option Value}{base:Heap}
inductive DU(vs:List V)(H:Hp)(Q:VK)(E:XK):Prop
 |mk(N:Int)(_:vs=[.int N])(_:0<=N)(_:N.natAbs<2^200)(_:∀r:Int,0<=r->r*r<=N->N<(r+1)*(r+1) ->Q (.int r) H)
theorem Nb(F:fU K mg "root" DI rY):dQ P w K mg base dz 1 "root" rY DU:=by
 refine F.ok zW (λvs H Q E h=> ?_) (λf cdv A outer s H vs Q E hr h=> ?_)
 ·obtain⟨N,rfl,N0,bN,q⟩:=h
  rfl
 obtain⟨N,rfl,N0,bN,q⟩:=h
 have hu:=hr.units
 refine⟨_,(oO (@aB _ _ _ _ _ (aY (i:=1) zW.nd rfl (Or.inl rfl) (aq OQ ah (aq fm (aq bV (OY PySem.F.plainAttrs_int PyProof.Rows.slot_int_bit_length PyProof.Rows.type_int_bit_length Na (pv 0)) ah) ah)))
  (@aB _ _ _ _ _ (uX PassesOwn.never (cL qD (aq aE (pv 1) (pv 1)) (pv 0) (cK _)) (cF (aY (i:=1) zW.nd rfl (Or.inl rfl) (aq fm (aq bV (pv 1) (aq nV (pv 0) (pv 1))) ah))))
  (@aT _ _ _ (aW (pv 1)))))),?_⟩
 have b0:=BR N0
 have bits:Builtin.Int.intBits N<=200:=by
  unfold Builtin.Int.intBits
  split
  ·omega
  ·rename_i c
   have n0:N.natAbs≠0:=by
    have:¬N=0:=by simpa using c
    omega
   have:=(Nat.log2_lt n0).mpr bN
   omega
 have start:=λr r0 hr=>DT N0 (r:=r) r0 hr
 have t0:(0:Int)<1*2^((((Builtin.Int.intBits N:Nat):Int)+1)/2).toNat:=by
  rw[Int.one_mul]
  exact Int.pow_pos (by decide)
 have t1:(1*2^((((Builtin.Int.intBits N:Nat):Int)+1)/2).toNat:Int).natAbs<2^110:=by
  have e:(((Builtin.Int.intBits N:Int))+1)/2<=100:=by omega
  rw[Int.one_mul,Int.natAbs_pow]
  exact Nat.pow_lt_pow_right (by decide) (by omega)
 refine⟨_,rfl,rfl,⟨N,rfl,rfl,_,_,rfl,rfl,_,_,rfl,rfl,⟨by decide,by decide⟩,_,_,rfl,rfl,⟨by(clear t1 t0 start b0 hu q bN N0;omega),by(clear t1 t0 start b0 hu q bN N0;omega),by decide⟩,?_⟩⟩
 have t0:=Int.le_of_lt t0
 refine uY (λσ H'=>H'=H/\ ∃t:Int,σ=[some (.int N),some (.int t)]/\0<=t/\t.natAbs<2^110/\ ∀r,0<=r->r*r<=N->r<=t) (λσ _=>match σ with| [_,some (.int t)]=>t.toNat|_=>0) ⟨rfl,_,rfl,t0,t1,start⟩ (λσ H' hh=> ?_) ?_
 rotate_left
 ·rintro σ H' Q Q' h ⟨v,e,v2,e',i,j,e1,e2,c,v3,e3,a,b,e4,e5,k,ek,kk⟩
  exact⟨v,e,v2,e',i,j,e1,e2,c,v3,e3,a,b,e4,e5,k,ek,h _ _ kk⟩
 obtain⟨rfl,t,rfl,t0,t1,up⟩:=hh
 refine⟨_,rfl,_,rfl,_,_,rfl,rfl,⟨aL t1 (by decide),aL t1 (by decide)⟩,_,rfl,_,_,rfl,rfl,_,rfl,lS (λc=> ?_) (λc=> ?_)⟩
 ·have c:N<t*t:=of_decide_eq_true c
  have tp:0<t:=by
   rcases Int.lt_or_le 0 t with z|z
   ·exact z
   ·exfalso
    have:t=0:=by omega
    rw[this]at c
    omega
  obtain⟨s1,s2,s3⟩:=Hj tp c N0
  have lg:t.natAbs.log2<9000:=(Nat.log2_lt (by omega)).mpr (Nat.lt_of_lt_of_le t1 (Nat.pow_le_pow_right (by decide) (by decide)))
  refine⟨_,rfl,_,rfl,_,rfl,_,_,rfl,rfl,⟨tp,lg⟩,_,_,rfl,rfl,_,_,rfl,rfl,⟨by decide,by decide⟩,⟨rfl,_,rfl,s3,by(clear lg s1 c up t0 q start bits b0 hu bN N0;omega),s1⟩,?_⟩
  show((t+N/t)/2).toNat<t.toNat
  (clear lg s1 c up t1 t0 q start bits b0 hu bN N0;omega)
 ·have c:¬N<t*t:=λz=>c (decide_eq_true z)
  obtain⟨d1,d2⟩:=Hl t0 c up
  exact⟨_,rfl,q t t0 d1 d2⟩
end
end CX
namespace L2
open PySem PySem.Spec PyProof.Rows
noncomputable def dW(N:List (List Int)):Int:=ent N 0 0*ent N 1 1-ent N 0 1*ent N 0 1
noncomputable def jn(N:List (List Int)):Int:=ent N 0 0*ent N 1 2-ent N 0 1*ent N 0 2
noncomputable def hiT(N:List (List Int)):Int:=ent N 0 0*ent N 2 2-ent N 0 2*ent N 0 2
noncomputable def lI(N:List (List Int))(n y z:Int):Int:=2*n*ent N 0 0- (dW N*y*y+2*jn N*y*z+hiT N*z*z)
noncomputable def rg(N:List (List Int))(y z:Int):Int:=ent N 0 1*y+ent N 0 2*z
theorem oS{N:List (List Int)}(ev:bJ N):dW N*hiT N-jn N*jn N=ent N 0 0*aA N:=by
 have AF:ent N 1 0=ent N 0 1:=ev.sym.1
 have Fq:ent N 2 0=ent N 0 2:=ev.sym.2.1
 have Ft:ent N 2 1=ent N 1 2:=ev.sym.2.2
 rw[dI,AF,Fq,Ft]
 unfold dW hiT jn
 grind
theorem sE{N:List (List Int)}(ev:bJ N)(pos:0<ent N 0 0)(n:Int)(v:Nat->Int):cI N v=n↔(ent N 0 0*v 0+rg N (v 1) (v 2))*(ent N 0 0*v 0+rg N (v 1) (v 2))=lI N n (v 1) (v 2):=by
 have AF:ent N 1 0=ent N 0 1:=ev.sym.1
 have Fq:ent N 2 0=ent N 0 2:=ev.sym.2.1
 have Ft:ent N 2 1=ent N 1 2:=ev.sym.2.2
 have h:=fP ev v
 have id:ent N 0 0*ay N v v=(ent N 0 0*v 0+rg N (v 1) (v 2))*(ent N 0 0*v 0+rg N (v 1) (v 2))+(dW N*v 1*v 1+2*jn N*v 1*v 2+hiT N*v 2*v 2):=by
  rw[aV,AF,Fq,Ft]
  unfold rg dW jn hiT
  grind
 unfold lI
 generalize(ent N 0 0*v 0+rg N (v 1) (v 2))*(ent N 0 0*v 0+rg N (v 1) (v 2))=s at id ⊢
 generalize dW N*v 1*v 1+2*jn N*v 1*v 2+hiT N*v 2*v 2=t at id ⊢
 rw[h]at id
 have e:2*n*ent N 0 0=ent N 0 0*(2*n):=Int.mul_comm ..
 constructor
 ·intro z
  rw[z]at id
  (clear z h Ft Fq AF pos;omega)
 ·intro z
  have:ent N 0 0*(2*cI N v)=ent N 0 0*(2*n):=by(clear h Ft Fq AF pos;omega)
  have:=Int.eq_of_mul_eq_mul_left (show ent N 0 0≠0 by omega) this
  omega
theorem v7{N:List (List Int)}(ev:bJ N)(pos:0<ent N 0 0)(fl:0<dW N)(n y z:Int):0<=lI N n y z↔(dW N*y+jn N*z)*(dW N*y+jn N*z)<=dW N*(2*n*ent N 0 0) -ent N 0 0*aA N*z*z:=by
 have fh:=oS ev
 have id:dW N*lI N n y z=dW N*(2*n*ent N 0 0) -ent N 0 0*aA N*z*z- (dW N*y+jn N*z)*(dW N*y+jn N*z):=by
  unfold lI
  rw[<-fh]
  generalize dW N=f,jn N=b,hiT N=h,2*n*ent N 0 0=w
  grind
 constructor
 ·intro h
  have:=Int.mul_nonneg (Int.le_of_lt fl) h
  omega
 ·intro h
  have h2:0<=dW N*lI N n y z:=by omega
  rcases Int.lt_or_le (lI N n y z) 0 with c|c
  ·exfalso
   have:=Int.mul_lt_mul_of_pos_left c fl
   omega
  ·exact c
theorem z6{N x s:Int}(s0:0<=s)(h1:s*s<=N)(h2:N<(s+1)*(s+1)):x*x<=N↔ -s<=x/\x<=s:=by
 constructor
 ·intro h
  rcases Int.le_total 0 x with c|c
  ·have:=yI c s0 h h2
   omega
  ·have:(-x)*(-x)<=N:=by
    have e:(-x)*(-x)=x*x:=by grind
    omega
   have:=yI (a:= -x) (by omega) s0 this h2
   omega
 ·rintro⟨a,b⟩
  have:=lZ a b
  omega
theorem oU{f b z s y:Int}(hf:0<f):(-s<=f*y+b*z/\f*y+b*z<=s)↔(-((s+b*z)/f)<=y/\y<(s-b*z)/f+1):=by
 have e1:y<=(s-b*z)/f↔y*f<=s-b*z:=Int.le_ediv_iff_mul_le hf
 have e2: -y<=(s+b*z)/f↔ -y*f<=s+b*z:=Int.le_ediv_iff_mul_le hf
 have c1:y*f=f*y:=Int.mul_comm ..
 have c2: -y*f= -(f*y):=by rw[Int.neg_mul,c1]
 rw[c1]at e1
 rw[c2]at e2
 constructor
 ·rintro⟨h1,h2⟩
  have:=e1.mpr (by omega)
  have:=e2.mpr (by omega)
  omega
 ·rintro⟨h1,h2⟩
  have:=e1.mp (by omega)
  have:=e2.mp (by omega)
  (clear h2 h1 c1 e2 e1 hf;omega)
theorem aH{N:List (List Int)}(D:0<aA N)(fl:0<dW N){n R z:Int}(R0:0<=R)(h1:R*R<=2*n*dW N/aA N)(h2:2*n*dW N/aA N<(R+1)*(R+1)):(-R<=z/\z<=R)↔aA N*z*z<=2*n*dW N:=by
 rw[<-z6 R0 h1 h2,Int.le_ediv_iff_mul_le D]
 have e:z*z*aA N=aA N*z*z:=by grind
 rw[e]
theorem eZ{N:List (List Int)}(h:gz N)(dD:aA N<=401):0<dW N/\0<aA N/\2<=ent N 0 0/\ent N 0 0<=2200/\ent N 1 1<=2200/\ent N 2 2<=2200/\3*dW N<=8*aA N/\3*ent N 0 0<=2*dW N:=by
 obtain⟨c1,c2,c3⟩:=gH h.ab
 have p:=h.pos
 have l1:=h.BC
 have l2:=h.Dw
 obtain⟨_,a,b,c,ea,eb,ec⟩:=h.ev
 have f:=h.few
 have a2:2<=ent N 0 0:=by omega
 have b2:2<=ent N 1 1:=by omega
 have Zd:2<=ent N 2 2:=by omega
 have k1:2*2<=ent N 0 0*ent N 1 1:=Int.mul_le_mul a2 b2 (by omega) (by omega)
 have k2:4*ent N 2 2<=ent N 0 0*ent N 1 1*ent N 2 2:=Int.mul_le_mul_of_nonneg_right (by omega) (by omega)
 have sq:=lZ h.p.1 h.p.2
 have e4:2*ent N 0 1*(2*ent N 0 1)=4*(ent N 0 1*ent N 0 1):=by grind
 have aa:ent N 0 0*ent N 0 0<=ent N 0 0*ent N 1 1:=Int.mul_le_mul_of_nonneg_left l1 (by omega)
 have s0:=bu (ent N 0 1)
 have k3:ent N 0 0*ent N 1 1*2<=ent N 0 0*ent N 1 1*ent N 2 2:=Int.mul_le_mul_of_nonneg_left Zd (by omega)
 have k4:ent N 0 0*2<=ent N 0 0*ent N 1 1:=Int.mul_le_mul_of_nonneg_left b2 (by omega)
 unfold dW
 refine⟨by omega,c3,a2,by omega,by omega,by omega,by omega,by omega⟩
theorem Kq{N:List (List Int)}(h:gz N)(dD:aA N<=401){n R:Int}(n0:0<=n)(n6:n<=1100)(R0:0<=R)(h1:R*R<=2*n*dW N/aA N):R<=76:=by
 obtain⟨f0,d0,_,_,_,_,k,_⟩:=eZ h dD
 have:2*n*dW N/aA N<=5867:=by
  refine Int.le_of_lt_add_one ((Int.ediv_lt_iff_lt_mul d0).mpr ?_)
  have e:2*n*dW N<=2200*dW N:=Int.mul_le_mul_of_nonneg_right (by omega) (Int.le_of_lt f0)
  omega
 refine Int.le_of_lt_add_one (Int.lt_of_not_ge λz=> ?_)
 have:=Int.mul_le_mul z z (by decide) R0
 omega
theorem Nc{N:List (List Int)}(h:gz N)(dD:aA N<=401){n z s:Int}(n0:0<=n)(n6:n<=1100)(s0:0<=s)(h1:s*s<=dW N*(2*n*ent N 0 0) -ent N 0 0*aA N*z*z):s<=39*dW N:=by
 obtain⟨f0,d0,a2,_,_,_,_,k⟩:=eZ h dD
 have zz:0<=ent N 0 0*aA N*z*z:=by
  have:=Int.mul_nonneg (Int.mul_nonneg (show 0<=ent N 0 0 by omega) (Int.le_of_lt d0)) (bu z)
  rw[<-Int.mul_assoc]at this
  exact this
 have w:2*n*ent N 0 0<=2200*ent N 0 0:=Int.mul_le_mul_of_nonneg_right (by omega) (by omega)
 have w2:2*n*ent N 0 0<=1467*dW N:=by omega
 have w3:dW N*(2*n*ent N 0 0)<=dW N*(1467*dW N):=Int.mul_le_mul_of_nonneg_left w2 (Int.le_of_lt f0)
 refine Int.le_of_lt_add_one (Int.lt_of_not_ge λy=> ?_)
 have:=Int.mul_le_mul y y (by omega) s0
 have e1:(39*dW N+1)*(39*dW N+1)=1521*(dW N*dW N)+78*dW N+1:=by grind
 have e2:dW N*(1467*dW N)=1467*(dW N*dW N):=by grind
 have ff:=bu (dW N)
 omega
noncomputable def iJ(z y0:Int)(k:Nat):List (Int×Int):=(List.range k).map λj:Nat=>(y0+(j:Int),z)
noncomputable def gw(lo:Int->Int)(ln:Int->Nat)(R:Int)(m:Nat):List (Int×Int):=(List.range m).flatMap λi:Nat=>iJ ((i:Int) -R) (lo ((i:Int) -R)) (ln ((i:Int) -R))
theorem v8{z y0:Int}{k:Nat}{p:Int×Int}:p∈iJ z y0 k↔p.2=z/\y0<=p.1/\p.1<y0+k:=by
 obtain⟨y,z'⟩:=p
 simp only[iJ,List.mem_map,List.mem_range,Prod.mk.injEq]
 constructor
 ·rintro⟨j,hj,rfl,rfl⟩
  exact⟨rfl,by omega,by omega⟩
 ·rintro⟨rfl,h1,h2⟩
  exact⟨(y-y0).toNat,by omega,by omega,rfl⟩
theorem z7{z y0:Int}{k:Nat}:(iJ z y0 k).Nodup:=by
 unfold iJ List.Nodup
 rw[List.pairwise_map]
 refine List.Pairwise.imp ?_ (List.nodup_range (n:=k))
 intro a b h e
 have:=(Prod.mk.inj e).1
 omega
theorem BS{z y0:Int}{k:Nat}:iJ z y0 (k+1)=iJ z y0 k++ [(y0+(k:Int),z)]:=by
 simp[iJ,List.range_succ]
theorem mY{lo:Int->Int}{ln:Int->Nat}{R:Int}{m:Nat}:gw lo ln R (m+1)=gw lo ln R m++iJ ((m:Int) -R) (lo ((m:Int) -R)) (ln ((m:Int) -R)):=by
 simp[gw,List.range_succ]
theorem tW{lo:Int->Int}{ln:Int->Nat}{R:Int}{m:Nat}{p:Int×Int}:p∈gw lo ln R m↔(-R<=p.2/\p.2<m-R)/\lo p.2<=p.1/\p.1<lo p.2+ln p.2:=by
 simp only[gw,List.mem_flatMap,List.mem_range,v8]
 constructor
 ·rintro⟨i,hi,e,h1,h2⟩
  rw[e]
  exact⟨⟨by omega,by omega⟩,h1,h2⟩
 ·rintro⟨⟨a,b⟩,h1,h2⟩
  have e:p.2=((p.2+R).toNat:Int) -R:=by omega
  exact⟨(p.2+R).toNat,by omega,e,e▸h1,e▸h2⟩
theorem xF{lo:Int->Int}{ln:Int->Nat}{R:Int}{m:Nat}:(gw lo ln R m).Nodup:=by
 induction m with
 |zero=>simp[gw]
 |succ m ih=>
  rw[mY,List.nodup_append]
  refine⟨ih,z7,?_⟩
  intro a ha b hb e
  have h1:=(tW.mp ha).1.2
  have h2:=(v8.mp hb).1
  rw[e,h2]at h1
  omega
theorem v9{lo:Int->Int}{ln:Int->Nat}{R:Int}{m L:Nat}(h:∀i:Nat,i<m->ln ((i:Int) -R)<=L):(gw lo ln R m).length<=m*L:=by
 induction m with
 |zero=>simp[gw]
 |succ m ih=>
  rw[mY,List.length_append,Nat.succ_mul]
  have h1:=ih λi hi=>h i (by omega)
  have h2:=h m (by omega)
  simp only[iJ,List.length_map,List.length_range]
  omega
theorem BU{N:List (List Int)}(ev:bJ N)(pos:0<ent N 0 0)(fl:0<dW N)(D:0<aA N){n R:Int}(R0:0<=R)(h1:R*R<=2*n*dW N/aA N)(h2:2*n*dW N/aA N<(R+1)*(R+1)){sp:Int->Int}(s0:∀z,-R<=z->z<=R->0<=sp z/\sp z*sp z<=dW N*(2*n*ent N 0 0) -ent N 0 0*aA N*z*z/\dW N*(2*n*ent N 0 0) -ent N 0 0*aA N*z*z<(sp z+1)*(sp z+1))(y z:Int):
  (y,z)∈gw (λz=> -((sp z+jn N*z)/dW N)) (λz=>((sp z-jn N*z)/dW N+1- -((sp z+jn N*z)/dW N)).toNat) R (2*R+1).toNat↔0<=lI N n y z:=by
 rw[tW]
 simp only
 have zr:=aH D fl (n:=n) (z:=z) R0 h1 h2
 constructor
 ·rintro⟨⟨a,b⟩,c,d⟩
  have zb:z<=R:=by(clear a zr s0 h2 h1 D fl pos;omega)
  obtain⟨t0,t1,t2⟩:=s0 z a zb
  rw[v7 ev pos fl,z6 t0 t1 t2]
  refine(oU fl).mpr ⟨c,?_⟩
  (clear t2 t1 t0 zb b a zr s0 h2 h1 R0 D fl pos;omega)
 ·intro h
  rw[v7 ev pos fl]at h
  have zz:aA N*z*z<=2*n*dW N:=by
   have q:=bu (dW N*y+jn N*z)
   have e:ent N 0 0*(aA N*z*z)<=ent N 0 0*(2*n*dW N):=by
    have:ent N 0 0*aA N*z*z=ent N 0 0*(aA N*z*z):=by grind
    have:dW N*(2*n*ent N 0 0)=ent N 0 0*(2*n*dW N):=by grind
    omega
   exact Int.le_of_mul_le_mul_left e pos
  obtain⟨a,b⟩:=zr.mpr zz
  obtain⟨t0,t1,t2⟩:=s0 z a b
  rw[z6 t0 t1 t2]at h
  obtain⟨c,d⟩:=(oU fl).mp h
  refine⟨⟨a,by omega⟩,c,by(clear c t2 t1 t0 b a zz h zr s0 h2 h1 R0 D fl pos;omega)⟩
theorem Qg{X r r':Int}(h0:0<=r)(h1:r*r<=X)(h2:X<(r+1)*(r+1))(g0:0<=r')(g1:r'*r'<=X)(g2:X<(r'+1)*(r'+1)):r=r':=by
 rcases Int.lt_trichotomy r r' with c|c|c
 ·have:(r+1)*(r+1)<=r'*r':=Int.mul_le_mul (by omega) (by omega) (by omega) (by omega)
  omega
 ·exact c
 ·have:(r'+1)*(r'+1)<=r*r:=Int.mul_le_mul (by omega) (by omega) (by omega) (by omega)
  omega
open Classical in
noncomputable def nK(X:Int):Int:=if h:∃r:Int,0<=r/\r*r<=X/\X<(r+1)*(r+1)then Classical.choose h else 0
theorem uK{X r:Int}(h0:0<=r)(h1:r*r<=X)(h2:X<(r+1)*(r+1)):nK X=r:=by
 have h:∃r:Int,0<=r/\r*r<=X/\X<(r+1)*(r+1):=⟨r,h0,h1,h2⟩
 unfold nK
 rw[dif_pos h]
 obtain⟨g0,g1,g2⟩:=Classical.choose_spec h
 exact Qg g0 g1 g2 h0 h1 h2
theorem Ho(n:Nat):∃r:Int,0<=r/\r*r<=(n:Int)/\(n:Int)<(r+1)*(r+1):=by
 induction n with
 |zero=>exact⟨0,by decide,by decide,by decide⟩
 |succ n ih=>
  obtain⟨r,h0,h1,h2⟩:=ih
  by_cases c:((n+1:Nat):Int)<(r+1)*(r+1)
  ·exact⟨r,h0,by omega,c⟩
  ·refine⟨r+1,by omega,by omega,?_⟩
   have e:(r+1+1)*(r+1+1)=(r+1)*(r+1)+2*r+3:=by grind
   omega
theorem sI{X:Int}(h:0<=X):0<=nK X/\nK X*nK X<=X/\X<(nK X+1)*(nK X+1):=by
 obtain⟨r,h0,h1,h2⟩:=Ho X.toNat
 have e:(X.toNat:Int)=X:=Int.toNat_of_nonneg h
 rw[e]at h1 h2
 rw[uK h0 h1 h2]
 exact⟨h0,h1,h2⟩
noncomputable def SD(D:Addr)(H H':Hp):Prop:=∀a o,a≠D->H a=some o->H' a=some o
theorem SD.refl{D:Addr}{H:Hp}:SD D H H:=λ_ _ _ e=>e
theorem SD.trans{D:Addr}{H H' NY:Hp}(h:SD D H H')(h':SD D H' NY):SD D H NY:=λa o n e=>h' a o n (h a o n e)
theorem SD.of{D:Addr}{H H':Hp}(s:az H H'):SD D H H':=λa o _ e=>s _ _ e
theorem SD.upd{D:Addr}{H H':Hp}{o:HO}(h:SD D H H'):SD D H (upd H' D o):=λa o n e=>by rw[aG n];exact h a o n e
theorem SD.same{D:Addr}{H H':Hp}(h:SD D H H')(f:H D=none):az H H':=λa o e=>h a o (λz=>by rw[z,f]at e;cases e) e
noncomputable def SV(N:List (List Int))(n:Int)(p:Int×Int):List V:=[.int p.1,.int p.2,.int (rg N p.1 p.2),.int (lI N n p.1 p.2)]
inductive eH(H:Hp)(N:List (List Int))(n:Int):List V->List (Int×Int) ->Prop
 |nil:eH H N n [] []
 |cons{a:Addr}{us:List V}{p:Int×Int}{ps:List (Int×Int)}:H a=some (.tup (SV N n p)) ->eH H N n us ps->eH H N n (.ref a::us) (p::ps)
theorem eH.same{H H':Hp}{N:List (List Int)}{n:Int}{us:List V}{ps:List (Int×Int)}(s:az H H')(h:eH H N n us ps):eH H' N n us ps:=by
 induction h with
 |nil=>exact .nil
 |cons e _ ih=>exact .cons (s _ _ e) ih
theorem eH.upd{H:Hp}{N:List (List Int)}{n:Int}{us:List V}{ps:List (Int×Int)}{D:Addr}{xs:List V}{o:HO}(hD:H D=some (.lst xs))(h:eH H N n us ps):eH (upd H D o) N n us ps:=by
 induction h with
 |nil=>exact .nil
 |cons e _ ih=>exact .cons (by rw[aG (λz=>by rw[z,hD]at e;cases e)];exact e) ih
theorem eH.append{H:Hp}{N:List (List Int)}{n:Int}{us us':List V}{ps ps':List (Int×Int)}(h:eH H N n us ps)(h':eH H N n us' ps'):eH H N n (us++us') (ps++ps'):=by
 induction h with
 |nil=>exact h'
 |cons e _ ih=>exact .cons e ih
theorem eH.length{H:Hp}{N:List (List Int)}{n:Int}{us:List V}{ps:List (Int×Int)}(h:eH H N n us ps):us.length=ps.length:=by
 induction h with
 |nil=>rfl
 |cons _ _ ih=>simp[ih]
theorem pA{a b:Int}{A B:Nat}(ha:a.natAbs<=A)(hb:b.natAbs<=B):(a*b).natAbs<=A*B:=by
 rw[Int.natAbs_mul]
 exact Nat.mul_le_mul ha hb
theorem SW{x f:Int}(hf:0<f)(h:x.natAbs<=10000000000):(x/f).natAbs<=10000000000:=by
 have h1: -10000000000<=x/f:=(Int.le_ediv_iff_mul_le hf).mpr (by omega)
 have h2:x/f<10000000000+1:=(Int.ediv_lt_iff_lt_mul hf).mpr (by omega)
 omega
theorem XD{x:Int}(h:x.natAbs<=10^30):x.natAbs<2^4096:=Nat.lt_of_le_of_lt h (Nat.lt_of_lt_of_le (m:=2^100) (by decide) (Nat.pow_le_pow_right (by decide) (by decide)))
theorem uM{te:TE}{i:Nat}{b:TS}{D:Ends}{σ:St}{H H':Hp}{v:V}(h:∀R:VK,R v H'->te σ H R)(k:b D (σ.set i (some v)) H'):CK (Im te (dZ i)) b D σ H:=h _ k
end L2
set_option maxHeartbeats 1000000
namespace CX
open PySem L2
section
variable{P:Program}{w:World}{K:PySem.W.Frag}{mg:Str->Option Value}{base:Heap}
inductive BV(vs:List V)(H:Hp)(Q:VK)(E:XK):Prop
 |mk(t:Addr)(bs:List Addr)(N:List (List Int))(n:Int)(_:vs=[.ref t,.int n])(_:Tab H t bs N)(_:bE N)(_:bJ N)(_:Bd 700 N)(_:gz N)(_:aA N<=401)(_:0<=n)(_:n<=1100)(_:∀(u:Addr) (us:List V) (L:List (Int×Int)) (H':Hp),az H H'->H' u=some (.lst us) ->eH H' N n us L->L.Nodup->(∀y z,(y,z)∈L↔0<=lI N n y z) ->L.length<=12100->Q (.ref u) H')
theorem Hq(F:fU K mg "slices" vS om)(aH:mg "range"=none)(cJ:dQ P w K mg base dz 3 "determinant" eN BI)(qd:dQ P w K mg base dz 3 "root" rY DU):dQ P w K mg base dz 4 "slices" om BV:=by
 refine F.ok cY (λvs H Q E h=> ?_) (λf cdv A outer s H vs Q E hr h=> ?_)
 ·obtain⟨t,bs,N,n,rfl,hT,b7,ev,bN,NT,dD,n0,n6,q⟩:=h
  rfl
 obtain⟨t,bs,N,n,rfl,hT,b7,ev,bN,NT,dD,n0,n6,q⟩:=h
 have hu:=hr.units
 refine⟨_,(oO (@aB _ _ _ _ _ (iO (pv 0) (jc rfl (aJ (jc rfl (aJ (aI (i:=2) cY.nd rfl (Or.inl rfl)) (aJ (aI (i:=3) cY.nd rfl (Or.inl rfl)) (aJ (aI (i:=4) cY.nd rfl (Or.inl rfl)) fj)))) (aJ (aI (i:=5) cY.nd rfl (Or.inl rfl)) (aJ (aI (i:=6) cY.nd rfl (Or.inl rfl)) fj)))))
  (@aB _ _ _ _ _ (aY (i:=7) cY.nd rfl (Or.inl rfl) (aq dG (aq aE (pv 2) (aD au (pv 5) ah (λ_ _=>rfl))) (aq aE (pv 3) (pv 3))))
  (@aB _ _ _ _ _ (aY (i:=8) cY.nd rfl (Or.inl rfl) (aq dG (aq aE (pv 2) (aD au (pv 5) ah (λ_ _=>rfl))) (aq aE (pv 3) (pv 4))))
  (@aB _ _ _ _ _ (aY (i:=9) cY.nd rfl (Or.inl rfl) (aq dG (aq aE (pv 2) (aD au (pv 6) ah (λ_ _=>rfl))) (aq aE (pv 4) (pv 4))))
  (@aB _ _ _ _ _ (aY (i:=10) cY.nd rfl (Or.inl rfl) (aP cJ hr rfl aM (af (pv 0) ak)))
  (@aB _ _ _ _ _ (aY (i:=11) cY.nd rfl (Or.inl rfl) (aq aE (aq aE ah (pv 1)) (pv 2)))
  (@aB _ _ _ _ _ (aY (i:=12) cY.nd rfl (Or.inl rfl) (dR ak))
  (@aB _ _ _ _ _ (aY (i:=13) cY.nd rfl (Or.inl rfl) (aP qd hr rfl aM (af (aq fm (aq aE (aq aE ah (pv 1)) (pv 7)) (pv 10)) ak)))
  (@aB _ _ _ _ _ (gO PassesOwn.never rfl (yc rfl aH (af (AM uZ (pv 13)) (af (aq bV (pv 13) ah) ak))) (aI (i:=14) cY.nd rfl (Or.inl rfl)) (oO (@aB _ _ _ _ _ (aY (i:=15) cY.nd rfl (Or.inl rfl) (aP qd hr rfl aM (af (aq dG (aq aE (pv 7) (pv 11)) (aq aE (aq aE (aq aE (pv 2) (pv 10)) (pv 14)) (pv 14))) ak)))
  (@aT _ _ _ (gO PassesOwn.never rfl (yc rfl aH (af (AM uZ (aq fm (aq bV (pv 15) (aq aE (pv 8) (pv 14))) (pv 7))) (af (aq bV (aq fm (aq dG (pv 15) (aq aE (pv 8) (pv 14))) (pv 7)) ah) ak))) (aI (i:=16) cY.nd rfl (Or.inl rfl)) (oO (@aB _ _ _ _ _ (aY (i:=17) cY.nd rfl (Or.inl rfl) (aq dG (pv 11) (aq bV (aq bV (aq aE (aq aE (pv 7) (pv 16)) (pv 16)) (aq aE (aq aE (aq aE ah (pv 8)) (pv 16)) (pv 14))) (aq aE (aq aE (pv 9) (pv 14)) (pv 14)))))
  (@aT _ _ _ (uF (IL PySem.F.plainAttrs_list PySem.F.slot_list_append PySem.F.type_list_append jU (pv 12) (af (iP (af (pv 16) (af (pv 14) (af (aq bV (aq aE (pv 3) (pv 16)) (aq aE (pv 4) (pv 14))) (af (pv 17) ak))))) ak)))))))))))
  (@aT _ _ _ (aW (pv 12))))))))))))),?_⟩
 obtain⟨c0,c1,c2,rfl,x0,x1,x2⟩:=vW hT b7
 obtain⟨fl,D0,a2,yJ,z8,xG,f8,fa⟩:=eZ NT dD
 have k1:=zC (λc=>ent N 1 c) (c:=1) (by decide)
 have k2:=zC (λc=>ent N 1 c) (c:=2) (by decide)
 have k3:=zC (λc=>ent N 2 c) (c:=2) (by decide)
 have b:∀i j,i<3->j<3->(ent N i j).natAbs<2^4096:=λi j hi hj=>aL (bN i j hi hj) (by decide)
 refine⟨_,rfl,t,_,rfl,aU.of hT.1,rfl,_,_,rfl,c0,_,rfl,aU.of x0,rfl,_,_,rfl,_,_,rfl,_,_,rfl,rfl,_,_,rfl,_,_,rfl,rfl,?_⟩
 have l1:=NT.BC
 have l2:=NT.Dw
 have tx:∀x:Int,0<=x->x<=1000000000000->x.natAbs<2^40:=λx h0 h1=>by omega
 have tw:∀x:Int,0<=x->x<=1000000000000->x.natAbs<2^4096:=λx h0 h1=>Nat.lt_of_lt_of_le (tx x h0 h1) (Nat.pow_le_pow_right (by decide) (by decide))
 with_reducible apply uM
 ·exact λR hR=>⟨_,rfl,_,rfl,c1,_,_,_,rfl,rfl,aU.of x1,k1,_,_,rfl,rfl,⟨b 0 0 (by decide) (by decide),b 1 1 (by decide) (by decide)⟩,_,rfl,_,rfl,_,_,rfl,rfl,⟨b 0 1 (by decide) (by decide),b 0 1 (by decide) (by decide)⟩,_,_,rfl,rfl,hR⟩
 with_reducible apply uM
 ·exact λR hR=>⟨_,rfl,_,rfl,c1,_,_,_,rfl,rfl,aU.of x1,k2,_,_,rfl,rfl,⟨b 0 0 (by decide) (by decide),b 1 2 (by decide) (by decide)⟩,_,rfl,_,rfl,_,_,rfl,rfl,⟨b 0 1 (by decide) (by decide),b 0 2 (by decide) (by decide)⟩,_,_,rfl,rfl,hR⟩
 with_reducible apply uM
 ·exact λR hR=>⟨_,rfl,_,rfl,c2,_,_,_,rfl,rfl,aU.of x2,k3,_,_,rfl,rfl,⟨b 0 0 (by decide) (by decide),b 2 2 (by decide) (by decide)⟩,_,rfl,_,rfl,_,_,rfl,rfl,⟨b 0 2 (by decide) (by decide),b 0 2 (by decide) (by decide)⟩,_,_,rfl,rfl,hR⟩
 refine⟨_,rfl,t,_,N,rfl,hT,b7,bN.mono (by decide),trivial,λH1 s1=> ?_⟩
 refine⟨_,rfl,_,_,rfl,rfl,⟨by show(2:Int).natAbs<2^4096;exact tw 2 (by decide) (by decide),tw n n0 (by omega)⟩,_,rfl,_,_,rfl,rfl,⟨tw _ (by omega) (by omega),b 0 0 (by decide) (by decide)⟩,?_⟩
 refine⟨by decide,λD hD=> ?_⟩
 refine⟨_,rfl,_,_,rfl,rfl,⟨tw 2 (by decide) (by decide),tw n n0 (by omega)⟩,_,rfl,_,_,rfl,rfl,⟨tw _ (by omega) (by omega),tw (dW N) (by omega) (by omega)⟩,?_⟩
 have nf:n*dW N<=1100*1069:=Int.mul_le_mul n6 (by omega) (by omega) (by decide)
 have Ol:0<=n*dW N:=Int.mul_nonneg n0 (by omega)
 have en:2*n*dW N=2*(n*dW N):=Int.mul_assoc _ _ _
 have X0:0<=2*n*dW N/aA N:=Int.ediv_nonneg (by omega) (by omega)
 have X1:2*n*dW N/aA N<=2*n*dW N:=Int.ediv_le_self _ (by omega)
 have bb:jn N*jn N<=1069*4840000:=by
  have h:=oS ev
  have h1:0<=ent N 0 0*aA N:=Int.mul_nonneg (by omega) (by omega)
  have h2:hiT N<=4840000:=by
   have h3:ent N 0 0*ent N 2 2<=2200*2200:=Int.mul_le_mul yJ xG (by omega) (by omega)
   have h4:=bu (ent N 0 2)
   unfold hiT
   omega
  have h5:dW N*hiT N<=dW N*4840000:=Int.mul_le_mul_of_nonneg_left h2 (by omega)
  omega
 have bn: -100000<=jn N/\jn N<=100000:=by
  constructor
  ·refine Classical.byContradiction λz=> ?_
   have:100000*100000<= -jn N* -jn N:=Int.mul_le_mul (by omega) (by omega) (by omega) (by omega)
   rw[Int.neg_mul_neg]at this
   omega
  ·refine Classical.byContradiction λz=> ?_
   have:100000*100000<=jn N*jn N:=Int.mul_le_mul (by omega) (by omega) (by omega) (by omega)
   omega
 refine⟨_,rfl,_,_,rfl,rfl,⟨D0,Int.lt_of_le_of_lt dD (by decide)⟩,2*n*dW N/aA N,rfl,X0,(by have:=tx _ X0 (Int.le_trans X1 (by omega));exact Nat.lt_of_lt_of_le this (by decide)),λR R0 r1 r2=> ?_⟩
 have Qh:=Kq NT dD n0 n6 R0 r1
 obtain⟨sp,LA⟩:∃sp:Int->Int,sp=λz=>nK (dW N*(2*n*ent N 0 0) -ent N 0 0*aA N*z*z):=⟨_,rfl⟩
 have LB:∀z,-R<=z->z<=R->0<=dW N*(2*n*ent N 0 0) -ent N 0 0*aA N*z*z:=λz z0 z1=>by
  have h:=(L2.aH D0 fl R0 r1 r2).mp ⟨z0,z1⟩
  have h1:=Int.mul_le_mul_of_nonneg_left h (show 0<=ent N 0 0 by omega)
  have h2:ent N 0 0*aA N*z*z=ent N 0 0*(aA N*z*z):=by grind
  have h3:dW N*(2*n*ent N 0 0)=ent N 0 0*(2*n*dW N):=by grind
  omega
 have s0:∀z,-R<=z->z<=R->0<=sp z/\sp z*sp z<=dW N*(2*n*ent N 0 0) -ent N 0 0*aA N*z*z/\dW N*(2*n*ent N 0 0) -ent N 0 0*aA N*z*z<(sp z+1)*(sp z+1):=λz z0 z1=>by
  rw[LA]
  exact sI (LB z z0 z1)
 have sS:∀z,-R<=z->z<=R->sp z<=39*dW N:=λz z0 z1=>Nc NT dD n0 n6 (s0 z z0 z1).1 (s0 z z0 z1).2.1
 obtain⟨lo,LC⟩:∃lo:Int->Int,lo=λz=> -((sp z+jn N*z)/dW N):=⟨_,rfl⟩
 obtain⟨ln,Kr⟩:∃ln:Int->Nat,ln=λz=>((sp z-jn N*z)/dW N+1- -((sp z+jn N*z)/dW N)).toNat:=⟨_,rfl⟩
 have FH:∀y z,(y,z)∈gw lo ln R (2*R+1).toNat↔0<=lI N n y z:=λy z=>by
  rw[LC,Kr]
  exact BU ev (by omega) fl D0 R0 r1 r2 s0 y z
 have xH:∀z,-R<=z->z<=R->ln z<=79:=λz z0 z1=>by
  have h:=sS z z0 z1
  have h1:(sp z-jn N*z)/dW N*dW N<=sp z-jn N*z:=Int.ediv_mul_le _ (by omega)
  have h2:(sp z+jn N*z)/dW N*dW N<=sp z+jn N*z:=Int.ediv_mul_le _ (by omega)
  have h3:((sp z-jn N*z)/dW N+(sp z+jn N*z)/dW N)*dW N<=78*dW N:=by
   rw[Int.add_mul]
   omega
  have h4:=Int.le_of_mul_le_mul_right h3 fl
  rw[Kr]
  show((sp z-jn N*z)/dW N+1- -((sp z+jn N*z)/dW N)).toNat<=79
  omega
 have xJ:∀m:Nat,(m:Int)<=2*R+1->(gw lo ln R m).length<=m*79:=λm hm=>v9 λi hi=>xH _ (by omega) (by omega)
 refine⟨_,rfl,_,rfl,_,rfl,_,_,rfl,rfl,_,_,rfl,⟨by omega,by omega,by omega,by omega⟩,?_⟩
 refine gh (λi σ H'=> ∃o1 o2 o3 o4 us,σ=[some (.ref t),some (.int n),some (.int (ent N 0 0)),some (.int (ent N 0 1)),some (.int (ent N 0 2)),some (.ref c1),some (.ref c2),some (.int (dW N)),some (.int (jn N)),some (.int (hiT N)),some (.int (aA N)),some (.int (2*n*ent N 0 0)),some (.ref D),some (.int R),o1,o2,o3,o4]/\SD D H1 H'/\H' D=some (.lst us)/\eH H' N n us (gw lo ln R i)) ⟨_,_,_,_,_,rfl,SD.refl.upd,ao,.nil⟩ (λi σ H' hi hh=> ?_) (λσ H' hh=> ?_)
 ·obtain⟨o1,o2,o3,o4,us,rfl,sD,eD,tu⟩:=hh
  obtain⟨z,ez⟩:∃z:Int,z=(i:Int) -R:=⟨_,rfl⟩
  have Nd: -R+(i:Int)=z:=by omega
  rw[Nd]
  have z0: -R<=z:=by omega
  have z1:z<=R:=by omega
  have nz:z.natAbs<=76:=by omega
  have HY:(dW N).natAbs<=1069:=by omega
  have FI:(jn N).natAbs<=100000:=by omega
  have na:(ent N 0 0).natAbs<=2200:=by omega
  have nD:(aA N).natAbs<=401:=by omega
  have nm:(2*n*ent N 0 0).natAbs<=2200*2200:=pA (by omega) na
  have LD:=pA na nD
  have xK:=pA LD nz
  have QW:=pA FI nz
  have Om:(dW N*(2*n*ent N 0 0) -ent N 0 0*aA N*z*z).natAbs<2^200:=by
   have h1:=pA HY nm
   have h2:=pA xK nz
   exact Nat.lt_of_le_of_lt (m:=10^20) (by(clear QW xK LD nm nD na FI HY nz z1 z0 Nd ez eD hi xJ xH FH Kr LC sS s0 LB LA Qh r2 r1 R0 bn bb X1 X0 en Ol nf hD tw tx l2 l1 b k3 k2 k1 fa f8 xG z8 yJ a2 D0 fl hu q n6 n0 dD aH;omega)) (by decide)
  have nhi:(hiT N).natAbs<=30000000:=by
   have h1:=pA na (show(ent N 2 2).natAbs<=2200 by omega)
   have hu:=NT.u
   have h2:=pA (show(ent N 0 2).natAbs<=4400 by(clear h1 Om QW xK LD nm nD na FI HY nz z1 z0 Nd ez eD hi xJ xH FH Kr LC sS s0 LB LA Qh r2 r1 R0 bn bb X1 X0 en Ol nf hD tw tx l2 l1 b k3 k2 k1 xG z8 q n6 n0 aH;omega)) (show(ent N 0 2).natAbs<=4400 by(clear h1 Om QW xK LD nm nD na FI HY nz z1 z0 Nd ez eD hi xJ xH FH Kr LC sS s0 LB LA Qh r2 r1 R0 bn bb X1 X0 en Ol nf hD tw tx l2 l1 b k3 k2 k1 xG z8 q n6 n0 aH;omega))
   unfold hiT
   (clear hu Om QW xK LD nm nD na FI HY nz z1 z0 Nd ez eD hi xJ xH FH Kr LC sS s0 LB LA Qh r2 r1 R0 bn bb X1 X0 en Ol nf hD tw tx l2 l1 b k3 k2 k1 fa f8 xG z8 yJ a2 D0 fl q n6 n0 dD aH;omega)
  have C:∀{x:Int}{A:Nat},x.natAbs<=A->A<=10^30->x.natAbs<2^4096:=λh g=>XD (Nat.le_trans h g)
  refine⟨_,rfl,_,rfl,_,_,rfl,rfl,⟨C HY (by decide),C nm (by decide)⟩,_,rfl,_,rfl,_,_,rfl,rfl,⟨C na (by decide),C nD (by decide)⟩,_,rfl,_,_,rfl,rfl,⟨C LD (by decide),C nz (by decide)⟩,_,rfl,_,_,rfl,rfl,⟨C xK (by decide),C nz (by decide)⟩,_,_,rfl,rfl,_,rfl,LB z z0 z1,Om,λw h0 h1 h2=> ?_⟩
  have es:w=sp z:=by rw[LA];exact(uK h0 h1 h2).symm
  have wS:=sS z z0 z1
  rw[<-es]at wS
  have q1:=SW (x:=w+jn N*z) fl (by(clear h2 h1 C nhi Om xK LD nm nD na FI HY nz z1 z0 Nd ez eD hi xJ xH FH Kr LC sS s0 LB LA Qh r2 r1 R0 bn bb X1 X0 en Ol nf hD tw tx l2 l1 b k3 k2 k1 fa xG z8 yJ a2 hu q n6 n0 aH;omega))
  have q2:=SW (x:=w-jn N*z) fl (by(clear q1 h2 h1 C nhi Om xK LD nm nD na FI HY nz z1 z0 Nd ez eD hi xJ xH FH Kr LC sS s0 LB LA Qh r2 r1 R0 bn bb X1 X0 en Ol nf hD tw tx l2 l1 b k3 k2 k1 fa xG z8 yJ a2 hu q n6 n0 aH;omega))
  refine⟨_,rfl,_,rfl,_,rfl,_,_,rfl,rfl,⟨C FI (by decide),C nz (by decide)⟩,_,_,rfl,rfl,_,rfl,_,_,rfl,rfl,⟨fl,by omega⟩,_,rfl,?_⟩
  refine⟨_,rfl,_,rfl,_,rfl,_,_,rfl,rfl,⟨C FI (by decide),C nz (by decide)⟩,_,_,rfl,rfl,_,rfl,_,_,rfl,rfl,⟨fl,by omega⟩,_,_,rfl,rfl,_,_,rfl,⟨by omega,by omega,by omega,by omega⟩,?_⟩
  have Ze:lo z= -((w+jn N*z)/dW N):=by rw[LC,es]
  have Zf:ln z=((w-jn N*z)/dW N+1- -((w+jn N*z)/dW N)).toNat:=by rw[Kr,es]
  have n61:=xH z z0 z1
  have li:=xJ i (by omega)
  refine gh (λj σ H2=> ∃o3 o4 us',σ=[some (.ref t),some (.int n),some (.int (ent N 0 0)),some (.int (ent N 0 1)),some (.int (ent N 0 2)),some (.ref c1),some (.ref c2),some (.int (dW N)),some (.int (jn N)),some (.int (hiT N)),some (.int (aA N)),some (.int (2*n*ent N 0 0)),some (.ref D),some (.int R),some (.int z),some (.int w),o3,o4]/\SD D H1 H2/\H2 D=some (.lst us')/\eH H2 N n us' (gw lo ln R i++iJ z (lo z) j)) ⟨_,_,_,rfl,sD,eD,by simpa [iJ]using tu⟩ (λj σ H2 hj hh=> ?_) (λσ H2 hh=> ?_)
  ·obtain⟨o3,o4,us',rfl,VU,CH,Ul⟩:=hh
   obtain⟨y,ey⟩:∃y:Int,y=lo z+(j:Int):=⟨_,rfl⟩
   have VV: -((w+jn N*z)/dW N)+(j:Int)=y:=by omega
   rw[VV]
   have ny:y.natAbs<=20000000000:=by(clear VV CH li q1 wS es h2 h1 h0 C nhi Om QW xK LD nm nD na FI HY nz z1 z0 Nd ez eD hi xJ xH FH Kr LC sS s0 LB LA Qh r2 r1 R0 bn bb X1 X0 en Ol nf hD tw tx l2 l1 b k3 k2 k1 fa f8 xG z8 yJ a2 D0 fl hu q n6 n0 dD aH;omega)
   have XE:=pA HY ny
   have XF:=pA (pA (show(2:Int).natAbs<=2 by decide) FI) ny
   have XG:=pA nhi nz
   have hp:=NT.p
   have hu:=NT.u
   have np:(ent N 0 1).natAbs<=2200:=by omega
   have nq:(ent N 0 2).natAbs<=4400:=by omega
   show CK _ _ _ _ _
   with_reducible apply uM
   ·exact λR hR=>⟨_,rfl,_,rfl,_,rfl,_,_,rfl,rfl,⟨C HY (by decide),C ny (by decide)⟩,_,rfl,_,_,rfl,rfl,⟨C XE (by decide),C ny (by decide)⟩,_,rfl,_,_,rfl,rfl,⟨C (A:=2) (by decide) (by decide),C FI (by decide)⟩,_,rfl,_,_,rfl,rfl,⟨C (pA (show(2:Int).natAbs<=2 by decide) FI) (by decide),C ny (by decide)⟩,_,rfl,_,_,rfl,rfl,⟨C XF (by decide),C nz (by decide)⟩,_,_,rfl,rfl,_,rfl,_,rfl,_,_,rfl,rfl,⟨C nhi (by decide),C nz (by decide)⟩,_,rfl,_,_,rfl,rfl,⟨C XG (by decide),C nz (by decide)⟩,_,_,rfl,rfl,_,_,rfl,rfl,hR⟩
   refine⟨_,rfl,.inl ⟨rfl,_,aU.of CH⟩,_,rfl,_,rfl,_,rfl,_,rfl,_,_,rfl,rfl,⟨C np (by decide),C ny (by decide)⟩,_,rfl,_,rfl,_,_,rfl,rfl,⟨C nq (by decide),C nz (by decide)⟩,_,_,rfl,rfl,_,rfl,(by show 4<=sizeLine;decide),λb hb=> ?_⟩
   have ul:us'.length<sizeLine:=by
    have:=Ul.length
    rw[List.length_append]at this
    have h2:(iJ z (lo z) j).length=j:=by simp[iJ]
    show us'.length<16777216
    (clear hb nq np hu hp XG XF XE ny VV ey CH Ze q2 q1 wS es h1 h0 C nhi Om QW xK LD nm nD na FI HY nz Nd eD hi xJ xH FH Kr LC sS s0 LB LA r2 r1 bn bb X1 X0 en Ol nf hD tw tx l2 l1 k3 k2 k1 fa f8 xG z8 yJ a2 D0 fl q n6 n0 dD aH;omega)
   have XH:b≠D:=λz=>by rw[z,CH]at hb;cases hb
   refine⟨D,us',.ref b,rfl,rfl,by rw[aG (λz=>XH z.symm)];exact CH,ul,?_⟩
   refine⟨_,_,_,rfl,(SD.trans VU (SD.of (az.up hb))).upd,ao,?_⟩
   rw[BS,<-List.append_assoc]
   refine eH.upd (by rw[aG (λz=>XH z.symm)];exact CH) ((Ul.same (az.up hb)).append (.cons ?_ .nil))
   rw[ao,<-ey]
   rfl
  ·obtain⟨o3,o4,us',rfl,VU,CH,Ul⟩:=hh
   refine⟨_,_,_,_,_,rfl,VU,CH,?_⟩
   rw[mY,<-ez,Zf]
   exact Ul
 ·obtain⟨o1,o2,o3,o4,us,rfl,sD,eD,tu⟩:=hh
  refine⟨_,rfl,?_⟩
  have nd:=xJ (2*R+1).toNat (by omega)
  refine q D us _ H' ?_ eD ?_ xF FH (by omega)
  ·exact λa o e=>(sD.same hD) a o (s1 _ _ e)
  ·have e:(R+1- -R).toNat=(2*R+1).toNat:=by omega
   rw[<-e]
   exact tu
end
end CX
namespace L2
open PySem PySem.Spec PyProof.Rows PySem.SeqAt
noncomputable def ir:Int:=2^1001
theorem FJ:ir=2*((2^1000:Nat):Int):=by
 unfold ir
 rw[show(1001:Nat)=1000+1 from rfl,Int.pow_succ,Int.mul_comm]
 congr 1
noncomputable def qe(r:List Int):Int:=aK r 0*(ir*ir)+aK r 1*ir+aK r 2
noncomputable def lJ(r:List Int):Prop:=∀i,i<3->(aK r i).natAbs<2^1000
theorem BW{B u v w:Int}(hB:0<B)(hu:1<=u)(hv: -(B-1)<=v)(hw: -(B-1)<=w):0<u*(B*B)+v*B+w:=by
 have h1:0<=B*B:=Int.mul_nonneg (by omega) (by omega)
 have h2:1*(B*B)<=u*(B*B):=Int.mul_le_mul_of_nonneg_right hu h1
 have h3: -(B-1)*B<=v*B:=Int.mul_le_mul_of_nonneg_right hv (by omega)
 have h4: -(B-1)*B=B-B*B:=by rw[Int.neg_mul,Int.sub_mul];omega
 omega
theorem yK{B v w:Int}(hB:0<B)(hv:1<=v)(hw: -(B-1)<=w):0<v*B+w:=by
 have h2:1*B<=v*B:=Int.mul_le_mul_of_nonneg_right hv (by omega)
 omega
theorem z9{B x y z x' y' z':Int}(hB:0<B)(a1:y'-y<=B-1/\y-y'<=B-1)(a2:z'-z<=B-1/\z-z'<=B-1):
  (x*(B*B)+y*B+z<x'*(B*B)+y'*B+z')↔(x<x'∨(x=x'/\(y<y'∨(y=y'/\z<z')))):=by
 have d:x'*(B*B)+y'*B+z'- (x*(B*B)+y*B+z)=(x'-x)*(B*B)+(y'-y)*B+(z'-z):=by grind
 have d':x*(B*B)+y*B+z- (x'*(B*B)+y'*B+z')=(x-x')*(B*B)+(y-y')*B+(z-z'):=by grind
 rcases Int.lt_trichotomy x x' with h|h|h
 ·have:=BW (u:=x'-x) (v:=y'-y) (w:=z'-z) hB (by(clear d' d a2 a1 hB;omega)) (by omega) (by omega)
  exact⟨λ_=> .inl h,λ_=>by(clear h a2 a1 hB;omega)⟩
 ·subst h
  rw[Int.sub_self,Int.zero_mul,Int.zero_add]at d d'
  rcases Int.lt_trichotomy y y' with h|h|h
  ·have:=yK (v:=y'-y) (w:=z'-z) hB (by omega) (by omega)
   exact⟨λ_=> .inr ⟨rfl,.inl h⟩,λ_=>by(clear h a2 a1 hB;omega)⟩
  ·subst h
   constructor
   ·intro _;exact .inr ⟨rfl,.inr ⟨rfl,by omega⟩⟩
   ·rintro(z|⟨_,z|⟨_,z⟩⟩)<;>omega
  ·have:=yK (v:=y-y') (w:=z-z') hB (by omega) (by omega)
   constructor
   ·intro _;(clear h a2 a1 hB;omega)
   ·rintro(z|⟨_,z|⟨z,_⟩⟩)<;>(clear this d' d a2 a1 hB;omega)
 ·have:=BW (u:=x-x') (v:=y-y') (w:=z-z') hB (by(clear d' d a2 a1 hB;omega)) (by omega) (by omega)
  constructor
  ·intro _;(clear h a2 a1 hB;omega)
  ·rintro(z|⟨z,_⟩)<;>(clear this d' d a2 a1 hB;omega)
theorem kH:0<ir:=by
 rw[FJ]
 have:0<2^1000:=Nat.pow_pos (by decide)
 omega
theorem eU{a b:Int}(ha:a.natAbs<2^1000)(hb:b.natAbs<2^1000):a-b<=ir-1/\b-a<=ir-1:=by
 rw[FJ]
 omega
theorem Nf{x y z x' y' z':Int}(a1:y.natAbs<2^1000)(a2:z.natAbs<2^1000)(b1:y'.natAbs<2^1000)(b2:z'.natAbs<2^1000):
  JM (.list [.int x,.int y,.int z]) (.list [.int x',.int y',.int z'])=decide (x*(ir*ir)+y*ir+z<x'*(ir*ir)+y'*ir+z'):=by
 have e1:∀a b:Int,PyData.eqv (.int a) (.int b)=decide (a=b):=λa b=>rfl
 have e:=z9 (x:=x) (x':=x') kH (eU b1 a1) (eU b2 a2)
 rw[Bool.eq_iff_iff,decide_eq_true_iff,e]
 simp only[JM,pT,e1]
 by_cases h1:x=x'
 ·by_cases h2:y=y'
  ·by_cases h3:z=z'
   ·simp[h1,h2,h3]
   ·simp[h1,h2,h3]
  ·simp[h1,h2]
 ·simp[h1]
theorem BX{K:PySem.W.Frag}{H:Hp}{p:Addr}{as:List Addr}{Q:VK}(hp:aU K H p (as.map V.ref))(ok:f7 H as)(sm:∀b∈as,lJ (dP H b))
  (q:∀bs:List Addr,bs.Perm as->(rws H bs).Pairwise (λr s=>qe r<=qe s) -> ∀l,H l=none->Q (.ref l) (upd H l (.lst (bs.map V.ref)))):zO K [.ref p] H Q:=by
 refine⟨p,as,λa=>qe (dP H a),λa=> .list [.int (aK (dP H a) 0),.int (aK (dP H a) 1),.int (aK (dP H a) 2)],rfl,hp,λa ha=>⟨?_,pO [aK (dP H a) 0,aK (dP H a) 1,aK (dP H a) 2]⟩,.inl λa ha b hb=>⟨.lst (.cons (.int _ _) (.cons (.int _ _) (.cons (.int _ _) .nil))),?_⟩,λbs pb so l hl=> ?_⟩
 ·exact .lst (aU.of (ok a ha).1) (.cons (.int _) (.cons (.int _) (.cons (.int _) .nil)))
 ·exact Nf (sm a ha 1 (by decide)) (sm a ha 2 (by decide)) (sm b hb 1 (by decide)) (sm b hb 2 (by decide))
 ·exact q bs pb (by unfold rws;rw[List.pairwise_map];exact so) l hl
theorem Ng{r s:List Int}(hr:r.length=3)(hs:s.length=3)(a:lJ r)(b:lJ s)(e:qe r=qe s):r=s:=by
 have h1:=mt (z9 kH (x:=aK r 0) (x':=aK s 0) (eU (b 1 (by decide)) (a 1 (by decide))) (eU (b 2 (by decide)) (a 2 (by decide)))).mpr (by unfold qe at e;omega)
 have h2:=mt (z9 kH (x:=aK s 0) (x':=aK r 0) (eU (a 1 (by decide)) (b 1 (by decide))) (eU (a 2 (by decide)) (b 2 (by decide)))).mpr (by unfold qe at e;omega)
 have e0:aK r 0=aK s 0:=by omega
 have e1:aK r 1=aK s 1:=by(clear e0 e hs hr;omega)
 have e2:aK r 2=aK s 2:=by(clear e0 e hs hr;omega)
 rw[yC hr,yC hs,e0,e1,e2]
end L2
namespace L2
open PySem
noncomputable section
noncomputable def eK(s:Int):List Int:=if 0<s then [s,-s]else [0]
noncomputable def ck(N:List (List Int))(p:Int×Int)(ks:List Int):List (List Int):=ks.flatMap λk=>if(k-rg N p.1 p.2)%ent N 0 0=0 then [[(k-rg N p.1 p.2)/ent N 0 0,p.1,p.2]]else []
noncomputable def fY(N:List (List Int))(n:Int)(p:Int×Int):List (List Int):=if nK (lI N n p.1 p.2)*nK (lI N n p.1 p.2)=lI N n p.1 p.2 then ck N p (eK (nK (lI N n p.1 p.2)))else []
theorem tX{s k:Int}(h:0<=s):k∈eK s↔k*k=s*s:=by
 unfold eK
 have key:k*k=s*s↔k=s∨k= -s:=by
  constructor
  ·intro e
   have:(k-s)*(k+s)=0:=by grind
   rcases Int.mul_eq_zero.mp this with z|z<;>(clear this e;omega)
  ·rintro(rfl|rfl)<;>grind
 rw[key]
 split
 ·simp
 ·have:s=0:=by omega
  simp[this]
theorem jP{N:List (List Int)}(pos:0<ent N 0 0){p:Int×Int}{ks:List Int}{r:List Int}:r∈ck N p ks↔ ∃x,r=[x,p.1,p.2]/\ent N 0 0*x+rg N p.1 p.2∈ks:=by
 unfold ck
 rw[List.mem_flatMap]
 constructor
 ·rintro⟨k,hk,h⟩
  split at h
  ·rename_i e
   rw[List.mem_singleton]at h
   refine⟨_,h,?_⟩
   have:=Int.mul_ediv_cancel' (Int.dvd_of_emod_eq_zero e)
   rw[this]
   rwa [Int.sub_add_cancel]
  ·cases h
 ·rintro⟨x,rfl,h⟩
  refine⟨_,h,?_⟩
  rw[Int.add_sub_cancel,if_pos (Int.mul_emod_right _ _),Int.mul_ediv_cancel_left _ (by omega)]
  simp
theorem mZ{N:List (List Int)}(pos:0<ent N 0 0){n:Int}{p:Int×Int}(h0:0<=lI N n p.1 p.2){r:List Int}:r∈fY N n p↔ ∃x,r=[x,p.1,p.2]/\(ent N 0 0*x+rg N p.1 p.2)*(ent N 0 0*x+rg N p.1 p.2)=lI N n p.1 p.2:=by
 obtain⟨s0,s1,s2⟩:=sI h0
 unfold fY
 split
 ·rename_i e
  rw[jP pos]
  constructor
  ·rintro⟨x,e1,h⟩
   exact⟨x,e1,((tX s0).mp h).trans e⟩
  ·rintro⟨x,e1,h⟩
   exact⟨x,e1,(tX s0).mpr (h.trans e.symm)⟩
 ·rename_i e
  constructor
  ·intro h;cases h
  ·rintro⟨x,_,h⟩
   exfalso
   apply e
   have key:∀u:Int,0<=u->u*u=lI N n p.1 p.2->nK (lI N n p.1 p.2)=u:=λu u0 ue=>uK u0 (by omega) (by rw[<-ue];exact(by grind:(u+1)*(u+1)=u*u+2*u+1)▸(by omega))
   rcases Int.le_total 0 (ent N 0 0*x+rg N p.1 p.2)with u0|u0
   ·rw[key _ u0 h];exact h
   ·have h':(-(ent N 0 0*x+rg N p.1 p.2))*(-(ent N 0 0*x+rg N p.1 p.2))=lI N n p.1 p.2:=by rw[Int.neg_mul_neg];exact h
    rw[key _ (by omega) h'];exact h'
theorem oA{N:List (List Int)}(pos:0<ent N 0 0){p:Int×Int}:∀{ks:List Int},ks.Nodup->(ck N p ks).Nodup
 | [],_=>List.nodup_nil
 |k::ks,h=>by
  obtain⟨h1,h2⟩:=List.nodup_cons.mp h
  have e:ck N p (k::ks)=ck N p [k]++ck N p ks:=by simp[ck]
  rw[e]
  refine List.nodup_append.mpr ⟨?_,oA pos h2,λa ha b hb e=> ?_⟩
  ·unfold ck
   simp only[List.flatMap_cons,List.flatMap_nil,List.append_nil]
   split<;>simp
  ·subst e
   obtain⟨x,rfl,m1⟩:=(jP pos).mp ha
   obtain⟨x',e',m2⟩:=(jP pos).mp hb
   cases e'
   rw[List.mem_singleton]at m1
   rw[m1]at m2
   exact h1 m2
theorem Aa{N:List (List Int)}(pos:0<ent N 0 0){n:Int}{p:Int×Int}:(fY N n p).Nodup:=by
 unfold fY
 split
 ·refine oA pos ?_
  unfold eK
  split
  ·simp;omega
  ·simp
 ·exact List.nodup_nil
theorem xM{N:List (List Int)}{n:Int}{p:Int×Int}:(fY N n p).length<=2:=by
 unfold fY
 have one:∀k,(if(k-rg N p.1 p.2)%ent N 0 0=0 then [[(k-rg N p.1 p.2)/ent N 0 0,p.1,p.2]]else([]:List (List Int))).length<=1:=λk=>by split<;>simp
 split
 ·unfold ck eK
  split
  ·simp only[List.flatMap_cons,List.flatMap_nil,List.append_nil,List.length_append]
   have:=one (nK (lI N n p.1 p.2))
   have:=one (-nK (lI N n p.1 p.2))
   omega
  ·simp only[List.flatMap_cons,List.flatMap_nil,List.append_nil]
   have:=one 0
   omega
 ·simp
noncomputable def fF(N:List (List Int))(n:Int)(L:List (List Int)):Prop:=L.Nodup/\(∀r∈L,∃v:Nat->Int,r=[v 0,v 1,v 2])/\ ∀v:Nat->Int,[v 0,v 1,v 2]∈L↔cI N v=n
theorem fF.perm{N:List (List Int)}{n:Int}{L L':List (List Int)}(h:fF N n L)(p:L'.Perm L):fF N n L':=
 ⟨p.nodup_iff.mpr h.1,λr hr=>h.2.1 r (p.mem_iff.mp hr),λv=>p.mem_iff.trans (h.2.2 v)⟩
theorem xN{N:List (List Int)}(ev:bJ N)(pos:0<ent N 0 0){n:Int}{ps:List (Int×Int)}(nd:ps.Nodup)(h:∀y z,(y,z)∈ps↔0<=lI N n y z):fF N n (ps.flatMap (fY N n)):=by
 have sq:∀u:Int,0<=u*u:=λu=>by
  rcases Int.le_total 0 u with z|z
  ·exact Int.mul_nonneg z z
  ·rw[<-Int.neg_mul_neg];exact Int.mul_nonneg (by omega) (by omega)
 refine⟨?_,λr hr=> ?_,λv=> ?_⟩
 ·clear h
  induction ps with
  |nil=>exact List.nodup_nil
  |cons p ps ih=>
   obtain⟨h1,h2⟩:=List.nodup_cons.mp nd
   rw[List.flatMap_cons]
   refine List.nodup_append.mpr ⟨Aa pos,ih h2,λa ha b hb e=> ?_⟩
   subst e
   obtain⟨p',l9,hb⟩:=List.mem_flatMap.mp hb
   have at_:∀{p:Int×Int},a∈fY N n p-> ∃x,a=[x,p.1,p.2]:=λ {p} ha=>by
    unfold fY at ha
    split at ha
    ·obtain⟨x,e,_⟩:=(jP pos).mp ha
     exact⟨x,e⟩
    ·cases ha
   obtain⟨x,e1⟩:=at_ ha
   obtain⟨x',e2⟩:=at_ hb
   rw[e1]at e2
   injection e2 with _ e3
   injection e3 with e4 e5
   injection e5 with e6 _
   have:p=p':=Prod.ext e4 e6
   rw[this]at h1
   exact h1 l9
 ·obtain⟨p,hp,hr⟩:=List.mem_flatMap.mp hr
  obtain⟨x,e,_⟩:=(mZ pos ((h p.1 p.2).mp hp)).mp hr
  exact⟨λi=>match i with|0=>x|1=>p.1|_=>p.2,e⟩
 ·rw[sE ev pos,List.mem_flatMap]
  constructor
  ·rintro⟨p,hp,hr⟩
   obtain⟨x,e,k⟩:=(mZ pos ((h p.1 p.2).mp hp)).mp hr
   injection e with e1 e
   injection e with e2 e
   injection e with e3 _
   rw[e1,e2,e3]
   exact k
  ·intro k
   have l0:0<=lI N n (v 1) (v 2):=by rw[<-k];exact sq _
   exact⟨(v 1,v 2),(h _ _).mpr l0,(mZ (p:=(v 1,v 2)) pos l0).mpr ⟨v 0,rfl,k⟩⟩
theorem eH.sd{H H':Hp}{N:List (List Int)}{n:Int}{us:List V}{ps:List (Int×Int)}{D:Addr}{xs:List V}(hD:H D=some (.lst xs))(s:SD D H H')(h:eH H N n us ps):eH H' N n us ps:=by
 induction h with
 |nil=>exact .nil
 |cons e _ ih=>exact .cons (s _ _ (λz=>by rw[z,hD]at e;cases e) e) ih
theorem eH.get{H:Hp}{N:List (List Int)}{n:Int}{us:List V}{ps:List (Int×Int)}(h:eH H N n us ps):∀{i:Nat}{x:V},us[i]?=some x-> ∃a p,x= .ref a/\ps[i]?=some p/\H a=some (.tup (SV N n p)):=by
 induction h with
 |nil=>intro i x h;simp at h
 | @cons a us p ps e _ ih=>
  intro i x h
  match i,h with
  |0,h=>cases h;exact⟨a,p,rfl,rfl,e⟩
  |i+1,h=>obtain⟨a,p,e1,e2,e3⟩:=ih (i:=i) (by simpa using h);exact⟨a,p,e1,by simpa using e2,e3⟩
theorem Ks{te:TE}{i:Nat}{b:TS}{D:Ends}{σ:St}{H:Hp}(P:V->Hp->Prop)(h:∀R:VK,(∀v H',P v H'->R v H') ->te σ H R)(k:∀v H',P v H'->b D (σ.set i (some v)) H'):CK (Im te (dZ i)) b D σ H:=h _ k
theorem Qi{t:TS}{b:TS}{D:Ends}{σ:St}{H:Hp}(P:St->Hp->Prop)(h:∀R:St->Hp->Prop,(∀σ' H',P σ' H'->R σ' H') ->t {D with nx:=R} σ H)(k:∀σ' H',P σ' H'->b D σ' H'):CK t b D σ H:=h _ k
theorem wc{N:List (List Int)}(ev:bJ N)(h:gz N)(dD:aA N<=401){n y z:Int}(n0:0<=n)(n6:n<=1100)(l:0<=lI N n y z):y.natAbs<=10^10/\z.natAbs<=10^5/\lI N n y z<=4840000:=by
 obtain⟨fl,D0,a2,yJ,z8,xG,f8,fa⟩:=eZ h dD
 have l1:=h.BC
 have l2:=h.Dw
 have g:=(v7 ev (by omega) fl n y z).mp l
 have sq:∀u:Int,0<=u*u:=λu=>by
  rcases Int.le_total 0 u with z|z
  ·exact Int.mul_nonneg z z
  ·rw[<-Int.neg_mul_neg];exact Int.mul_nonneg (by omega) (by omega)
 have n1:n*ent N 0 0<=1100*2200:=Int.mul_le_mul n6 yJ (by omega) (by decide)
 have n2:0<=n*ent N 0 0:=Int.mul_nonneg n0 (by omega)
 have n3:dW N*(2*n*ent N 0 0)<=1069*4840000:=Int.mul_le_mul (by omega) (by rw[Int.mul_assoc];omega) (by rw[Int.mul_assoc];omega) (by decide)
 have e1:ent N 0 0*aA N*z*z=(ent N 0 0*aA N)*(z*z):=by grind
 have p1:1<=ent N 0 0*aA N:=Int.mul_pos (by omega) D0
 have p2:z*z<=(ent N 0 0*aA N)*(z*z):=by
  have:=Int.mul_le_mul_of_nonneg_right p1 (sq z)
  rwa [Int.one_mul]at this
 have root:∀(u X B:Int),u*u<=X->0<=B->X<B*B->u.natAbs<=B.natAbs:=λu X B h1 b0 h2=>by
  refine Classical.byContradiction λc=> ?_
  have:B.natAbs*B.natAbs<=u.natAbs*u.natAbs:=Nat.mul_le_mul (by omega) (by omega)
  have e:=Int.natAbs_mul_self (a:=u)
  have e':=Int.natAbs_mul_self (a:=B)
  omega
 have s1:=sq (dW N*y+jn N*z)
 have z1:z.natAbs<=80000:=root z (1069*4840000) 80000 (by omega) (by decide) (by decide)
 have w1:(dW N*y+jn N*z).natAbs<=80000:=root _ (1069*4840000) 80000 (by have:=sq z;omega) (by decide) (by decide)
 have q0:∀z w:Int,z*w=w*z:=Int.mul_comm
 have bb:jn N*jn N<=1069*4840000:=by
  have h:=oS ev
  have h1:0<=ent N 0 0*aA N:=by omega
  have h2:hiT N<=4840000:=by
   have h3:ent N 0 0*ent N 2 2<=2200*2200:=Int.mul_le_mul yJ xG (by omega) (by omega)
   have h4:=sq (ent N 0 2)
   unfold hiT
   omega
  have h5:dW N*hiT N<=dW N*4840000:=Int.mul_le_mul_of_nonneg_left h2 (by omega)
  omega
 have bn:=root (jn N) (1069*4840000) 100000 bb (by decide) (by decide)
 have m1:=pA (show(jn N).natAbs<=100000 from bn) (show z.natAbs<=80000 from z1)
 have m2:y.natAbs<=(dW N*y).natAbs:=by
  rw[Int.natAbs_mul]
  exact Nat.le_mul_of_pos_left _ (by omega)
 have Zg:(dW N*y+jn N*z).natAbs<=80000:=w1
 have m3:(dW N*y).natAbs<=8100000000:=by(clear Zg m2 bn bb q0 z1 s1 root p2 p1 e1 n3 n2 n1 sq g l2 l1 fa f8 xG z8 yJ a2 D0 fl l n6 n0 dD;omega)
 refine⟨by omega,by omega,?_⟩
 have id1:dW N*(2*n*ent N 0 0-lI N n y z)=(dW N*y+jn N*z)*(dW N*y+jn N*z)+(ent N 0 0*aA N)*(z*z):=by
  have h:=oS ev
  rw[<-h]
  unfold lI
  grind
 have s2:=sq z
 have pos:0<=dW N*(2*n*ent N 0 0-lI N n y z):=by omega
 have:0<=2*n*ent N 0 0-lI N n y z:=by
  refine Classical.byContradiction λc=> ?_
  have h1:dW N*(2*n*ent N 0 0-lI N n y z)<0:=Int.mul_neg_of_pos_of_neg fl (by omega)
  omega
 have e4:2*n*ent N 0 0=2*(n*ent N 0 0):=Int.mul_assoc _ _ _
 omega
theorem tY{N:List (List Int)}(h:gz N)(dD:aA N<=401){n:Int}(n0:0<=n)(n6:n<=1100){v:Nat->Int}(e:cI N v=n):∀i,i<3->(v i).natAbs<2^60:=by
 obtain⟨fl,D0,a2,yJ,z8,xG,f8,fa⟩:=eZ h dD
 have k:=(sE h.ev h.pos n v).mp e
 have l0:0<=lI N n (v 1) (v 2):=by
  rw[<-k]
  rcases Int.le_total 0 (ent N 0 0*v 0+rg N (v 1) (v 2))with z|z
  ·exact Int.mul_nonneg z z
  ·rw[<-Int.neg_mul_neg];exact Int.mul_nonneg (by omega) (by omega)
 obtain⟨y1,z1,s1⟩:=wc h.ev h dD n0 n6 l0
 have hp:=h.p
 have hu:=h.u
 have m1:=pA (show(ent N 0 1).natAbs<=2200 by omega) y1
 have m2:=pA (show(ent N 0 2).natAbs<=4400 by omega) z1
 have w1:(ent N 0 0*v 0+rg N (v 1) (v 2)).natAbs<=10000:=by
  refine Classical.byContradiction λc=> ?_
  have:10000*10000<=(ent N 0 0*v 0+rg N (v 1) (v 2)).natAbs*(ent N 0 0*v 0+rg N (v 1) (v 2)).natAbs:=Nat.mul_le_mul (by omega) (by omega)
  have e:=Int.natAbs_mul_self (a:=ent N 0 0*v 0+rg N (v 1) (v 2))
  omega
 have m3:(ent N 0 0*v 0).natAbs<=10^15:=by
  unfold rg at w1
  (clear hu hp s1 z1 y1 l0 k fa f8 xG z8 yJ a2 D0 fl e n6 n0 dD;omega)
 have m4:(v 0).natAbs<=(ent N 0 0*v 0).natAbs:=by
  rw[Int.natAbs_mul]
  exact Nat.le_mul_of_pos_left _ (by omega)
 intro i hi
 rcases aN hi with rfl|rfl|rfl
 ·exact Nat.lt_of_le_of_lt (Nat.le_trans m4 m3) (by decide)
 ·exact Nat.lt_of_le_of_lt y1 (by decide)
 ·exact Nat.lt_of_le_of_lt z1 (by decide)
theorem qW{N:List (List Int)}{p:Int×Int}:∀ks:List Int,(ck N p ks).length<=ks.length
 | []=>Nat.le_refl _
 |k::ks=>by
  have ih:=qW (N:=N) (p:=p) ks
  have e:ck N p (k::ks)=ck N p [k]++ck N p ks:=by simp[ck]
  have h1:(ck N p [k]).length<=1:=by
   unfold ck
   simp only[List.flatMap_cons,List.flatMap_nil,List.append_nil]
   split<;>simp
  rw[e,List.length_append,List.length_cons]
  omega
theorem qX{N:List (List Int)}{n:Int}:∀ps:List (Int×Int),(ps.flatMap (fY N n)).length<=2*ps.length
 | []=>Nat.le_refl _
 |p::ps=>by
  have ih:=qX (N:=N) (n:=n) ps
  have h1:=xM (N:=N) (n:=n) (p:=p)
  rw[List.flatMap_cons,List.length_append,List.length_cons]
  omega
theorem Hr(w:Int):(eK w).length<=2:=by
 unfold eK
 split<;>simp
theorem f7.push{H:Hp}{D b:Addr}{as:List Addr}{x y z:Int}{o:HO}(ok:f7 H as)(eD:H D=some (.lst (as.map V.ref)))(hb:H b=none)(bD:b≠D):
  f7 (upd (upd H b (.lst [.int x,.int y,.int z])) D o) (as++ [b])/\rws (upd (upd H b (.lst [.int x,.int y,.int z])) D o) (as++ [b])=rws H as++ [[x,y,z]]:=by
 obtain⟨r1,r2⟩:=JS (H:=upd (upd H b (.lst [.int x,.int y,.int z])) D o) (b:=b) (x:=x) (y:=y) (z:=z) (by rw[aG bD];exact ao)
 obtain⟨k1,k2⟩:=ok.keep (H':=upd (upd H b (.lst [.int x,.int y,.int z])) D o) λc hc o' e=>by
  rw[aG (BA (ok c hc) eD),aG (λz=>by rw[z,hb]at e;cases e)]
  exact e
 refine⟨λc hc=> ?_,?_⟩
 ·rcases List.mem_append.mp hc with h|h
  ·exact k1 c h
  ·rw[List.mem_singleton.mp h];exact r1
 ·rw[Dt,k2]
  show _++ [dP _ b]=_
  rw[r2]
theorem fF.small{N:List (List Int)}(h:gz N)(dD:aA N<=401){n:Int}(n0:0<=n)(n6:n<=1100){L:List (List Int)}(R:fF N n L):∀r∈L,r.length=3/\ ∀i,i<3->(aK r i).natAbs<2^60:=λr hr=>by
 obtain⟨v,rfl⟩:=R.2.1 r hr
 have e:=(R.2.2 v).mp hr
 have k:=tY h dD n0 n6 e
 refine⟨rfl,λi hi=> ?_⟩
 rcases aN hi with rfl|rfl|rfl<;>exact k _ (by decide)
theorem Ku{H:Hp}{as bs:List Addr}(p:bs.Perm as):(rws H bs).Perm (rws H as):=p.map _
theorem m8{H:Hp}{as:List Addr}{b:Addr}(h:b∈as):dP H b∈rws H as:=List.mem_map.mpr ⟨b,h,rfl⟩
end
noncomputable section
theorem BY{m:List (List Int)}{x x' y y':Nat->Int}(hx:x 0=x' 0/\x 1=x' 1/\x 2=x' 2)(hy:y 0=y' 0/\y 1=y' 1/\y 2=y' 2):ay m x y=ay m x' y':=by
 obtain⟨a,b,c⟩:=hx
 obtain⟨d,e,f⟩:=hy
 rw[aV,aV,a,b,c,d,e,f]
theorem BZ{m:List (List Int)}{x x':Nat->Int}(hx:x 0=x' 0/\x 1=x' 1/\x 2=x' 2):cI m x=cI m x':=by
 unfold cI
 rw[BY hx hx]
theorem nodup_map_on{α β:Type}{f:α->β}:∀{L:List α},L.Nodup->(∀a∈L,∀b∈L,f a=f b->a=b) ->(L.map f).Nodup
 | [],_,_=>List.nodup_nil
 |a::L,h,k=>by
  obtain⟨h1,h2⟩:=List.nodup_cons.mp h
  rw[List.map_cons,List.nodup_cons]
  refine⟨λm=> ?_,nodup_map_on h2 λx hx y hy=>k x (List.mem_cons_of_mem _ hx) y (List.mem_cons_of_mem _ hy)⟩
  obtain⟨b,hb,e⟩:=List.mem_map.mp m
  have:=k b (List.mem_cons_of_mem _ hb) a List.mem_cons_self e
  rw[this]at hb
  exact h1 hb
theorem Nh{N:List (List Int)}(h:gz N)(dD:aA N<=401):Bd 700 N:=by
 obtain⟨fl,D0,a2,yJ,z8,xG,f8,fa⟩:=eZ h dD
 have l1:=h.BC
 have l2:=h.Dw
 have hp:=h.p
 have hu:=h.u
 have hv:=h.v
 obtain⟨s1,s2,s3⟩:=h.ev.1
 intro i j hi hj
 refine Nat.lt_of_lt_of_le (m:=2^20) ?_ (Nat.pow_le_pow_right (by decide) (by decide))
 rcases aN hi with rfl|rfl|rfl<;>rcases aN hj with rfl|rfl|rfl<;>omega
end
noncomputable section
noncomputable def pH(R:Int):List Int:=(List.range (2*R+1).toNat).map λi:Nat=>(i:Int) -R
theorem yL{R x:Int}(h:0<=R):x∈pH R↔ -R<=x/\x<=R:=by
 unfold pH
 rw[List.mem_map]
 constructor
 ·rintro⟨i,hi,rfl⟩
  rw[List.mem_range]at hi
  omega
 ·rintro⟨h1,h2⟩
  exact⟨(x+R).toNat,by rw[List.mem_range];omega,by omega⟩
theorem Hs{R:Int}:(pH R).length=(2*R+1).toNat:=by simp[pH]
theorem length_le_of_subset{α:Type}[DecidableEq α]:∀{L M:List α},L.Nodup->(∀x∈L,x∈M) ->L.length<=M.length
 | [],_,_,_=>Nat.zero_le _
 |a::L,M,h,k=>by
  obtain⟨h1,h2⟩:=List.nodup_cons.mp h
  have ha:=k a List.mem_cons_self
  have:=length_le_of_subset (L:=L) (M:=M.erase a) h2 λx hx=>(List.mem_erase_of_ne (show x≠a from λe=>h1 (by rw[<-e];exact hx))).mpr (k x (List.mem_cons_of_mem _ hx))
  rw[List.length_erase_of_mem ha]at this
  have:=List.length_pos_of_mem ha
  rw[List.length_cons]
  omega
theorem Kv{m:List (List Int)}(ev:bJ m)(pos:0<ent m 0 0){n:Int}{R1 R2:Int}(r1:0<=R1)(r2:0<=R2)(b1:∀v,cI m v=n-> -R1<=v 1/\v 1<=R1)(b2:∀v,cI m v=n-> -R2<=v 2/\v 2<=R2){L:List (List Int)}(h:fF m n L):
  L.length<=2*((2*R1+1).toNat*(2*R2+1).toNat):=by
 have sub:∀r∈L,r∈((pH R1).flatMap λy=>(pH R2).map λz=>(y,z)).flatMap (fY m n):=λr hr=>by
  obtain⟨v,rfl⟩:=h.2.1 r hr
  have e:=(h.2.2 v).mp hr
  have k:=(sE ev pos n v).mp e
  have l0:0<=lI m n (v 1) (v 2):=by rw[<-k];exact bu _
  refine List.mem_flatMap.mpr ⟨(v 1,v 2),List.mem_flatMap.mpr ⟨v 1,(yL r1).mpr (b1 v e),List.mem_map.mpr ⟨v 2,(yL r2).mpr (b2 v e),rfl⟩⟩,(mZ (p:=(v 1,v 2)) pos l0).mpr ⟨v 0,rfl,k⟩⟩
 have le:=length_le_of_subset h.1 sub
 have l2:=qX (N:=m) (n:=n) ((pH R1).flatMap λy=>(pH R2).map λz=>(y,z))
 have l3:((pH R1).flatMap λy=>(pH R2).map λz=>(y,z)).length=(2*R1+1).toNat*(2*R2+1).toNat:=by
  rw[List.length_flatMap]
  simp only[List.length_map,Hs,List.map_const']
  rw[List.sum_replicate_nat]
 omega
end
noncomputable section
theorem yM{m:List (List Int)}(ev:bJ m)(b7:bE m)(ab:b8 m=true){n:Int}{v:Nat->Int}(e:cI m v=n){i:Nat}(hi:i<3):aA m*(v i*v i)<=2*n*iN m i i:=by
 have k:=yF ev b7 ab v hi
 have pe:=fP ev v
 have:aQ m v=2*n:=by show ay m v v=_;rw[pe,e]
 rw[this]at k
 rw[Int.mul_comm (2*n)]
 exact k
theorem gN{i:Nat}{v:V}{σ:St}{H:Hp}{f bk ct:St->Hp->Prop}{rt:VK}(h:f (σ.set i (some v)) H):dZ i v σ H (Ends.mk f rt bk ct).nx:=h
end
end L2
set_option maxHeartbeats 1000000
namespace CX
open PySem L2
section
variable{P:Program}{w:World}{K:PySem.W.Frag}{mg:Str->Option Value}{base:Heap}
inductive qf(vs:List V)(H:Hp)(Q:VK)(E:XK):Prop
 |mk(t:Addr)(bs:List Addr)(N:List (List Int))(n:Int)(_:vs=[.ref t,.int n])(_:Tab H t bs N)(_:bE N)(_:bJ N)(_:Bd 700 N)(_:gz N)(_:aA N<=401)(_:0<=n)(_:n<=1100)(_:∀(r:Addr) (as:List Addr) (H':Hp),az H H'->H r=none->(∀b∈as,H b=none) ->H' r=some (.lst (as.map V.ref)) ->f7 H' as->fF N n (rws H' as) ->(rws H' as).Pairwise (λr s=>qe r<=qe s) ->as.length<=24200->Q (.ref r) H')
theorem Ab(F:fU K mg "near_rows" oq jl)(gY:mg "sorted"=none)(we:dQ P w K mg base dz 4 "slices" om BV)(qd:dQ P w K mg base dz 4 "root" rY DU):dQ P w K mg base dz 5 "near_rows" jl qf:=by
 refine F.ok dS (λvs H Q E h=> ?_) (λf cdv A outer s H vs Q E hr h=> ?_)
 ·obtain⟨t,bs,N,n,rfl,hT,b7,ev,bN,NT,dD,n0,n6,q⟩:=h
  rfl
 obtain⟨t,bs,N,n,rfl,hT,b7,ev,bN,NT,dD,n0,n6,q⟩:=h
 have hu:=hr.units
 refine⟨_,(oO (@aB _ _ _ _ _ (aY (i:=2) dS.nd rfl (Or.inl rfl) (aD au (aD au (pv 0) ah (λ_ _=>rfl)) ah (λ_ _=>rfl)))
  (@aB _ _ _ _ _ (aY (i:=3) dS.nd rfl (Or.inl rfl) (dR ak))
  (@aB _ _ _ _ _ (gO PassesOwn.never rfl (gv (aP we hr rfl aM (af (pv 0) (af (pv 1) ak)))) (nM rfl (aJ (aI (i:=4) dS.nd rfl (Or.inl rfl)) (aJ (aI (i:=5) dS.nd rfl (Or.inl rfl)) (aJ (aI (i:=6) dS.nd rfl (Or.inl rfl)) (aJ (aI (i:=7) dS.nd rfl (Or.inl rfl)) fj))))) (oO (@aB _ _ _ _ _ (aY (i:=8) dS.nd rfl (Or.inl rfl) (aP qd hr rfl aM (af (pv 7) ak)))
  (@aT _ _ _ (eE (cL EM (aq aE (pv 8) (pv 8)) (pv 7) (cK _)) (@aB _ _ _ _ _ (aY (i:=9) dS.nd rfl (Or.inl rfl) (Ii (cL qD (pv 8) ah (cK _)) (dR (af (pv 8) (af (AM uZ (pv 8)) ak))) (dR (af ah ak))))
  (@aT _ _ _ (gO PassesOwn.never rfl (gv (pv 9)) (aI (i:=10) dS.nd rfl (Or.inl rfl)) (cF (eE (cL EM (aq g8 (aq dG (pv 10) (pv 6)) (pv 2)) ah (cK _)) (@aT _ _ _ (uF (IL PySem.F.plainAttrs_list PySem.F.slot_list_append PySem.F.type_list_append jU (pv 3) (af (dR (af (aq fm (aq dG (pv 10) (pv 6)) (pv 2)) (af (pv 4) (af (pv 5) ak)))) ak)))) d9))))) d9)))))
  (@aT _ _ _ (aW (eG (tT (fS.Fo hr)) rfl gY PyProof.Rows.boot_sorted (af (pv 3) ak)))))))),?_⟩
 obtain⟨c0,c1,c2,rfl,x0,x1,x2⟩:=vW hT b7
 obtain⟨fl,D0,a2,yJ,z8,xG,f8,fa⟩:=eZ NT dD
 refine⟨_,rfl,t,_,_,_,rfl,rfl,aU.of hT.1,rfl,c0,_,_,_,rfl,rfl,aU.of x0,rfl,?_⟩
 refine⟨by decide,λD hD=> ?_⟩
 have s0:az H (upd H D (.lst [])):=az.up hD
 refine⟨_,rfl,_,rfl,t,_,N,n,rfl,hT.same s0,b7,ev,bN,NT,dD,n0,n6,λu us L H1 s1 eu tu nd FH l75=> ?_⟩
 have eD:H1 D=some (.lst []):=s1 _ _ ao
 have l0:0<us.length:=by
  have h:((0:Int),(0:Int))∈L:=(FH 0 0).mpr (by unfold lI;have:=Int.mul_nonneg n0 (show 0<=ent N 0 0 by omega);simp;rw[Int.mul_assoc];omega)
  rw[tu.length]
  exact List.length_pos_of_mem h
 have uD:u≠D:=λz=>by
  rw[z,eD]at eu
  cases eu
  exact Nat.lt_irrefl _ l0
 refine⟨u,rfl,⟨us,aU.of eu⟩,?_⟩
 refine lR (xs:=us) (λi σ H'=> ∃o4 o5 o6 o7 o8 o9 yN as,σ=[some (.ref t),some (.int n),some (.int (ent N 0 0)),some (.ref D),o4,o5,o6,o7,o8,o9,yN]/\SD D H1 H'/\H' D=some (.lst (as.map V.ref))/\f7 H' as/\(∀b∈as,H b=none)/\rws H' as=(L.take i).flatMap (fY N n)) ⟨_,_,_,_,_,_,_,[],rfl,SD.refl,eD,λ_ h=>(nomatch h),λ_ h=>(nomatch h),rfl⟩ (λi σ H' hi hh=> ?_) (λi x σ H' hx hh=> ?_) (λσ H' hh=> ?_)
 ·obtain⟨o4,o5,o6,o7,o8,o9,yN,as,rfl,sD,CH,ok,fr,er⟩:=hh
  exact aU.of (sD _ _ uD eu)
 ·obtain⟨o4,o5,o6,o7,o8,o9,yN,as,rfl,sD,CH,ok,fr,er⟩:=hh
  obtain⟨a,p,rfl,hp,ea⟩:=(tu.sd eD sD).get hx
  have lp:0<=lI N n p.1 p.2:=(FH _ _).mp (List.mem_of_getElem? hp)
  obtain⟨yb,zb,lb⟩:=wc ev NT dD n0 n6 lp
  refine⟨a,_,rfl,pI.of ea,rfl,_,_,rfl,_,_,rfl,_,_,rfl,_,_,rfl,rfl,?_⟩
  obtain⟨w0,w1,w2⟩:=sI lp
  have wb:nK (lI N n p.1 p.2)<=1000000000:=by
   refine Classical.byContradiction λc=> ?_
   have:1000000000*1000000000<=nK (lI N n p.1 p.2)*nK (lI N n p.1 p.2):=Int.mul_le_mul (by omega) (by omega) (by decide) (by omega)
   omega
  refine⟨_,rfl,_,rfl,lp,Nat.lt_of_le_of_lt (show(lI N n p.1 p.2).natAbs<=4840000 by omega) (by decide),λw h0 h1 h2=> ?_⟩
  obtain rfl:=uK h0 h1 h2
  generalize ew:nK (lI N n p.1 p.2)=w at w0 w1 w2 wb h0 h1 h2 ⊢
  have wq:w.natAbs<2^4096:=XD (show w.natAbs<=10^30 by omega)
  refine⟨_,rfl,_,rfl,_,_,rfl,rfl,⟨wq,wq⟩,_,rfl,rfl,_,rfl,?_⟩
  have tk:(L.take (i+1)).flatMap (fY N n)=(L.take i).flatMap (fY N n)++fY N n p:=by
   rw[List.take_add_one,hp]
   simp
  refine lS (λc=> ?_) (λc=> ?_)
  ·have c':w*w=lI N n p.1 p.2:=V.int.inj (of_decide_eq_true c)
   with_reducible apply Ks (λv H2=> ∃S,v= .ref S/\H' S=none/\H2=upd H' S (.lst ((eK w).map V.int)))
   ·intro R hR
    refine⟨_,rfl,_,_,rfl,rfl,_,rfl,?_⟩
    refine lS (λc=> ?_) (λc=> ?_)
    ·have c2:0<w:=of_decide_eq_true c
     refine⟨_,rfl,_,rfl,_,rfl,(by show 2<=sizeLine;decide),λS hS=>hR _ _ ⟨S,rfl,hS,?_⟩⟩
     unfold eK
     rw[if_pos c2]
     rfl
    ·have c2:¬0<w:=λz=>c (decide_eq_true z)
     refine⟨by decide,λS hS=>hR _ _ ⟨S,rfl,hS,?_⟩⟩
     unfold eK
     rw[if_neg c2]
     rfl
   ·rintro _ _ ⟨S,rfl,hS,rfl⟩
    have XI:S≠D:=λz=>by rw[z,CH]at hS;cases hS
    have sS:az H' (upd H' S (.lst ((eK w).map V.int))):=az.up hS
    obtain⟨SX,XJ⟩:=ok.same sS
    refine⟨_,rfl,S,rfl,⟨_,aU.of ao⟩,?_⟩
    refine lR (xs:=(eK w).map V.int) (λj σ H2=> ∃yN as',σ=[some (.ref t),some (.int n),some (.int (ent N 0 0)),some (.ref D),some (.int p.1),some (.int p.2),some (.int (rg N p.1 p.2)),some (.int (lI N n p.1 p.2)),some (.int w),some (.ref S),yN]/\SD D (upd H' S (.lst ((eK w).map V.int))) H2/\H2 D=some (.lst (as'.map V.ref))/\f7 H2 as'/\(∀b∈as',H b=none)/\rws H2 as'=(L.take i).flatMap (fY N n)++ck N p ((eK w).take j)) ⟨_,as,rfl,SD.refl,sS _ _ CH,SX,fr,by rw[XJ,er];simp[ck]⟩ (λj σ H2 hj hh=> ?_) (λj x σ H2 hx hh=> ?_) (λσ H2 hh=> ?_)
    ·obtain⟨yN,as',rfl,Qj,Ni,QX,yd,Qk⟩:=hh
     exact aU.of (Qj _ _ XI ao)
    ·obtain⟨yN,as',rfl,Qj,Ni,QX,yd,Qk⟩:=hh
     obtain⟨k,rfl,hk⟩:∃k,x= .int k/\(eK w)[j]?=some k:=by
      rw[List.getElem?_map]at hx
      cases e:(eK w)[j]? with
      |none=>rw[e]at hx;cases hx
      |some k=>rw[e]at hx;cases hx;exact⟨k,rfl,rfl⟩
     have VW:ck N p ((eK w).take (j+1))=ck N p ((eK w).take j)++ck N p [k]:=by
      rw[List.take_add_one,hk]
      simp[ck]
     refine⟨_,rfl,_,rfl,_,_,rfl,rfl,_,rfl,_,_,rfl,rfl,(by show 0<ent N 0 0;omega),rfl,_,rfl,?_⟩
     refine lS (λc3=> ?_) (λc3=> ?_)
     ·have c4:(k-rg N p.1 p.2)%ent N 0 0=0:=V.int.inj (of_decide_eq_true c3)
      refine⟨_,rfl,.inl ⟨rfl,_,aU.of Ni⟩,?_⟩
      refine⟨_,rfl,_,rfl,_,_,rfl,rfl,_,rfl,_,_,rfl,rfl,⟨by omega,by omega⟩,_,rfl,_,rfl,(by show 3<=sizeLine;decide),λb hb=> ?_⟩
      have ll:as'.length<sizeLine:=by
       have e:as'.length=(rws H2 as').length:=(List.length_map _).symm
       have h1:=qX (N:=N) (n:=n) (L.take i)
       have h2:=qW (N:=N) (p:=p) ((eK w).take j)
       have h3:=Hr w
       rw[e,Qk,List.length_append]
       rw[List.length_take]at h1 h2
       show _<16777216
       (clear e hb c4 c3 VW hx hk Qk yd Ni XJ XI hS c' c tk wq h0 wb w2 w1 w0 ew lb zb yb lp ea hp er fr CH uD l0 eD FH eu hD fa f8 xG z8 yJ a2 D0 fl hu q n6 n0 dD gY;omega)
      have bD:b≠D:=λz=>by rw[z,Ni]at hb;cases hb
      obtain⟨Zh,Zi⟩:=f7.push (o:= .lst (as'.map V.ref++ [V.ref b])) (x:=(k-rg N p.1 p.2)/ent N 0 0) (y:=p.1) (z:=p.2) QX Ni hb bD
      refine⟨D,as'.map V.ref,.ref b,rfl,rfl,by rw[aG (λz=>bD z.symm)];exact Ni,(by rw[List.length_map];exact ll),?_⟩
      refine⟨_,as'++ [b],rfl,(Qj.trans (SD.of (az.up hb))).upd,?_,Zh,λc hc=> ?_,?_⟩
      ·rw[List.map_append]
       exact ao
      ·rcases List.mem_append.mp hc with h|h
       ·exact yd c h
       ·rw[List.mem_singleton.mp h]
        have Zj:az H H2:=λa o e=>((sD.trans (SD.of sS)).trans Qj) a o (λz=>by rw[z,hD]at e;cases e) (s1 _ _ (s0 _ _ e))
        exact Zj.none hb
      ·rw[Zi,Qk,VW,List.append_assoc]
       simp[ck,c4]
     ·have c4:¬(k-rg N p.1 p.2)%ent N 0 0=0:=λz=>c3 (by rw[z];exact decide_eq_true rfl)
      refine⟨_,as',rfl,Qj,Ni,QX,yd,?_⟩
      rw[VW,Qk]
      simp[ck,c4]
    ·obtain⟨yN,as',rfl,Qj,Ni,QX,yd,Qk⟩:=hh
     refine⟨_,_,_,_,_,_,_,as',rfl,(sD.trans (SD.of sS)).trans Qj,Ni,QX,yd,?_⟩
     rw[Qk,tk,List.length_map,List.take_length]
     congr 1
     unfold fY
     rw[ew,if_pos c']
  ·have c':¬w*w=lI N n p.1 p.2:=λz=>c (by rw[z];exact decide_eq_true rfl)
   refine⟨_,_,_,_,_,_,_,as,rfl,sD,CH,ok,fr,?_⟩
   rw[tk,er]
   have:fY N n p=[]:=by
    unfold fY
    rw[ew,if_neg c']
   rw[this,List.append_nil]
 ·obtain⟨o4,o5,o6,o7,o8,o9,yN,as,rfl,sD,CH,ok,fr,er⟩:=hh
  have el:L.take us.length=L:=by rw[tu.length,List.take_length]
  rw[el]at er
  have R0:=xN ev NT.pos nd FH
  rw[<-er]at R0
  have sm:=R0.small NT dD n0 n6
  have al:as.length<=24200:=by
   have e:as.length=(rws H' as).length:=(List.length_map _).symm
   have h1:=qX (N:=N) (n:=n) L
   rw[e,er]
   omega
  refine⟨_,rfl,BX (aU.of CH) ok (λb hb i hi=>Nat.lt_of_lt_of_le ((sm _ (m8 hb)).2 i hi) (by decide)) λbs pb so l hl=> ?_⟩
  have Zk:f7 H' bs:=λb hb=>ok b (pb.mem_iff.mp hb)
  obtain⟨Zl,XM⟩:=Zk.same (az.up (o:= .lst (bs.map V.ref)) hl)
  refine q l bs _ ((λa o e=>(sD.trans (SD.of (az.up hl))) a o (λz=>by rw[z,hD]at e;cases e) (s1 _ _ (s0 _ _ e)))) ((show az H H' from λa o e=>sD a o (λz=>by rw[z,hD]at e;cases e) (s1 _ _ (s0 _ _ e))).none hl) (λb hb=>fr b (pb.mem_iff.mp hb)) ao Zl ?_ (by rw[XM];exact so) (by rw[pb.length_eq];exact al)
  rw[XM]
  exact R0.perm (Ku pb)
end
end CX
namespace L2
open PySem PySem.Spec PyProof.Rows
structure m9(H1:Hp)(D:Addr)(R:V->V->V->Hp->Prop)(xs ys:List V)(t:Nat)(vs:List V)(H':Hp):Prop where
 same:az H1 H'
 at':H' D=some (.lst vs)
 len:vs.length=t
 items:∀s v,vs[s]?=some v-> ∃x y,xs[s/ys.length]?=some x/\ys[s%ys.length]?=some y/\R x y v H'
theorem Ht{K:PySem.W.Frag}{p q:Addr}{xs ys:List V}{H1:Hp}{D:Addr}{te:TE}{σ:St}{Ji:TI}{Q:VK}(hp:aU K H1 p xs)(hq:aU K H1 q ys)(hD:H1 D=none)(hz:xs.length*ys.length<sizeLine)(R:V->V->V->Hp->Prop)
  (mono:∀x y v H H',R x y v H->(∀b o,b≠D->H b=some o->H' b=some o) ->R x y v H')
  (hw:∀(x:V)(o:Option V) H' (R':It->Hp->Prop),x∈xs->az H1 H'->R' (NJ K q) H'->Ji (some x::o::σ) H' R')
  (hs:∀x y,x∈xs->y∈ys-> ∀H' (Q':VK),az H1 H'->(∃o,H' D=some o) ->(∀v H2,az H' H2->R x y v H2->Q' v H2) ->te (some x::some y::σ) H' Q')
  (hq':∀vs H',m9 H1 D R xs ys (xs.length*ys.length) vs H'->Q (.ref D) H'):
  zJ 2 (dZ 0) JF (λD=>zI Ji (dZ 1) JF (JG te D)) σ (NJ K p) H1 D Q:=by
 refine⟨λi m σ' H'=>m=xs.length-i/\i<=xs.length/\(∃o o',σ'=o::o'::σ)/\ ∃vs,m9 H1 D R xs ys (i*ys.length) vs H',⟨xs.length,by simp,Nat.zero_le _,⟨none,none,rfl⟩,[],⟨az.up hD,ao,by simp,λs v h=>by simp at h⟩⟩,?_⟩
 rintro i m σ' H' ⟨rfl,hi,⟨o,o',rfl⟩,vs,G⟩
 have l9:=G.same.seq hp
 by_cases hlt:i<xs.length
 ·refine .inr ⟨⟨xs,xs[i],l9,by simp[hlt]⟩,λx H2 yl=> ?_⟩
  obtain⟨e,ex⟩:=yl
  subst e
  have ex:=ex xs l9
  have mx:x∈xs:=List.mem_of_getElem? ex
  show Ji (some x::o'::σ) H2 _
  refine hw x o' H2 _ mx G.same ?_
  refine⟨λj m' σ' H'=>m'=ys.length-j/\j<=ys.length/\(∃o',σ'=some x::o'::σ)/\ ∃vs,m9 H1 D R xs ys (i*ys.length+j) vs H',⟨ys.length,by simp,Nat.zero_le _,⟨o',rfl⟩,vs,G⟩,?_⟩
  rintro j m' σ' H' ⟨rfl,hj,⟨o2,rfl⟩,ws,G2⟩
  have hq2:=G2.same.seq hq
  by_cases Um:j<ys.length
  ·refine .inr ⟨⟨ys,ys[j],hq2,by simp[Um]⟩,λy H3 yl=> ?_⟩
   obtain⟨e,ey⟩:=yl
   subst e
   have ey:=ey ys hq2
   have my:y∈ys:=List.mem_of_getElem? ey
   show te (some x::some y::σ) H3 _
   refine hs x y mx my H3 _ G2.same ⟨_,G2.at'⟩ λv H4 s4 r=> ?_
   have Ms:i*ys.length+j<xs.length*ys.length:=by
    have:(i+1)*ys.length<=xs.length*ys.length:=Nat.mul_le_mul_right _ hlt
    rw[Nat.succ_mul]at this
    omega
   have e1:(i*ys.length+j)/ys.length=i:=by rw[Nat.add_comm,Nat.add_mul_div_right _ _ (by omega),Nat.div_eq_of_lt Um,Nat.zero_add]
   have e2:(i*ys.length+j)%ys.length=j:=by rw[Nat.add_comm,Nat.add_mul_mod_self_right,Nat.mod_eq_of_lt Um]
   have off:∀b o,b≠D->H3 b=some o->upd H4 D (.lst (ws++ [v])) b=some o:=λb o n h=>by rw[aG n];exact s4 _ _ h
   have VX:∀b o,b≠D->H4 b=some o->upd H4 D (.lst (ws++ [v])) b=some o:=λb o n h=>by rw[aG n];exact h
   refine⟨ws,s4 _ _ G2.at',by rw[G2.len];omega,ys.length- (j+1),by omega,rfl,Um,⟨_,rfl⟩,ws++ [v],⟨(G2.same.trans s4).upd hD,ao,by rw[List.length_append,G2.len];rfl,λs u hu=> ?_⟩⟩
   by_cases c:s<ws.length
   ·rw[List.getElem?_append_left c]at hu
    obtain⟨x',y',k1,k2,k3⟩:=G2.items s u hu
    exact⟨x',y',k1,k2,mono _ _ _ _ _ k3 off⟩
   ·have es:s=ws.length:=by
     have:=(List.getElem?_eq_some_iff.mp hu).1
     rw[List.length_append]at this
     simp at this
     omega
    subst es
    rw[List.getElem?_append_right (Nat.le_refl _)]at hu
    simp at hu
    subst hu
    rw[G2.len,e1,e2]
    exact⟨x,y,ex,ey,mono _ _ _ _ _ r VX⟩
  ·have ej:j=ys.length:=by omega
   subst ej
   refine .inl ⟨⟨ys,hq2,Nat.le_refl _⟩,xs.length- (i+1),by omega,rfl,hlt,⟨_,_,rfl⟩,ws,?_⟩
   rw[Nat.succ_mul]
   exact G2
 ·have e:i=xs.length:=by omega
  subst e
  exact .inl ⟨⟨xs,l9,Nat.le_refl _⟩,hq' vs H' G⟩
theorem m9.all{H1:Hp}{D:Addr}{R:V->V->V->Hp->Prop}{xs ys vs:List V}{H':Hp}(G:m9 H1 D R xs ys (xs.length*ys.length) vs H'){x y:V}(hx:x∈xs)(hy:y∈ys):∃v∈vs,R x y v H':=by
 obtain⟨i,hi,rfl⟩:=List.mem_iff_getElem.mp hx
 obtain⟨j,hj,rfl⟩:=List.mem_iff_getElem.mp hy
 have Ms:i*ys.length+j<vs.length:=by
  have:(i+1)*ys.length<=xs.length*ys.length:=Nat.mul_le_mul_right _ hi
  rw[Nat.succ_mul]at this
  rw[G.len]
  omega
 have e1:(i*ys.length+j)/ys.length=i:=by rw[Nat.add_comm,Nat.add_mul_div_right _ _ (by omega),Nat.div_eq_of_lt hj,Nat.zero_add]
 have e2:(i*ys.length+j)%ys.length=j:=by rw[Nat.add_comm,Nat.add_mul_mod_self_right,Nat.mod_eq_of_lt hj]
 obtain⟨x,y,k1,k2,k3⟩:=G.items (i*ys.length+j) vs[i*ys.length+j] (List.getElem?_eq_getElem Ms)
 rw[e1,List.getElem?_eq_getElem hi]at k1
 rw[e2,List.getElem?_eq_getElem hj]at k2
 cases k1
 cases k2
 exact⟨_,List.getElem_mem Ms,k3⟩
theorem m9.mem{H1:Hp}{D:Addr}{R:V->V->V->Hp->Prop}{xs ys vs:List V}{t:Nat}{H':Hp}(G:m9 H1 D R xs ys t vs H'){v:V}(hv:v∈vs):∃x∈xs,∃y∈ys,R x y v H':=by
 obtain⟨i,hi,rfl⟩:=List.mem_iff_getElem.mp hv
 obtain⟨x,y,k1,k2,k3⟩:=G.items i vs[i] (List.getElem?_eq_getElem hi)
 exact⟨x,List.mem_of_getElem? k1,y,List.mem_of_getElem? k2,k3⟩
end L2
namespace L2
open PySem PySem.Spec PyProof.Rows PySem.SeqAt
noncomputable def Ac:List Int->List Int->Bool
 |x::xs,y::ys=>if x=y then Ac xs ys else decide (x<y)
 |_,_=>false
noncomputable def gM(B:Int):List Int->Int
 | []=>0
 |x::xs=>x*B^xs.length+gM B xs
inductive tZ(B:Int):List Int->List Int->Prop
 |nil:tZ B [] []
 |cons{x y:Int}{xs ys:List Int}:x-y<=B-1/\y-x<=B-1->tZ B xs ys->tZ B (x::xs) (y::ys)
theorem tZ.len{B:Int}{xs ys:List Int}(h:tZ B xs ys):xs.length=ys.length:=by
 induction h with
 |nil=>rfl
 |cons _ _ ih=>simp[ih]
theorem Ca{B:Int}(hB:0<B){xs ys:List Int}(h:tZ B xs ys):gM B xs-gM B ys<=B^xs.length-1/\gM B ys-gM B xs<=B^xs.length-1:=by
 induction h with
 |nil=>simp[gM]
 | @cons x y xs ys d t ih=>
  have e:=t.len
  have p:0<B^xs.length:=Int.pow_pos hB
  have e1:B^(x::xs).length=B*B^xs.length:=by rw[List.length_cons,Int.pow_succ,Int.mul_comm]
  have d1:(x-y)*B^xs.length<=(B-1)*B^xs.length:=Int.mul_le_mul_of_nonneg_right d.1 (Int.le_of_lt p)
  have d2:(y-x)*B^xs.length<=(B-1)*B^xs.length:=Int.mul_le_mul_of_nonneg_right d.2 (Int.le_of_lt p)
  have e2:(B-1)*B^xs.length=B*B^xs.length-B^xs.length:=by rw[Int.sub_mul,Int.one_mul]
  have e3:(x-y)*B^xs.length=x*B^xs.length-y*B^xs.length:=Int.sub_mul ..
  have e4:(y-x)*B^xs.length=y*B^xs.length-x*B^xs.length:=Int.sub_mul ..
  rw[e1]
  show(x*B^xs.length+gM B xs) - (y*B^ys.length+gM B ys)<=_/\(y*B^ys.length+gM B ys) - (x*B^xs.length+gM B xs)<=_
  rw[<-e]
  (clear e1 p e d hB;omega)
theorem Cb{B:Int}(hB:0<B){xs ys:List Int}(h:tZ B xs ys):Ac xs ys=decide (gM B xs<gM B ys):=by
 induction h with
 |nil=>simp[Ac,gM]
 | @cons x y xs ys d t ih=>
  have e:=t.len
  have b:=Ca hB t
  have p:0<B^xs.length:=Int.pow_pos hB
  show(if x=y then Ac xs ys else decide (x<y))=decide (x*B^xs.length+gM B xs<y*B^ys.length+gM B ys)
  rw[<-e]
  by_cases c:x=y
  ·rw[if_pos c,ih,c]
   exact decide_eq_decide.mpr (by omega)
  ·rw[if_neg c]
   refine decide_eq_decide.mpr ?_
   have e3:(x-y)*B^xs.length=x*B^xs.length-y*B^xs.length:=Int.sub_mul ..
   have e4:(y-x)*B^xs.length=y*B^xs.length-x*B^xs.length:=Int.sub_mul ..
   rcases Int.lt_or_gt_of_ne c with l|l
   ·have:=Int.mul_le_mul_of_nonneg_right (show(1:Int)<=y-x by omega) (Int.le_of_lt p)
    omega
   ·have:=Int.mul_le_mul_of_nonneg_right (show(1:Int)<=x-y by omega) (Int.le_of_lt p)
    omega
noncomputable def Nj(H:Hp)(u:Addr):List Int:=match H u with
 |some (.tup [.int m,.ref a,.ref b])=>[m,aK (dP H a) 0,aK (dP H a) 1,aK (dP H a) 2,aK (dP H b) 0,aK (dP H b) 1,aK (dP H b) 2]
 |_=>[]
noncomputable def SY(H:Hp)(u:Addr):Prop:=∃m a b,H u=some (.tup [.int m,.ref a,.ref b])/\zR H a/\zR H b/\m.natAbs<2^1000/\lJ (dP H a)/\lJ (dP H b)
theorem VY{m m':Int}{a b a' b':List Int}(ha:a.length=3)(hb:b.length=3)(ha':a'.length=3)(hb':b'.length=3):
  pT [.int m,iQ a,iQ b] [.int m',iQ a',iQ b']=Ac [m,aK a 0,aK a 1,aK a 2,aK b 0,aK b 1,aK b 2] [m',aK a' 0,aK a' 1,aK a' 2,aK b' 0,aK b' 1,aK b' 2]:=by
 match a,ha,b,hb,a',ha',b',hb' with
 | [x,y,z],_,[p,q,r],_,[x',y',z'],_,[p',q',r'],_=>
  have e1:∀a b:Int,PyData.eqv (.int a) (.int b)=decide (a=b):=λa b=>rfl
  have Zm:∀r:List Int,iQ r= .list (r.map PyData.int):=λ_=>rfl
  show pT [.int m,iQ [x,y,z],iQ [p,q,r]] [.int m',iQ [x',y',z'],iQ [p',q',r']]=Ac [m,x,y,z,p,q,r] [m',x',y',z',p',q',r']
  unfold pT
  rw[e1]
  unfold pT
  rw[EW]
  unfold pT
  rw[EW]
  simp only[Zm,List.map_cons,List.map_nil,JM,pT,e1,Ac,List.cons.injEq,and_true]
  by_cases h0:m=m'<;>by_cases h1:x=x'<;>by_cases h2:y=y'<;>by_cases h3:z=z'<;>by_cases h4:p=p'<;>by_cases h5:q=q'<;>by_cases h6:r=r'<;>simp[h0,h1,h2,h3,h4,h5,h6]
theorem Oo{m m':Int}{a b a' b':List Int}(hm:m.natAbs<2^1000)(hm':m'.natAbs<2^1000)(ha:lJ a)(hb:lJ b)(ha':lJ a')(hb':lJ b'):
  tZ ir [m,aK a 0,aK a 1,aK a 2,aK b 0,aK b 1,aK b 2] [m',aK a' 0,aK a' 1,aK a' 2,aK b' 0,aK b' 1,aK b' 2]:=by
 refine .cons (eU hm hm') (.cons (eU (ha 0 (by decide)) (ha' 0 (by decide))) (.cons (eU (ha 1 (by decide)) (ha' 1 (by decide))) (.cons (eU (ha 2 (by decide)) (ha' 2 (by decide))) (.cons (eU (hb 0 (by decide)) (hb' 0 (by decide))) (.cons (eU (hb 1 (by decide)) (hb' 1 (by decide))) (.cons (eU (hb 2 (by decide)) (hb' 2 (by decide))) .nil))))))
theorem Ad{H:Hp}{u a b:Addr}{m:Int}(e:H u=some (.tup [.int m,.ref a,.ref b])):Nj H u=[m,aK (dP H a) 0,aK (dP H a) 1,aK (dP H a) 2,aK (dP H b) 0,aK (dP H b) 1,aK (dP H b) 2]:=by
 unfold Nj
 rw[e]
noncomputable def VZ(H:Hp)(u:Addr):PyData:=match H u with
 |some (.tup [.int m,.ref a,.ref b])=> .tuple [.int m,iQ (dP H a),iQ (dP H b)]
 |_=> .none
theorem DW{H:Hp}{u a b:Addr}{m:Int}(e:H u=some (.tup [.int m,.ref a,.ref b])):VZ H u= .tuple [.int m,iQ (dP H a),iQ (dP H b)]:=by
 unfold VZ
 rw[e]
theorem Cc{K:PySem.W.Frag}{H:Hp}{a:Addr}(h:zR H a):Ba K H (.ref a) (iQ (dP H a)):=by
 have e:=yC h.2
 have k:Ba K H (.ref a) (iQ [aK (dP H a) 0,aK (dP H a) 1,aK (dP H a) 2]):=PC (xs:=[aK (dP H a) 0,aK (dP H a) 1,aK (dP H a) 2]) (aU.of h.1)
 rw[<-e]at k
 exact k
theorem Nk(m:Int)(a b:List Int):shaped (.tuple [.int m,iQ a,iQ b])=true:=by
 have h2:∀r:List Int,PyData.depthAll (r.map PyData.int)<=0:=λr=>by
  induction r with
  |nil=>exact Nat.le_refl _
  |cons a r ih=>simp only[List.map_cons,PyData.depthAll,PyData.depth];omega
 have ha:=h2 a
 have hb:=h2 b
 simp only[SeqAt.shaped,PyData.canLay0,PyData.canLayAll0,PyData.depth,PyData.depthAll,nT,PySem.W.ke_canLayAll0,Bool.true_and,decide_eq_true_eq]
 exact decide_eq_true (show _<=64 by omega)
theorem DX{K:PySem.W.Frag}{H:Hp}{p:Addr}{us:List Addr}{Q:VK}(hp:aU K H p (us.map V.ref))(ok:∀u∈us,SY H u)
  (q:∀vs:List Addr,vs.Perm us->vs.Pairwise (λu v=>gM ir (Nj H u)<=gM ir (Nj H v)) -> ∀l,H l=none->Q (.ref l) (upd H l (.lst (vs.map V.ref)))):zO K [.ref p] H Q:=by
 refine⟨p,us,λu=>gM ir (Nj H u),VZ H,rfl,hp,λu hu=> ?_,.inr λu hu v hv=> ?_,λbs pb so l hl=>q bs pb so l hl⟩
 ·obtain⟨m,a,b,e,ra,rb,hm,sa,sb⟩:=ok u hu
  rw[DW e]
  exact⟨.tup (pI.of e) (.cons (.int m) (.cons (Cc ra) (.cons (Cc rb) .nil))),Nk _ _ _⟩
 ·obtain⟨m,a,b,e,ra,rb,hm,sa,sb⟩:=ok u hu
  obtain⟨m',a',b',e',ra',rb',hm',sa',sb'⟩:=ok v hv
  have cr:∀{x y:List Int},x.length=3->y.length=3->Bw (iQ x) (iQ y):=λ {x y} hx hy=>by
   rw[yC hx,yC hy]
   exact .lst (.cons (.int _ _) (.cons (.int _ _) (.cons (.int _ _) .nil)))
  refine⟨m,_,m',_,DW e,DW e',.cons (.int _ _) (.cons (cr ra.2 ra'.2) (.cons (cr rb.2 rb'.2) .nil)),?_⟩
  show _=decide (gM ir (Nj H u)<gM ir (Nj H v))
  rw[Ad e,Ad e',VY ra.2 rb.2 ra'.2 rb'.2,Cb kH (Oo hm hm' sa sb sa' sb')]
end L2
namespace L2
open PySem
noncomputable section
theorem Cd{B:Nat}{D p q x:Int}(D0:0<D)(h:D*(x*x)<=q)(hq:3*q<=16*D*p)(hp:16*p<3*(((B:Int)+1)*((B:Int)+1))): -(B:Int)<=x/\x<=B:=by
 have key:x.natAbs<=B:=by
  refine Classical.byContradiction λc=> ?_
  have h1:(B+1)*(B+1)<=x.natAbs*x.natAbs:=Nat.mul_le_mul (by(clear hp hq h D0;omega)) (by(clear hp hq h D0;omega))
  have e:=Int.natAbs_mul_self (a:=x)
  have h2:((B:Int)+1)*((B:Int)+1)<=x*x:=by
   rw[<-e]
   exact_mod_cast h1
  have h3:D*(((B:Int)+1)*((B:Int)+1))<=D*(x*x):=Int.mul_le_mul_of_nonneg_left h2 (Int.le_of_lt D0)
  have h4:D*(16*p)<D*(3*(((B:Int)+1)*((B:Int)+1))):=Int.mul_lt_mul_of_pos_left hp D0
  have e1:D*(16*p)=16*D*p:=by grind
  have e2:D*(3*(((B:Int)+1)*((B:Int)+1)))=3*(D*(((B:Int)+1)*((B:Int)+1))):=by grind
  (clear h2 e h1 c hp D0;omega)
 (clear hp hq h D0;omega)
theorem wg{N:List (List Int)}(h:gz N)(dD:aA N<=401){n:Int}(n0:0<=n)(hn:2*n<=ent N 1 1){L:List (List Int)}(R:fF N n L):L.length<=50:=by
 obtain⟨fl,D0,a2,yJ,z8,xG,f8,fa⟩:=eZ h dD
 have l1:=h.BC
 have l2:=h.Dw
 have few:=h.few
 obtain⟨HZ,Ql,QY⟩:=h.ev.sym
 have m1:iN N 1 1<=ent N 0 0*ent N 2 2:=by
  show ent N 2 2*ent N 0 0-ent N 2 0*ent N 0 2<=_
  rw[Ql,Int.mul_comm (ent N 2 2)];have:=bu (ent N 0 2);omega
 have m2:iN N 2 2<=ent N 0 0*ent N 1 1:=by
  show ent N 0 0*ent N 1 1-ent N 0 1*ent N 1 0<=_
  rw[HZ];have:=bu (ent N 0 1);omega
 have b1:∀v:Nat->Int,cI N v=n-> -2<=v 1/\v 1<=2:=λv e=>by
  have w:=yM h.ev h.xu h.ab e (i:=1) (by decide)
  refine Cd (B:=2) (p:=1) D0 w ?_ (by decide)
  have k1:2*n*iN N 1 1<=2*n*(ent N 0 0*ent N 2 2):=Int.mul_le_mul_of_nonneg_left m1 (by omega)
  have k2:2*n*(ent N 0 0*ent N 2 2)<=ent N 1 1*(ent N 0 0*ent N 2 2):=Int.mul_le_mul_of_nonneg_right hn (Int.mul_nonneg (by omega) (by omega))
  have k3:ent N 1 1*(ent N 0 0*ent N 2 2)=ent N 0 0*ent N 1 1*ent N 2 2:=by grind
  omega
 have b2:∀v:Nat->Int,cI N v=n-> -2<=v 2/\v 2<=2:=λv e=>by
  have w:=yM h.ev h.xu h.ab e (i:=2) (by decide)
  refine Cd (B:=2) (p:=1) D0 w ?_ (by decide)
  have k1:2*n*iN N 2 2<=2*n*(ent N 0 0*ent N 1 1):=Int.mul_le_mul_of_nonneg_left m2 (by omega)
  have k2:2*n*(ent N 0 0*ent N 1 1)<=ent N 2 2*(ent N 0 0*ent N 1 1):=Int.mul_le_mul_of_nonneg_right (by omega) (Int.mul_nonneg (by omega) (by omega))
  have k3:ent N 2 2*(ent N 0 0*ent N 1 1)=ent N 0 0*ent N 1 1*ent N 2 2:=by grind
  omega
 have:=Kv h.ev h.pos (show(0:Int)<=2 by decide) (show(0:Int)<=2 by decide) b1 b2 R
 exact Nat.le_trans this (by decide)
theorem oB:∀{vs:List V},(∀v∈vs,∃u,v=V.ref u) -> ∃us:List Addr,vs=us.map V.ref
 | [],_=>⟨[],rfl⟩
 |v::vs,h=>by
  obtain⟨u,rfl⟩:=h v List.mem_cons_self
  obtain⟨us,rfl⟩:=oB (vs:=vs) λw hw=>h w (List.mem_cons_of_mem _ hw)
  exact⟨u::us,rfl⟩
theorem yO{xs:List V}{k:Nat}(h:k<=xs.length):vh xs none (some (k:Int))=xs.take k:=by
 have e1:HT.zj xs.length 0 none=0:=rfl
 have e2:HT.zj xs.length xs.length (some (k:Int))=k:=by
  show(if(k:Int)<0 then((k:Int)+(xs.length:Int)).toNat else min (k:Int).toNat xs.length)=k
  rw[if_neg (by omega),Int.toNat_natCast]
  omega
 unfold vh
 rw[e1,e2,List.drop_zero,Nat.sub_zero]
theorem tN{σ:St}{H:Hp}{Q:List V->Hp->Prop}(h:Q [] H):j4 σ H Q:=h
end
end L2
namespace L2
open PySem PySem.Spec PyProof.Rows
theorem Kw{A B P s r:Int}(A0:0<A)(D0:0<=A*B-P*P):0<=A*(s*s)+2*(P*(s*r))+B*(r*r):=by
 refine Classical.byContradiction λc=> ?_
 have k:A*(A*(s*s)+2*(P*(s*r))+B*(r*r))<0:=Int.mul_neg_of_pos_of_neg A0 (by omega)
 have e:A*(A*(s*s)+2*(P*(s*r))+B*(r*r))=(A*s+P*r)*(A*s+P*r)+(A*B-P*P)*(r*r):=by grind
 have k1:=bu (A*s+P*r)
 have k2:=Int.mul_nonneg D0 (bu r)
 omega
theorem gz.zS{N:List (List Int)}(h:gz N):0<ent N 0 0*ent N 1 1-ent N 0 1*ent N 0 1:=by
 have a0:=h.pos
 have le:=h.BC
 have s:=lZ h.p.1 h.p.2
 have e:2*ent N 0 1*(2*ent N 0 1)=4*(ent N 0 1*ent N 0 1):=by grind
 have k1:=Int.mul_le_mul_of_nonneg_left le (Int.le_of_lt a0)
 have k2:=Int.mul_pos a0 a0
 omega
theorem Hu{N:List (List Int)}(h:gz N)(v:Nat->Int):aA N*(v 2*v 2)<=(ent N 0 0*ent N 1 1-ent N 0 1*ent N 0 1)*aQ N v:=by
 have g:=rN h.ev (yu 0 1) (yu 1 1) v
 have A:=h.zS
 have AF:ay N (yu 0 1) (yu 1 1)=ent N 0 1:=by rw[aV];unfold yu;simp
 have dd:bQ (yu 0 1) (yu 1 1) v=v 2:=by unfold bQ yu;simp
 have ea:av N (yu 0 1) (yu 1 1)=ent N 0 0*ent N 1 1-ent N 0 1*ent N 0 1:=by
  unfold av
  rw[vN N (by decide),vN N (by decide),AF]
 rw[ea,dd,AF,vN N (by decide),vN N (by decide)]at g
 have q:=Kw (s:=bK N (yu 0 1) (yu 1 1) v) (r:=bL N (yu 0 1) (yu 1 1) v) h.pos (Int.le_of_lt A)
 refine Int.le_of_mul_le_mul_left (a:=ent N 0 0*ent N 1 1-ent N 0 1*ent N 0 1) ?_ A
 rw[g]
 omega
theorem FL(m:List (List Int))(v:Nat->Int):aQ m (λi=> -v i)=aQ m v:=by
 show ay m _ _=ay m _ _
 rw[aV,aV]
 grind
theorem Nl{z:Int}(h:2<=z∨z<= -2):4<=z*z:=by
 rcases h with h|h
 ·exact Int.mul_le_mul h h (by decide) (by omega)
 ·have:2*2<=(-z)*(-z):=Int.mul_le_mul (by omega) (by omega) (by decide) (by omega)
  have e: -z* -z=z*z:=by grind
  omega
theorem sJ{z:Int}(h:z≠0):1<=z*z:=by
 rcases Int.lt_or_gt_of_ne h with h|h
 ·have:1*1<=(-z)*(-z):=Int.mul_le_mul (by omega) (by omega) (by decide) (by omega)
  have e: -z* -z=z*z:=by grind
  omega
 ·exact Int.mul_le_mul (by omega:(1:Int)<=z) (by omega:(1:Int)<=z) (by decide) (by omega)
theorem oV{N:List (List Int)}(h:gz N){v:Nat->Int}(hv:v 2≠0):ent N 2 2<=aQ N v:=by
 by_cases c1:v 2=1
 ·exact h.QS v c1
 by_cases c2:v 2= -1
 ·rw[<-FL N v]
  exact h.QS _ (show-v 2=1 by omega)
 have A:=h.zS
 have hi:=Hu h v
 have k4:=Nl (z:=v 2) (by(clear hi A;omega))
 have hg:=h.hgt
 have l1:=h.BC
 have l2:=h.Dw
 have D0:=(gH h.ab).2.2
 have k5:=Int.mul_le_mul_of_nonneg_left k4 (Int.le_of_lt D0)
 refine Int.le_of_mul_le_mul_left (a:=ent N 0 0*ent N 1 1-ent N 0 1*ent N 0 1) ?_ A
 have k6:=Int.mul_le_mul_of_nonneg_left l2 (Int.le_of_lt A)
 omega
theorem sM{N:List (List Int)}(h:gz N){v:Nat->Int}(hv:v 1≠0∨v 2≠0):ent N 1 1<=aQ N v:=by
 by_cases c2:v 2=0
 ·have c1:v 1≠0:=hv.resolve_right (λz=>z c2)
  have a0:=h.pos
  have l1:=h.BC
  obtain⟨p1,p2⟩:=h.p
  have e:aQ N v=ent N 0 0*(v 0*v 0)+2*(ent N 0 1*(v 0*v 1))+ent N 1 1*(v 1*v 1):=by
   show ay N v v=_
   rw[aV,c2,(h.ev.sym).1]
   grind
  rw[e]
  generalize ent N 0 0=a,ent N 1 1=b,ent N 0 1=p,v 0=x,v 1=y at *
  have y1:=sJ c1
  have key:∀X Y:Int,0<=X->0<Y->a*(X*X) -a*(X*Y)+b*(Y*Y)≥b:=λX Y hX hY=>by
   have Y1:1<=Y*Y:=sJ (by omega)
   rcases Int.le_total Y X with w|w
   ·have k1:=Int.mul_nonneg (Int.le_of_lt a0) (Int.mul_nonneg hX (show 0<=X-Y by omega))
    have k2:=Int.mul_le_mul_of_nonneg_left Y1 (show 0<=b by omega)
    have e2:a*(X*(X-Y))=a*(X*X) -a*(X*Y):=by grind
    omega
   ·have k1:=Int.mul_nonneg (show 0<=b-a by omega) (Int.mul_nonneg hX (show 0<=Y-X by omega))
    have k2:1<=Y*Y-X*Y+X*X:=by
     have k3:=Int.mul_nonneg (show 0<=Y by omega) (show 0<=Y-X by omega)
     rcases Int.le_iff_lt_or_eq.mp hX with z|z
     ·have:=Int.mul_pos z z
      have e3:Y*(Y-X)=Y*Y-X*Y:=by grind
      omega
     ·subst z
      simp
      omega
    have k3:=Int.mul_le_mul_of_nonneg_left k2 (show 0<=b by omega)
    have e2:(b-a)*(X*(Y-X))=b*(X*Y) -b*(X*X) -a*(X*Y)+a*(X*X):=by grind
    have e3:b*(Y*Y-X*Y+X*X)=b*(Y*Y) -b*(X*Y)+b*(X*X):=by grind
    (clear k2 w Y1 hY hX y1 e p2 p1 l1 a0 c1 hv c2;omega)
  have go:∀X Y:Int,0<=X->0<Y-> ∀q:Int,-a<=2*q->a*(X*X)+2*(q*(X*Y))+b*(Y*Y)≥b:=λX Y hX hY q hq=>by
   have k:=key X Y hX hY
   have k1:=Int.mul_nonneg (show 0<=2*q+a by omega) (Int.mul_nonneg hX (Int.le_of_lt hY))
   have e2:(2*q+a)*(X*Y)=2*(q*(X*Y))+a*(X*Y):=by grind
   (clear hq hY hX key y1 e p2 p1 l1 a0 c1 hv c2;omega)
  rcases Int.le_total 0 x with hx|hx<;>rcases Int.lt_or_gt_of_ne c1 with hy|hy
  ·have:=go x (-y) hx (by omega) (-p) (by omega)
   have e2: -p*(x* -y)=p*(x*y):=by grind
   have e3: -y* -y=y*y:=by grind
   rw[e2,e3]at this
   exact this
  ·exact go x y hx hy p p1
  ·have:=go (-x) (-y) (by omega) (by omega) p p1
   have e2: -x* -y=x*y:=by grind
   have e3: -y* -y=y*y:=by grind
   have e4: -x* -x=x*x:=by grind
   rw[e2,e3,e4]at this
   exact this
  ·have:=go (-x) y (by omega) hy (-p) (by omega)
   have e2: -p*(-x*y)=p*(x*y):=by grind
   have e4: -x* -x=x*x:=by grind
   rw[e2,e4]at this
   exact this
 ·exact Int.le_trans h.Dw (oV h c2)
theorem Hv{N:List (List Int)}(h:gz N){v:Nat->Int}(hv:v 0≠0∨v 1≠0∨v 2≠0):ent N 0 0<=aQ N v:=by
 by_cases c:v 1≠0∨v 2≠0
 ·exact Int.le_trans h.BC (sM h c)
 ·have c1:v 1=0:=by omega
  have c2:v 2=0:=by omega
  have c0:v 0≠0:=by omega
  have e:aQ N v=ent N 0 0*(v 0*v 0):=by
   show ay N v v=_
   rw[aV,c1,c2]
   grind
  rw[e]
  have:=Int.mul_le_mul_of_nonneg_left (sJ c0) (Int.le_of_lt h.pos)
  omega
end L2
namespace L2
open PySem
noncomputable section
noncomputable def Ce(r:List Int):List Int:=r.map λx=> -x
theorem Kx{r:List Int}(h:r.length=3):qe (Ce r)= -qe r:=by
 match r,h with
 | [x,y,z],_=>
  show-x*(ir*ir)+ -y*ir+ -z= -(x*(ir*ir)+y*ir+z)
  rw[Int.neg_mul,Int.neg_mul]
  omega
theorem Nm{m:List (List Int)}{n:Int}{L:List (List Int)}(h:fF m n L){r:List Int}(hr:r∈L):Ce r∈L:=by
 obtain⟨v,rfl⟩:=h.2.1 r hr
 have e:=(h.2.2 v).mp hr
 have neg:cI m (λi=> -v i)=cI m v:=by
  unfold cI
  rw[aV,aV]
  congr 1
  grind
 exact(h.2.2 λi=> -v i).mpr (neg.trans e)
theorem qg{m:List (List Int)}{n:Int}{L:List (List Int)}(h:fF m n L)(so:L.Pairwise λr s=>qe r<=qe s){r:List Int}(hr:r∈L)(neg:qe r<0):r∈L.take (L.length/2):=by
 obtain⟨i,hi,rfl⟩:=List.mem_iff_getElem.mp hr
 have l3:∀r∈L,r.length=3:=λr hr=>by obtain⟨v,rfl⟩:=h.2.1 r hr;rfl
 refine Classical.byContradiction λc=> ?_
 have ci:L.length/2<=i:=by
  refine Nat.le_of_not_lt λz=>c ?_
  have:L[i]=(L.take (L.length/2))[i]'(by rw[List.length_take];omega):=by simp
  rw[this]
  exact List.getElem_mem _
 have low:∀s∈L.take (i+1),qe s<0:=λs hs=>by
  obtain⟨j,hj,rfl⟩:=List.mem_iff_getElem.mp hs
  rw[List.length_take]at hj
  rw[List.getElem_take]
  rcases Nat.lt_or_ge j i with z|z
  ·have:=List.pairwise_iff_getElem.mp so j i (by omega) hi z
   omega
  ·have:j=i:=by omega
   subst this
   exact neg
 have sub:∀s∈L.take (i+1)++(L.take (i+1)).map Ce,s∈L:=λs hs=>by
  rcases List.mem_append.mp hs with z|z
  ·exact List.mem_of_mem_take z
  ·obtain⟨t,ht,rfl⟩:=List.mem_map.mp z
   exact Nm h (List.mem_of_mem_take ht)
 have nd:(L.take (i+1)++(L.take (i+1)).map Ce).Nodup:=by
  have n1:(L.take (i+1)).Nodup:=h.1.sublist (List.take_sublist _ _)
  refine List.nodup_append.mpr ⟨n1,nodup_map_on n1 λa ha b hb e=> ?_,λa ha b hb e=> ?_⟩
  ·have nn:∀r:List Int,Ce (Ce r)=r:=λr=>by simp[Ce,Function.comp_def]
   have:=congrArg Ce e
   rwa [nn,nn]at this
  ·obtain⟨t,ht,rfl⟩:=List.mem_map.mp hb
   have k1:=low a ha
   have k2:=low t ht
   rw[e,Kx (l3 t (List.mem_of_mem_take ht))]at k1
   omega
 have le:=length_le_of_subset nd sub
 rw[List.length_append,List.length_map,List.length_take]at le
 omega
theorem Ae{m:List (List Int)}(i:Nat)(hi:i<3):cI m (λj=>if j=i then 1 else 0)=ent m i i/2/\cI m (λj=>if j=i then-1 else 0)=ent m i i/2:=by
 unfold cI
 rw[aV,aV]
 rcases aN hi with rfl|rfl|rfl<;>simp
theorem Ky{m:List (List Int)}{L0 L1 L2:List (List Int)}(h0:fF m (ent m 0 0/2) L0)(so:L0.Pairwise λr s=>qe r<=qe s)(h1:fF m (ent m 1 1/2) L1)(h2:fF m (ent m 2 2/2) L2): [-1,0,0]∈L0.take (L0.length/2)/\ [0,1,0]∈L1/\ [0,0,1]∈L2:=by
 refine⟨qg h0 so ((h0.2.2 λj=>if j=0 then-1 else 0).mpr (Ae 0 (by decide)).2) ?_,(h1.2.2 λj=>if j=1 then 1 else 0).mpr (Ae 1 (by decide)).1,(h2.2.2 λj=>if j=2 then 1 else 0).mpr (Ae 2 (by decide)).1⟩
 show(-1:Int)*(ir*ir)+0*ir+0<0
 have:=Int.mul_pos kH kH
 omega
theorem Nn{z:Int}(h:RN (.int z) [V.int 1,.int (-1)]=true):z=1∨z= -1:=by
 simp[RN,LZ]at h
 exact h.imp Eq.symm Eq.symm
end
end L2
namespace L2
open PySem PySem.Spec PyProof.Rows
noncomputable def xr(m x y m' x' y':Int):Prop:=m<m'∨(m=m'/\(x<x'∨(x=x'/\y<=y')))
noncomputable def Tc(A B:List (List Int)):Prop:=ent A 0 0<ent B 0 0∨(ent A 0 0=ent B 0 0/\(ent A 1 1<ent B 1 1∨(ent A 1 1=ent B 1 1/\(ent A 2 2<ent B 2 2∨(ent A 2 2=ent B 2 2/\xr (ent A 0 1) (ent A 0 2) (ent A 1 2) (ent B 0 1) (ent B 0 2) (ent B 1 2))))))
structure dO(m M:List (List Int)):Prop where
 LK:∃B,bE B/\cV (aA B)/\M=br m B
 le:∀B,bE B->cV (aA B) ->Tc M (br m B)
theorem oW(m b:List (List Int)):bE (br m b):=(show bE (gu (gu b m) (dH b))from cP _)
theorem yP{a b:List (List Int)}(ha:cV (aA a))(hb:cV (aA b)):cV (aA (gu a b)):=by
 rw[lW]
 rcases ha with a|a<;>rcases hb with b|b<;>rw[a,b]
 ·exact .inl rfl
 ·exact .inr rfl
 ·exact .inr rfl
 ·exact .inl rfl
theorem wj{b:List (List Int)}(hb:cV (aA b)):cV (aA (yr b)):=by
 have e:=congrArg aA (yt hb)
 rw[lW,show aA (gU 1)=1 from rfl]at e
 rcases hb with h|h<;>rw[h]at e
 ·exact .inl (by omega)
 ·exact .inr (by omega)
theorem yQ(a b:List (List Int)):bE (gu a b):=cP _
theorem dO.from{m B M:List (List Int)}(c:bE m)(hB:cV (aA B))(h:dO (br m B) M):dO m M:=by
 obtain⟨⟨C,cC,uC,e⟩,le⟩:=h
 refine⟨⟨gu C B,yQ _ _,yP uC hB,by rw[e,oN]⟩,λD cD uD=> ?_⟩
 have k:=le (gu D (yr B)) (yQ _ _) (yP uD (wj hB))
 rw[<-oN,Bl c hB]at k
 exact k
theorem dO.to{m B M:List (List Int)}(c:bE m)(hB:cV (aA B))(h:dO m M):dO (br m B) M:=by
 refine dO.from (B:=yr B) (oW _ _) (wj hB) ?_
 rw[Bl c hB]
 exact h
theorem dO.xu{m M:List (List Int)}(h:dO m M):bE M:=by obtain⟨⟨B,_,_,e⟩,_⟩:=h;rw[e];exact oW _ _
theorem dO.Sk{m M:List (List Int)}(ev:bJ m)(c:bE m)(h:dO m M):bJ M:=by obtain⟨⟨B,cB,_,e⟩,_⟩:=h;rw[e];exact rB ev c cB
theorem dO.self{m M:List (List Int)}(c:bE m)(h:dO m M):dO M M:=by
 obtain⟨B,cB,uB,e⟩:=h.LK
 have:=h.to c uB
 rwa [<-e]at this
structure Kz(N S:List (List Int)):Prop where
 xu:bE S
 un:cV (aA S)
 dg:∀i,i<3->ent (br N S) i i=ent N i i
 le:∀T,bE T->cV (aA T) ->(∀i,i<3->ent (br N T) i i=ent N i i) ->xr (ent (br N S) 0 1) (ent (br N S) 0 2) (ent (br N S) 1 2) (ent (br N T) 0 1) (ent (br N T) 0 2) (ent (br N T) 1 2)
theorem Hw{N U:List (List Int)}(h:gz N)(uU:cV (aA U)):
  (∀i,i<3->ent N 0 0<=ent (br N U) i i)/\(ent N 1 1<=ent (br N U) 0 0∨ent N 1 1<=ent (br N U) 1 1)/\(ent N 1 1<=ent (br N U) 0 0∨ent N 1 1<=ent (br N U) 2 2)/\(ent N 1 1<=ent (br N U) 1 1∨ent N 1 1<=ent (br N U) 2 2)/\(ent N 2 2<=ent (br N U) 0 0∨ent N 2 2<=ent (br N U) 1 1∨ent N 2 2<=ent (br N U) 2 2):=by
 have e:∀i,i<3->ent (br N U) i i=aQ N (λk=>ent U i k):=λi hi=>kg N U hi hi
 have d0:aA U≠0:=by rcases uU with z|z<;>rw[z]<;>decide
 rw[dI]at d0
 have pair:∀i j,i<3->j<3->i≠j-> ¬(ent U i 1=0/\ent U i 2=0/\ent U j 1=0/\ent U j 2=0):=λi j hi hj ne z=>by
  refine d0 ?_
  obtain⟨z1,z2,z3,z4⟩:=z
  rcases aN hi with rfl|rfl|rfl<;>rcases aN hj with rfl|rfl|rfl<;>first|exact absurd rfl ne|(rw[z1,z2,z3,z4];simp)
 have two:∀i j,i<3->j<3->i≠j->ent N 1 1<=ent (br N U) i i∨ent N 1 1<=ent (br N U) j j:=λi j hi hj ne=>by
  have:=pair i j hi hj ne
  rw[e i hi,e j hj]
  by_cases c:ent U i 1≠0∨ent U i 2≠0
  ·exact .inl (sM h c)
  ·exact .inr (sM h (show ent U j 1≠0∨ent U j 2≠0 by omega))
 refine⟨λi hi=> ?_,two 0 1 (by decide) (by decide) (by decide),two 0 2 (by decide) (by decide) (by decide),two 1 2 (by decide) (by decide) (by decide),?_⟩
 ·rw[e i hi]
  refine Hv h (Classical.byContradiction λc=>d0 ?_)
  have c0:ent U i 0=0:=by omega
  have c1:ent U i 1=0:=by omega
  have c2:ent U i 2=0:=by omega
  rcases aN hi with rfl|rfl|rfl<;>rw[c0,c1,c2]<;>simp
 ·rw[e 0 (by decide),e 1 (by decide),e 2 (by decide)]
  by_cases c0:ent U 0 2≠0
  ·exact .inl (oV h c0)
  by_cases c1:ent U 1 2≠0
  ·exact .inr (.inl (oV h c1))
  by_cases c2:ent U 2 2≠0
  ·exact .inr (.inr (oV h c2))
  refine absurd ?_ d0
  rw[show ent U 0 2=0 by omega,show ent U 1 2=0 by omega,show ent U 2 2=0 by omega]
  simp
theorem KA{N S:List (List Int)}(h:gz N)(b:Kz N S):dO N (br N S):=by
 refine⟨⟨S,b.xu,b.un,rfl⟩,λU cU uU=> ?_⟩
 obtain⟨k1,k2,k3,k4,k5⟩:=Hw h uU
 have l1:=h.BC
 have l2:=h.Dw
 have d0:=b.dg 0 (by decide)
 have d1:=b.dg 1 (by decide)
 have d2:=b.dg 2 (by decide)
 have q0:=k1 0 (by decide)
 have q1:=k1 1 (by decide)
 have q2:=k1 2 (by decide)
 unfold Tc
 by_cases c:ent (br N U) 0 0=ent N 0 0/\ent (br N U) 1 1=ent N 1 1/\ent (br N U) 2 2=ent N 2 2
 ·obtain⟨c0,c1,c2⟩:=c
  refine .inr ⟨by omega,.inr ⟨by omega,.inr ⟨by omega,b.le U cU uU λi hi=> ?_⟩⟩⟩
  rcases aN hi with rfl|rfl|rfl
  ·exact c0
  ·exact c1
  ·exact c2
 ·omega
theorem KC{N:List (List Int)}(h:gz N)(dD:aA N<=401){L0 L1 L2:List (List Int)}(h0:fF N (ent N 0 0/2) L0)(so:L0.Pairwise λr s=>qe r<=qe s)(h1:fF N (ent N 1 1/2) L1)(h2:fF N (ent N 2 2/2) L2){m x y:Int}
  (best:∀a b c,a∈L0.take (L0.length/2) ->b∈L1->c∈L2->cV (aA [a,b,c]) ->xr m x y (ay N (aK a) (aK b)) (ay N (aK a) (aK c)) (ay N (aK b) (aK c))):
  ∀T,bE T->cV (aA T) ->(∀i,i<3->ent (br N T) i i=ent N i i) ->xr m x y (ent (br N T) 0 1) (ent (br N T) 0 2) (ent (br N T) 1 2):=λT cT uT dg=>by
 obtain⟨fl,D0,a2,yJ,z8,xG,f8,fa⟩:=eZ h dD
 have l1:=h.BC
 have l2:=h.Dw
 have e:∀i j,i<3->j<3->ent (br N T) i j=ay N (λk=>ent T i k) (λk=>ent T j k):=λi j hi hj=>kg N T hi hj
 have hf:∀i,i<3->cI N (λk=>ent T i k)=ent N i i/2:=λi hi=>by
  unfold cI
  rw[<-e i i hi hi,dg i hi]
 have hn:∀i,i<3->cI N (λk=> -ent T i k)=ent N i i/2:=λi hi=>by
  unfold cI
  rw[show ay N (λk=> -ent T i k) (λk=> -ent T i k)=_ from FL N λk=>ent T i k,show aQ N (λk=>ent T i k)=_ from(e i i hi hi).symm,dg i hi]
 have d0:aA T≠0:=by rcases uT with z|z<;>rw[z]<;>decide
 have dT:=dI T
 by_cases c:qe [ent T 0 0,ent T 0 1,ent T 0 2]<0
 ·have m0:=qg h0 so ((h0.2.2 λk=>ent T 0 k).mpr (hf 0 (by decide))) c
  have m1:=(h1.2.2 λk=>ent T 1 k).mpr (hf 1 (by decide))
  have m2:=(h2.2.2 λk=>ent T 2 k).mpr (hf 2 (by decide))
  have k:=best _ _ _ m0 m1 m2 uT
  rw[e 0 1 (by decide) (by decide),e 0 2 (by decide) (by decide),e 1 2 (by decide) (by decide)]
  have r:∀i,i<3-> ∀k,k<3->aK [ent T i 0,ent T i 1,ent T i 2] k=ent T i k:=λi hi k hk=>by rcases aN hk with rfl|rfl|rfl<;>rfl
  rw[d7 (r 0 (by decide)) (r 1 (by decide)),d7 (r 0 (by decide)) (r 2 (by decide)),d7 (r 1 (by decide)) (r 2 (by decide))]at k
  exact k
 ·have sm:∀i,i<3->(aK [ent T 0 0,ent T 0 1,ent T 0 2] i).natAbs<2^1000:=λi hi=>by
   have:=tY h dD (show 0<=ent N 0 0/2 by omega) (by omega) (hf 0 (by decide)) i hi
   refine Nat.lt_of_lt_of_le ?_ (Nat.pow_le_pow_right (by decide) (show 60<=1000 by decide))
   rcases aN hi with rfl|rfl|rfl<;>exact this
  have ne:qe [ent T 0 0,ent T 0 1,ent T 0 2]≠0:=λz=>d0 (by
   have: [ent T 0 0,ent T 0 1,ent T 0 2]=[0,0,0]:=Ng rfl rfl sm (λi hi=>by rcases aN hi with rfl|rfl|rfl<;>exact Nat.lt_of_lt_of_le (show 0<1 by decide) Nat.one_le_two_pow) (by rw[z];show(0:Int)=0*_+0*_+0;omega)
   injection this with z0 this
   injection this with z1 this
   injection this with z2 _
   rw[dT,z0,z1,z2]
   omega)
  have m0:=qg h0 so (r:=[-ent T 0 0,-ent T 0 1,-ent T 0 2]) ((h0.2.2 λk=> -ent T 0 k).mpr (hn 0 (by decide))) (by
   have:qe [-ent T 0 0,-ent T 0 1,-ent T 0 2]= -qe [ent T 0 0,ent T 0 1,ent T 0 2]:=Kx (r:=[ent T 0 0,ent T 0 1,ent T 0 2]) rfl
   omega)
  have m1:=(h1.2.2 λk=> -ent T 1 k).mpr (hn 1 (by decide))
  have m2:=(h2.2.2 λk=> -ent T 2 k).mpr (hn 2 (by decide))
  have dn:aA [[-ent T 0 0,-ent T 0 1,-ent T 0 2],[-ent T 1 0,-ent T 1 1,-ent T 1 2],[-ent T 2 0,-ent T 2 1,-ent T 2 2]]= -aA T:=by
   rw[dT]
   show-ent T 0 0*(-ent T 1 1* -ent T 2 2- -ent T 1 2* -ent T 2 1)+ -ent T 0 1*(-ent T 1 2* -ent T 2 0- -ent T 1 0* -ent T 2 2)+ -ent T 0 2*(-ent T 1 0* -ent T 2 1- -ent T 1 1* -ent T 2 0)=_
   grind
  have un:cV (-aA T):=by
   rcases uT with z|z<;>rw[z]
   ·exact .inr rfl
   ·exact .inl rfl
  have k:=best _ _ _ m0 m1 m2 (by rw[dn];exact un)
  rw[e 0 1 (by decide) (by decide),e 0 2 (by decide) (by decide),e 1 2 (by decide) (by decide)]
  have r:∀i,i<3-> ∀k,k<3->aK [-ent T i 0,-ent T i 1,-ent T i 2] k= -ent T i k:=λi hi k hk=>by rcases aN hk with rfl|rfl|rfl<;>rfl
  have pn:∀x y:Nat->Int,ay N (λk=> -x k) (λk=> -y k)=ay N x y:=λx y=>by
   rw[aV,aV]
   grind
  rw[d7 (r 0 (by decide)) (r 1 (by decide)),d7 (r 0 (by decide)) (r 2 (by decide)),d7 (r 1 (by decide)) (r 2 (by decide)),pn,pn,pn]at k
  exact k
theorem KD(m x y m' x' y':Int):HT.lexLt [m,x,y] [m',x',y']=true↔ ¬xr m' x' y' m x y:=by
 unfold xr
 rw[HT.mq]
 split
 ·rw[HT.mq]
  split
  ·rw[HT.mq]
   split
   ·rw[HT.pD]
    simp
    omega
   ·simp
    omega
  ·simp
   omega
 ·simp
  omega
end L2
namespace L2
open PySem
noncomputable section
theorem DY{N:List (List Int)}(v:Nat->Int):cI N (aK [v 0,v 1,v 2])=cI N v:=BZ ⟨rfl,rfl,rfl⟩
end
end L2
namespace L2
open PySem PySem.Spec PyProof.Rows
noncomputable def gS(N S:List (List Int))(i j:Nat):Int:=ay N (aK (S.getD i [])) (aK (S.getD j []))
theorem Af(N S:List (List Int)){i j:Nat}(hi:i<3)(hj:j<3):gS N S i j=ent (br N S) i j:=(kg N S hi hj).symm
theorem Hx{N:List (List Int)}(ev:bJ N){i:Nat}(hi:i<3):2*(ent N i i/2)=ent N i i:=by
 obtain⟨_,a,b,c,ea,eb,ec⟩:=ev
 rcases aN hi with rfl|rfl|rfl<;>omega
theorem wk{N:List (List Int)}(ev:bJ N){i:Nat}(hi:i<3){L:List (List Int)}(R:fF N (ent N i i/2) L){r:List Int}(hr:r∈L):ay N (aK r) (aK r)=ent N i i:=by
 obtain⟨v,rfl⟩:=R.2.1 r hr
 have e:=(R.2.2 v).mp hr
 rw[<-Hx ev hi,<-e,fP ev,DY]
noncomputable def fM(N:List (List Int))(W:List (List Int) ->Prop)(H:Hp)(bv tv:V):Prop:=
 (bv= .gK/\tv= .gK/\ ∀T,W T-> ¬cV (aA T))∨
 ∃ob S,bv= .ref ob/\H ob=some (.tup [.int (gS N S 0 1),.int (gS N S 0 2),.int (gS N S 1 2)])/\ ∃ot rs,tv= .ref ot/\Tab H ot rs S/\bE S/\cV (aA S)/\Bd 60 S/\(∀i,i<3->gS N S i i=ent N i i)/\
  ∀T,W T->cV (aA T) ->xr (gS N S 0 1) (gS N S 0 2) (gS N S 1 2) (gS N T 0 1) (gS N T 0 2) (gS N T 1 2)
theorem fM.same{N:List (List Int)}{W:List (List Int) ->Prop}{H H':Hp}{bv tv:V}(h:fM N W H bv tv)(s:az H H'):fM N W H' bv tv:=by
 rcases h with h|⟨ob,S,e,eb,ot,rs,e2,T,k⟩
 ·exact .inl h
 ·exact .inr ⟨ob,S,e,s _ _ eb,ot,rs,e2,T.same s,k⟩
theorem fM.mono{N:List (List Int)}{W W':List (List Int) ->Prop}{H:Hp}{bv tv:V}(h:fM N W H bv tv)(w:∀T,W' T->W T):fM N W' H bv tv:=by
 rcases h with⟨a,b,c⟩|⟨ob,S,e,eb,ot,rs,e2,T,c,u,bd,dg,le⟩
 ·exact .inl ⟨a,b,λT hT=>c T (w T hT)⟩
 ·exact .inr ⟨ob,S,e,eb,ot,rs,e2,T,c,u,bd,dg,λT hT=>le T (w T hT)⟩
theorem fM.skip{N:List (List Int)}{W W':List (List Int) ->Prop}{H:Hp}{bv tv:V}(h:fM N W H bv tv)(w:∀T,W' T->W T∨ ¬cV (aA T)):fM N W' H bv tv:=by
 rcases h with⟨a,b,c⟩|⟨ob,S,e,eb,ot,rs,e2,T,c,u,bd,dg,le⟩
 ·exact .inl ⟨a,b,λT hT=>(w T hT).elim (c T) id⟩
 ·exact .inr ⟨ob,S,e,eb,ot,rs,e2,T,c,u,bd,dg,λT hT uT=>(w T hT).elim (λz=>le T z uT) λz=>absurd uT z⟩
theorem fM.keep{N:List (List Int)}{W W':List (List Int) ->Prop}{H:Hp}{ob:Addr}{S:List (List Int)}{tv:V}{A:List (List Int)}
  (eb:H ob=some (.tup [.int (gS N S 0 1),.int (gS N S 0 2),.int (gS N S 1 2)]))(k:∃ot rs,tv= .ref ot/\Tab H ot rs S/\bE S/\cV (aA S)/\Bd 60 S/\(∀i,i<3->gS N S i i=ent N i i)/\
  ∀T,W T->cV (aA T) ->xr (gS N S 0 1) (gS N S 0 2) (gS N S 1 2) (gS N T 0 1) (gS N T 0 2) (gS N T 1 2))
  (c:¬HT.lexLt [gS N A 0 1,gS N A 0 2,gS N A 1 2] [gS N S 0 1,gS N S 0 2,gS N S 1 2]=true)(w:∀T,W' T->W T∨T=A):fM N W' H (.ref ob) tv:=by
 obtain⟨ot,rs,e2,T,c3,u,bd,dg,le⟩:=k
 refine .inr ⟨ob,S,rfl,eb,ot,rs,e2,T,c3,u,bd,dg,λT hT uT=> ?_⟩
 rcases w T hT with z|rfl
 ·exact le T z uT
 ·rw[KD]at c
  exact Classical.not_not.mp c
theorem KG{N:List (List Int)}{W W':List (List Int) ->Prop}{H:Hp}{ob ot:Addr}{rs:List Addr}{A S:List (List Int)}(eb:H ob=some (.tup [.int (gS N A 0 1),.int (gS N A 0 2),.int (gS N A 1 2)]))(T:Tab H ot rs A)(c3:bE A)(u:cV (aA A))(bd:Bd 60 A)(dg:∀i,i<3->gS N A i i=ent N i i)
  (h:∀T,W T->cV (aA T) ->xr (gS N S 0 1) (gS N S 0 2) (gS N S 1 2) (gS N T 0 1) (gS N T 0 2) (gS N T 1 2))(c:HT.lexLt [gS N A 0 1,gS N A 0 2,gS N A 1 2] [gS N S 0 1,gS N S 0 2,gS N S 1 2]=true)(w:∀T,W' T->W T∨T=A):fM N W' H (.ref ob) (.ref ot):=by
 refine .inr ⟨ob,A,rfl,eb,ot,rs,rfl,T,c3,u,bd,dg,λT hT uT=> ?_⟩
 rcases w T hT with z|rfl
 ·have k:=h T z uT
  rw[KD]at c
  unfold xr at *
  omega
 ·unfold xr;omega
theorem DZ{N:List (List Int)}{W W':List (List Int) ->Prop}{H:Hp}{ob ot:Addr}{rs:List Addr}{A:List (List Int)}(eb:H ob=some (.tup [.int (gS N A 0 1),.int (gS N A 0 2),.int (gS N A 1 2)]))(T:Tab H ot rs A)(c3:bE A)(u:cV (aA A))(bd:Bd 60 A)(dg:∀i,i<3->gS N A i i=ent N i i)
  (h:∀T,W T-> ¬cV (aA T))(w:∀T,W' T->W T∨T=A):fM N W' H (.ref ob) (.ref ot):=by
 refine .inr ⟨ob,A,rfl,eb,ot,rs,rfl,T,c3,u,bd,dg,λT hT uT=> ?_⟩
 rcases w T hT with z|rfl
 ·exact absurd uT (h T z)
 ·unfold xr;omega
theorem Qm{N S:List (List Int)}(c:bE S)(u:cV (aA S))(dg:∀i,i<3->gS N S i i=ent N i i)(le:∀T,bE T->cV (aA T) ->(∀i,i<3->ent (br N T) i i=ent N i i) ->xr (gS N S 0 1) (gS N S 0 2) (gS N S 1 2) (ent (br N T) 0 1) (ent (br N T) 0 2) (ent (br N T) 1 2)):Kz N S:=by
 refine⟨c,u,λi hi=>by rw[<-Af N S hi hi];exact dg i hi,λT cT uT d=> ?_⟩
 have:=le T cT uT d
 rwa [Af N S (by decide) (by decide),Af N S (by decide) (by decide),Af N S (by decide) (by decide)]at this
theorem Hy{x y:Int}(xs ys:List Int)(h:x<y):Ac (x::xs) (y::ys)=true:=by
 show(if x=y then Ac xs ys else decide (x<y))=true
 rw[if_neg (by omega)]
 exact decide_eq_true h
theorem KH{H:Hp}{vs:List Addr}(ok:∀u∈vs,SY H u)(so:vs.Pairwise (λu v=>gM ir (Nj H u)<=gM ir (Nj H v))):vs.Pairwise λu v=> ∀(m m':Int)(a b a' b':Addr),H u=some (.tup [.int m,.ref a,.ref b]) ->H v=some (.tup [.int m',.ref a',.ref b']) ->m<=m':=by
 refine so.imp_of_mem λ {u v} hu hv r m m' a b a' b' e e'=> ?_
 refine Classical.byContradiction λc=> ?_
 obtain⟨m1,a1,b1,e1,ra,rb,hm,sa,sb⟩:=ok u hu
 obtain⟨m2,a2,b2,e2,ra',rb',hm',sa',sb'⟩:=ok v hv
 rw[e]at e1
 rw[e']at e2
 cases e1
 cases e2
 rw[Ad e,Ad e']at r
 have l:=Cb kH (Oo hm' hm sa' sb' sa sb)
 rw[Hy _ _ (by omega)]at l
 have:=of_decide_eq_true l.symm
 omega
end L2
set_option maxHeartbeats 1000000
namespace CX
open PySem L2
section
variable{P:Program}{w:World}{K:PySem.W.Frag}{mg:Str->Option Value}{base:Heap}
inductive Cf(vs:List V)(H:Hp)(Q:VK)(E:XK):Prop
 |mk(t:Addr)(bs:List Addr)(N:List (List Int))(_:vs=[.ref t])(_:Tab H t bs N)(_:bE N)(_:bJ N)(_:Bd 700 N)(_:gz N)(_:aA N<=401)(_:∀(r:Addr) (rs:Nat->Addr) (as:Nat->List Addr) (H':Hp),az H H'->H' r=some (.lst [.ref (rs 0),.ref (rs 1),.ref (rs 2)]) ->(H' (rs 0)=some (.lst ((as 0).map V.ref))/\f7 H' (as 0)/\fF N (ent N 0 0/2) (rws H' (as 0))/\(rws H' (as 0)).Pairwise (λr s=>qe r<=qe s)) ->(H' (rs 1)=some (.lst ((as 1).map V.ref))/\f7 H' (as 1)/\fF N (ent N 1 1/2) (rws H' (as 1))/\(rws H' (as 1)).Pairwise (λr s=>qe r<=qe s)) ->(H' (rs 2)=some (.lst ((as 2).map V.ref))/\f7 H' (as 2)/\fF N (ent N 2 2/2) (rws H' (as 2))/\(rws H' (as 2)).Pairwise (λr s=>qe r<=qe s)) ->Q (.ref r) H')
theorem wm(F:fU K mg "corner_rows" lG gW)(aH:mg "range"=none)(oE:dQ P w K mg base dz 5 "near_rows" jl qf):dQ P w K mg base dz 6 "corner_rows" gW Cf:=by
 refine F.ok vU (λvs H Q E h=> ?_) (λf cdv A outer s H vs Q E hr h=> ?_)
 ·obtain⟨t,bs,N,rfl,hT,b7,ev,bN,NT,dD,q⟩:=h
  rfl
 obtain⟨t,bs,N,rfl,hT,b7,ev,bN,NT,dD,q⟩:=h
 have hu:=hr.units
 refine⟨_,(cF (aW (lu (N2:=["table"]) (te:=(j5 qf [] E0 (dw (bU 1) (dw (jq (rI LR λi j=> .int (i/j)) (jq (jM K) (jq (jM K) (bU 1) (bU 0)) (bU 0)) (tC (.int 2))) j4)))) rfl (cN rfl aH (af ah ak)) (by kernel_rfl) rfl (λ_ _ _=>by exact ly (aP oE hr rfl aM (af (pv 1) (af (aq fm (aD au (aD au (pv 1) (pv 0) (λ_ _=>rfl)) (pv 0) (λ_ _=>rfl)) ah) ak))))))),?_⟩
 obtain⟨fl,D0,a2,yJ,z8,xG,f8,fa⟩:=eZ NT dD
 have l1:=NT.BC
 have l2:=NT.Dw
 refine⟨3,rfl,by decide,by decide,λD hD=>JT (gT (n:=3)) (by decide) hD (λj v H'=> ∃r as,v= .ref r/\r≠D/\(∀b∈as,b≠D)/\H' r=some (.lst (as.map V.ref))/\f7 H' as/\fF N (ent N j j/2) (rws H' as)/\(rws H' as).Pairwise (λr s=>qe r<=qe s)) ?_ ?_ ?_⟩
 ·rintro j v G G' ⟨r,as,rfl,nr,na,er,ok,R,so⟩ k
  obtain⟨ok',XN⟩:=ok.keep λb hb o e=>k b o (na b hb) e
  exact⟨r,as,rfl,nr,na,k _ _ nr er,ok',by rw[XN];exact R,by rw[XN];exact so⟩
 ·intro j x ex H' Q' sG eo k
  obtain⟨hj,rfl⟩:=fN ex
  have Wa:=hT.same sG
  obtain⟨b,row,AW,IZ,VL⟩:=kQ Wa b7 hj hj
  have n2:0<=ent N j j/2/\ent N j j/2<=1100:=by
   have:0<=ent N j j/\ent N j j<=2200:=by rcases aN hj with rfl|rfl|rfl<;>constructor<;>omega
   omega
  refine⟨_,rfl,_,rfl,_,rfl,t,_,_,_,rfl,rfl,aU.of Wa.1,AW,_,rfl,b,_,_,_,rfl,rfl,aU.of IZ,VL,_,_,rfl,rfl,⟨by decide,by decide⟩,?_⟩
  refine⟨t,bs,N,_,rfl,Wa,b7,ev,bN,NT,dD,n2.1,n2.2,λr as H3 s3 fr Wb er ok R so al=> ?_⟩
  exact k _ H3 s3 ⟨r,as,rfl,(λz=>by obtain⟨o,eo⟩:=eo;rw[z,eo]at fr;cases fr),(λc hc z=>by obtain⟨o,eo⟩:=eo;have:=Wb c hc;rw[z,eo]at this;cases this),er,ok,R,so⟩
 ·intro vs H' sG hl items eD
  obtain⟨x,y,z,rfl⟩:∃x y z,vs=[x,y,z]:=by
   match vs,hl with
   | [x,y,z],_=>exact⟨x,y,z,rfl⟩
  obtain⟨r0,a0,rfl,_,_,k0⟩:=items 0 x rfl
  obtain⟨r1,a1,rfl,_,_,k1⟩:=items 1 y rfl
  obtain⟨r2,a2,rfl,_,_,k2⟩:=items 2 z rfl
  exact q D (λi=>match i with|0=>r0|1=>r1|_=>r2) (λi=>match i with|0=>a0|1=>a1|_=>a2) H' sG eD k0 k1 k2
inductive FN(T0:Addr)(vs:List V)(H:Hp)(Q:VK)(E:XK):Prop
 |mk(t:Addr)(bs:List Addr)(N:List (List Int))(f:Addr)(fs:List Addr)(s':Addr)(ss:List Addr)(_:vs=[.ref t,.ref f,.ref s'])(_:Tab H t bs N)(_:bE N)(_:Bd 700 N)(_:H f=some (.lst (fs.map V.ref)))(_:f7 H fs)(_:∀b∈fs,∀i,i<3->(aK (dP H b) i).natAbs<2^60)(_:H s'=some (.lst (ss.map V.ref)))(_:f7 H ss)(_:∀b∈ss,∀i,i<3->(aK (dP H b) i).natAbs<2^60)(_:fs.length<=50)(_:ss.length<=50)(_:H T0=some (fE T0))(_:∀(r:Addr) (us:List Addr) (H':Hp),az H H'->H r=none->H' r=some (.lst (us.map V.ref)) ->(∀u∈us,∃a b,a∈fs.take (fs.length/2)/\b∈ss/\H u=none/\H' u=some (.tup [.int (ay N (aK (dP H a)) (aK (dP H b))),.ref a,.ref b])) ->(∀a∈fs.take (fs.length/2),∀b∈ss,∃u∈us,H' u=some (.tup [.int (ay N (aK (dP H a)) (aK (dP H b))),.ref a,.ref b])) ->(us.Pairwise λu v=> ∀(m m':Int) (a b a' b':Addr),H' u=some (.tup [.int m,.ref a,.ref b]) ->H' v=some (.tup [.int m',.ref a',.ref b']) ->m<=m') ->Q (.ref r) H')
theorem qY{aF:Addr}(F:fU K mg "pairs_in_order" iX fQ)(kG:mg "len"=none)(gY:mg "sorted"=none)(cy:dQ P w K mg base dz 2 "pairing" gI (qb aF)):dQ P w K mg base dz 3 "pairs_in_order" fQ (FN aF):=by
 refine F.ok kW (λvs H Q E h=> ?_) (λf cdv A outer s H vs Q E hr h=> ?_)
 ·obtain⟨t,bs,N,f,fs,sc,ss,rfl,hT,b7,bN,ef,Uo,Td,es,Uq,Te,lf,ls,hP,q⟩:=h
  rfl
 obtain⟨t,bs,N,f,fs,sc,ss,rfl,hT,b7,bN,ef,Uo,Td,es,Uq,Te,lf,ls,hP,q⟩:=h
 have hu:=hr.units
 refine⟨_,(oO (@aB _ _ _ _ _ (aY (i:=3) kW.nd rfl (Or.inl rfl) (vg zq (pv 1) zk (zm (aq fm (eG iw rfl kG PySem.boot_len (af (pv 1) ak)) ah))))
  (@aT _ _ _ (aW (eG (tT (fS.Fo hr)) rfl gY PyProof.Rows.boot_sorted (af (ME (N2:=["table","firsts","seconds","halved"]) (Ji:=(Ip K (bU 4))) (te:=(RJ (dw (j5 (qb aF) [] E0 (dw (bU 2) (dw (bU 0) (dw (bU 1) j4)))) (dw (bU 0) (dw (bU 1) j4))))) rfl (gv (pv 3)) (by kernel_rfl) rfl (λ_ _ _=>by exact Vx (gv (pv 4))) (λ_ _ _=>by exact ly (iP (af (aP cy hr rfl aM (af (pv 2) (af (pv 0) (af (pv 1) ak)))) (af (pv 0) (af (pv 1) ak)))))) ak)))))),?_⟩
 have XO:(fs.map V.ref).length=fs.length:=List.length_map _
 refine⟨_,rfl,_,rfl,f,_,rfl,.inl (aU.of ef),_,_,rfl,rfl,⟨by decide,by decide⟩,_,rfl,f,_,rfl,aU.of ef,λh hh=> ?_⟩
 have ec:vh (fs.map V.ref) none (some ((((fs.map V.ref).length:Nat):Int)/2))=(fs.take (fs.length/2)).map V.ref:=by
  rw[XO,show((fs.length:Int)/2)=((fs.length/2:Nat):Int)by omega,yO (by rw[XO];omega),List.map_take]
 rw[ec]
 obtain⟨hs,Tf⟩:∃hs,hs=fs.take (fs.length/2):=⟨_,rfl⟩
 rw[<-Tf]
 have sh:=az.up (o:= .lst (hs.map V.ref)) hh
 obtain⟨H1,XQ⟩:∃J,J=upd H h (.lst (hs.map V.ref)):=⟨_,rfl⟩
 have XR:H1 h=some (.lst (hs.map V.ref)):=by rw[XQ];exact ao
 rw[<-XQ]at sh ⊢
 have hsub:∀a∈hs,a∈fs:=λa ha=>List.mem_of_mem_take (Tf▸ha)
 have lhs:hs.length<=50:=by rw[Tf,List.length_take];omega
 refine⟨_,rfl,h,rfl,⟨_,aU.of XR⟩,λD hD=>Ht (aU.of XR) (aU.of (sh _ _ es)) hD (by rw[List.length_map,List.length_map];exact Nat.lt_of_le_of_lt (Nat.mul_le_mul lhs ls) (by decide)) (λx y v H'=> ∃u a b,v= .ref u/\x= .ref a/\y= .ref b/\u≠D/\H1 u=none/\H' u=some (.tup [.int (ay N (aK (dP H a)) (aK (dP H b))),.ref a,.ref b])) ?_ ?_ ?_ ?_⟩
 ·rintro x y v G G' ⟨u,a,b,rfl,rfl,rfl,nu,fu,e⟩ k
  exact⟨u,a,b,rfl,rfl,rfl,nu,fu,k _ _ nu e⟩
 ·intro x o H' R' hx sG k
  exact⟨_,rfl,sc,rfl,⟨_,aU.of (sG _ _ (sh _ _ es))⟩,k⟩
 ·intro x y hx hy H' Q' sG eo k
  obtain⟨a,rfl,ha⟩:=nW hx
  obtain⟨b,rfl,hb⟩:=nW hy
  have s1:=sh.trans sG
  refine⟨_,rfl,_,rfl,_,rfl,t,bs,N,a,b,_,_,rfl,hT.same s1,b7,bN.mono (by decide),s1 _ _ (Uo a (hsub a ha)).1,s1 _ _ (Uq b hb).1,(λi hi=>Nat.lt_of_lt_of_le (Td a (hsub a ha) i hi) (Nat.pow_le_pow_right (by decide) (by decide))),(λi hi=>Nat.lt_of_lt_of_le (Te b hb i hi) (Nat.pow_le_pow_right (by decide) (by decide))),s1 _ _ hP,λH2 s2=>⟨_,rfl,_,rfl,(by show 3<=sizeLine;decide),λu hu=> ?_⟩⟩
  exact k _ _ (s2.trans (az.up hu)) ⟨u,a,b,rfl,rfl,rfl,(λz=>by obtain⟨o,eo⟩:=eo;have:=s2 _ _ eo;rw[<-z,hu]at this;cases this),(sG.trans s2).none hu,ao⟩
 ·intro vs H' G
  obtain⟨us,rfl⟩:∃us:List Addr,vs=us.map V.ref:=oB λv hv=>by
   obtain⟨_,_,_,_,u,a,b,e,_⟩:=G.mem hv
   exact⟨u,e⟩
  have s1:=sh.trans G.same
  have it:∀u∈us,∃a b,a∈hs/\b∈ss/\H1 u=none/\H' u=some (.tup [.int (ay N (aK (dP H a)) (aK (dP H b))),.ref a,.ref b]):=λu hu=>by
   obtain⟨x,hx,y,hy,u',a,b,e,rfl,rfl,_,fu,k⟩:=G.mem (List.mem_map.mpr ⟨u,hu,rfl⟩)
   cases e
   obtain⟨a',e1,ha⟩:=nW hx
   obtain⟨b',e2,hb⟩:=nW hy
   cases e1
   cases e2
   exact⟨a,b,ha,hb,fu,k⟩
  obtain⟨Tg,ef'⟩:=Uo.same s1
  obtain⟨Th,es'⟩:=Uq.same s1
  have kf:∀a∈fs,dP H' a=dP H a:=λa ha=>((Uo a ha).keep λo e=>s1 _ _ e).2
  have ks:∀a∈ss,dP H' a=dP H a:=λa ha=>((Uq a ha).keep λo e=>s1 _ _ e).2
  have pb:∀a∈hs,∀b∈ss,(ay N (aK (dP H a)) (aK (dP H b))).natAbs<2^1000:=λa ha b hb=>
   Nat.lt_of_lt_of_le (jh bN (Td a (hsub a ha)) (Te b hb)) (Nat.pow_le_pow_right (by decide) (by decide))
  have up:∀{r:List Int},(∀i,i<3->(aK r i).natAbs<2^60) ->lJ r:=λh i hi=>Nat.lt_of_lt_of_le (h i hi) (Nat.pow_le_pow_right (by decide) (by decide))
  refine tN ?_
  refine DX (aU.of G.at') (λu hu=> ?_) λvs pv so l hl=> ?_
  ·obtain⟨a,b,ha,hb,fu,e⟩:=it u hu
   exact⟨_,a,b,e,Tg a (hsub a ha),Th b hb,pb a ha b hb,by rw[kf a (hsub a ha)];exact up (Td a (hsub a ha)),by rw[ks b hb];exact up (Te b hb)⟩
  ·have sl:=az.up (o:= .lst (vs.map V.ref)) hl
   refine q l vs _ (s1.trans sl) (s1.none hl) ao (λu hu=> ?_) (λa ha b hb=> ?_) ?_
   ·obtain⟨a,b,ha,hb,fu,e⟩:=it u (pv.mem_iff.mp hu)
    exact⟨a,b,Tf▸ha,hb,sh.none fu,sl _ _ e⟩
   ·obtain⟨v,hv,u,a',b',rfl,e1,e2,_,_,e⟩:=G.all (List.mem_map.mpr ⟨a,(Tf▸ha),rfl⟩) (List.mem_map.mpr ⟨b,hb,rfl⟩)
    cases e1
    cases e2
    obtain⟨u',Lz,e3⟩:=List.mem_map.mp hv
    cases e3
    exact⟨u,pv.mem_iff.mpr Lz,sl _ _ e⟩
   ·refine(KH (λu hu=> ?_) so).imp_of_mem λ {u v} hu hv r m m' a b a' b' e e'=> ?_
    ·obtain⟨a,b,ha,hb,fu,e⟩:=it u (pv.mem_iff.mp hu)
     exact⟨_,a,b,e,Tg a (hsub a ha),Th b hb,pb a ha b hb,by rw[kf a (hsub a ha)];exact up (Td a (hsub a ha)),by rw[ks b hb];exact up (Te b hb)⟩
    ·obtain⟨a1,b1,_,_,_,e1⟩:=it u (pv.mem_iff.mp hu)
     obtain⟨a2,b2,_,_,_,e2⟩:=it v (pv.mem_iff.mp hv)
     have f1:=sl _ _ e1
     have f2:=sl _ _ e2
     rw[e]at f1
     rw[e']at f2
     cases f1
     cases f2
     exact r _ _ _ _ _ _ e1 e2
inductive yR(vs:List V)(H:Hp)(Q:VK)(E:XK):Prop
 |mk(t:Addr)(bs:List Addr)(m:List (List Int))(_:vs=[.ref t])(_:Tab H t bs m)(_:bE m)(_:Bd 1000 m)(_:True)(_:∀H',az H H'->Q (.bl (RN (.int (aA m)) [.int 1,.int (-1)])) H')
theorem Cg(F:fU K mg "is_basis" pZ kr)(cJ:dQ P w K mg base dz 3 "determinant" eN BI):dQ P w K mg base dz 4 "is_basis" kr yR:=by
 refine F.ok BG (λvs H Q E h=> ?_) (λf cdv A outer s H vs Q E hr h=> ?_)
 ·obtain⟨t,bs,m,rfl,hT,b7,hB,hP,q⟩:=h
  rfl
 obtain⟨t,bs,m,rfl,hT,b7,hB,hP,q⟩:=h
 have hu:=hr.units
 refine⟨_,(cF (aW (kO Gn (aP cJ hr rfl aM (af (pv 0) ak)) (iP (af ah (af (AM uZ ah) ak))) (by rfl)))),?_⟩
 refine⟨_,rfl,t,bs,m,rfl,hT,b7,hB,hP,λH1 s1=> ?_⟩
 refine⟨_,rfl,(by show 2<=sizeLine;decide),λp hp=> ?_⟩
 exact⟨p,_,rfl,.inr (pI.of ao),rfl,rfl,q _ (s1.trans (az.up hp))⟩
inductive Ci(T0:Addr)(vs:List V)(H:Hp)(Q:VK)(E:XK):Prop
 |mk(t:Addr)(bs:List Addr)(N:List (List Int))(_:vs=[.ref t])(_:Tab H t bs N)(_:bE N)(_:bJ N)(_:Bd 700 N)(_:gz N)(_:aA N<=401)(_:H T0=some (fE T0))(_:∀(r:Addr) (rs:List Addr) (S:List (List Int)) (H':Hp),az H H'->Tab H' r rs S->bE S->(aA S=1∨aA S= -1) ->Bd 60 S->Kz N S->Q (.ref r) H')
theorem wo{aF:Addr}(F:fU K mg "least_basis" lH gX)(lK:dQ P w K mg base dz 6 "corner_rows" gW Cf)(ja:dQ P w K mg base dz 6 "pairs_in_order" fQ (FN aF))(cy:dQ P w K mg base dz 6 "pairing" gI (qb aF))(qh:dQ P w K mg base dz 6 "is_basis" kr yR):dQ P w K mg base dz 7 "least_basis" gX (Ci aF):=by
 refine F.ok cg (λvs H Q E h=> ?_) (λf cdv A outer s H vs Q E hr h=> ?_)
 ·obtain⟨t,bs,N,rfl,hT,b7,ev,bN,NT,dD,hP,q⟩:=h
  rfl
 obtain⟨t,bs,N,rfl,hT,b7,ev,bN,NT,dD,hP,q⟩:=h
 have hu:=hr.units
 refine⟨_,(oO (@aB _ _ _ _ _ (iO (aP lK hr rfl aM (af (pv 0) ak)) (jc rfl (aJ (aI (i:=1) cg.nd rfl (Or.inl rfl)) (aJ (aI (i:=2) cg.nd rfl (Or.inl rfl)) (aJ (aI (i:=3) cg.nd rfl (Or.inl rfl)) fj)))))
  (@aB _ _ _ _ _ (iO (iP (af rm (af rm ak))) (nM rfl (aJ (aI (i:=4) cg.nd rfl (Or.inl rfl)) (aJ (aI (i:=5) cg.nd rfl (Or.inl rfl)) fj))))
  (@aB _ _ _ _ _ (gO PassesOwn.never rfl (gv (aP ja hr rfl aM (af (pv 0) (af (pv 1) (af (pv 2) ak))))) (nM rfl (aJ (aI (i:=6) cg.nd rfl (Or.inl rfl)) (aJ (aI (i:=7) cg.nd rfl (Or.inl rfl)) (aJ (aI (i:=8) cg.nd rfl (Or.inl rfl)) fj)))) (oO (@aB _ _ _ _ _ (eE (PW.pt (CJ (cL LS (pv 4) rm (cK _)) (zc (cL qD (pv 6) (aD II (pv 4) ah (λ_ _=>rfl)) (cK _))))) (@aT _ _ _ Ik) d9)
  (@aT _ _ _ (gO PassesOwn.never rfl (gv (pv 3)) (aI (i:=9) cg.nd rfl (Or.inl rfl)) (cF (eE (mj (aP qh hr rfl aM (af (dR (af (pv 7) (af (pv 8) (af (pv 9) ak)))) ak))) (@aB _ _ _ _ _ (aY (i:=10) cg.nd rfl (Or.inl rfl) (iP (af (pv 6) (af (aP cy hr rfl aM (af (pv 0) (af (pv 7) (af (pv 9) ak)))) (af (aP cy hr rfl aM (af (pv 0) (af (pv 8) (af (pv 9) ak)))) ak)))))
  (@aT _ _ _ (eE (PW.pt (Ih (cL Iv (pv 4) rm (cK _)) (CI (cL (OV (Nat.lt_of_le_of_lt (Nat.le_add_right _ _) hu)) (pv 10) (pv 4) (cK _))))) (@aT _ _ _ (uW (i:=4) (j:=5) rfl cg.nd rfl rfl (by decide) rfl rfl (af (pv 10) (af (dR (af (pv 7) (af (pv 8) (af (pv 9) ak)))) ak)) rfl)) d9))) d9)))))))
  (@aT _ _ _ (aW (pv 5))))))),?_⟩
 refine⟨_,rfl,t,bs,N,rfl,hT,b7,ev,bN,NT,dD,λr rs as H1 s1 er k0 k1 k2=> ?_⟩
 obtain⟨e0,QZ,R0,Wc⟩:=k0
 obtain⟨e1,Qn,R1,Zn⟩:=k1
 obtain⟨e2,SX,R2,Od⟩:=k2
 refine⟨r,_,rfl,aU.of er,rfl,_,_,rfl,_,_,rfl,_,_,rfl,rfl,?_⟩
 refine⟨(by show 2<=sizeLine;decide),λp0 hp0=>⟨p0,_,rfl,pI.of ao,rfl,_,_,rfl,_,_,rfl,rfl,?_⟩⟩
 have s12:=az.up (o:= .tup [V.gK,.gK]) hp0
 obtain⟨H2,XS⟩:∃J,J=upd H1 p0 (.tup [V.gK,.gK]):=⟨_,rfl⟩
 rw[<-XS]at s12 ⊢
 clear XS hp0
 have Ia:=s1.trans s12
 obtain⟨QZ,w0⟩:=QZ.same s12
 obtain⟨Qn,w1⟩:=Qn.same s12
 obtain⟨SX,w2⟩:=SX.same s12
 rw[<-w0]at R0 Wc
 rw[<-w1]at R1
 rw[<-w2]at R2
 have e0:=s12 _ _ e0
 have e1:=s12 _ _ e1
 have e2:=s12 _ _ e2
 clear w0 w1 w2 Zn Od er
 obtain⟨fl,D0,a2,yJ,z8,xG,f8,fa⟩:=eZ NT dD
 have l1:=NT.BC
 have l2:=NT.Dw
 have Ti:∀b∈as 0,∀i,i<3->(aK (dP H2 b) i).natAbs<2^60:=λb hb=>(R0.small NT dD (by omega) (by omega) _ (m8 hb)).2
 have Tj:∀b∈as 1,∀i,i<3->(aK (dP H2 b) i).natAbs<2^60:=λb hb=>(R1.small NT dD (by omega) (by omega) _ (m8 hb)).2
 have Wd:∀b∈as 2,∀i,i<3->(aK (dP H2 b) i).natAbs<2^60:=λb hb=>(R2.small NT dD (by(clear Tj Ti e2 e1 e0 hu q hP;omega)) (by(clear Tj Ti e2 e1 e0 hu q hP;omega)) _ (m8 hb)).2
 have f0:(as 0).length<=50:=by
  have:=wg NT dD (by omega) (by omega) R0
  rwa [show(rws H2 (as 0)).length=(as 0).length from List.length_map _]at this
 have f1:(as 1).length<=50:=by
  have:=wg NT dD (by omega) (by omega) R1
  rwa [show(rws H2 (as 1)).length=(as 1).length from List.length_map _]at this
 refine⟨_,rfl,_,rfl,_,rfl,t,bs,N,rs 0,as 0,rs 1,as 1,rfl,hT.same Ia,b7,bN,e0,QZ,Ti,e1,Qn,Tj,f0,f1,Ia _ _ hP,λq0 us H3 s3 fq eq items cover rise=> ?_⟩
 have Ra:=Ia.trans s3
 have Np:∀{a},a∈(as 0).take ((as 0).length/2) ->a∈as 0:=λh=>List.mem_of_mem_take h
 obtain⟨W,eW⟩:∃W:Nat->List (List Int) ->Prop,W=λi T=> ∃u∈us.take i,∃m a b c,H3 u=some (.tup [m,.ref a,.ref b])/\c∈as 2/\T=rws H2 [a,b,c]:=⟨_,rfl⟩
 have fin:∀{H':Hp}{ob:Addr}{tv:V}{S:List (List Int)},az H3 H'->(∃ot rs,tv= .ref ot/\Tab H' ot rs S/\bE S/\cV (aA S)/\Bd 60 S/\(∀i,i<3->gS N S i i=ent N i i)/\ ∀T,W us.length T->cV (aA T) ->xr (gS N S 0 1) (gS N S 0 2) (gS N S 1 2) (gS N T 0 1) (gS N T 0 2) (gS N T 1 2)) ->Q tv H':=λs h=>by
  obtain⟨ot,rs',rfl,T,c,d,bd,dg,le⟩:=h
  refine q ot rs' _ _ (Ra.trans s) T c d bd (Qm c d dg (KC NT dD R0 Wc R1 R2 λa b c ha hb hc un=> ?_))
  rw[show(rws H2 (as 0)).length=(as 0).length from List.length_map _,show rws H2 (as 0)=(as 0).map (dP H2)from rfl,<-List.map_take]at ha
  obtain⟨a0,ha0,rfl⟩:=List.mem_map.mp ha
  obtain⟨b0,hb0,rfl⟩:=List.mem_map.mp hb
  obtain⟨c0,hc0,rfl⟩:=List.mem_map.mp hc
  obtain⟨u,hu,e⟩:=cover a0 ha0 b0 hb0
  exact le (rws H2 [a0,b0,c0]) (by rw[eW];exact⟨u,by rw[List.take_length];exact hu,_,a0,b0,c0,e,hc0,rfl⟩) un
 refine⟨q0,rfl,⟨_,aU.of eq⟩,?_⟩
 refine lR (xs:=us.map V.ref) (λi σ H'=> ∃bv tv o6 o7 o8 o9 yN,σ=[some (.ref t),some (.ref (rs 0)),some (.ref (rs 1)),some (.ref (rs 2)),some bv,some tv,o6,o7,o8,o9,yN]/\az H3 H'/\fM N (W i) H' bv tv) ⟨_,_,_,_,_,_,_,rfl,az.refl _,.inl ⟨rfl,rfl,λT hT=>by rw[eW]at hT;obtain⟨u,hu,_⟩:=hT;simp at hu⟩⟩ (λi σ H4 hi hh=> ?_) (λi x σ H4 hx hh=> ?_) (λσ H4 hh=> ?_)
 ·obtain⟨bv,tv,o6,o7,o8,o9,yN,rfl,s4,B⟩:=hh
  exact aU.of (s4 _ _ eq)
 ·obtain⟨bv,tv,o6,o7,o8,o9,yN,rfl,s4,B⟩:=hh
  rw[List.getElem?_map]at hx
  obtain⟨u,eu,rfl⟩:=Option.map_eq_some_iff.mp hx
  obtain⟨a,b,ha,hb,fu,e⟩:=items u (List.mem_of_getElem? eu)
  refine⟨u,_,rfl,pI.of (s4 _ _ e),rfl,_,_,rfl,_,_,rfl,_,_,rfl,rfl,?_⟩
  refine Qi (λσ' H'=>σ'=[some (.ref t),some (.ref (rs 0)),some (.ref (rs 1)),some (.ref (rs 2)),some bv,some tv,some (.int (ay N (aK (dP H2 a)) (aK (dP H2 b)))),some (.ref a),some (.ref b),o9,yN]/\H'=H4) (λR hR=> ?_) ?_
  ·rcases B with⟨rfl,rfl,_⟩|⟨ob,S,rfl,eb,T⟩
   ·exact⟨_,rfl,rfl,_,rfl,pK (pK (hR _ _ ⟨rfl,rfl⟩))⟩
   ·refine⟨_,rfl,rfl,_,rfl,xh ⟨_,rfl,_,rfl,ob,_,_,_,rfl,rfl,pI.of eb,rfl,_,_,rfl,rfl,_,rfl,lS (λc=> ?_) (λc=> ?_)⟩⟩
    ·obtain⟨ot,rs',rfl,T0,c3,d,bd,dg,le⟩:=T
     refine⟨_,rfl,fin (ob:=ob) s4 ⟨ot,rs',rfl,T0,c3,d,bd,dg,λT hT uT=> ?_⟩⟩
     have cc:gS N S 0 1<ay N (aK (dP H2 a)) (aK (dP H2 b)):=of_decide_eq_true c
     rw[eW]at hT
     obtain⟨u',Lz,m',a',b',c',e',hc',rfl⟩:=hT
     rw[List.take_length]at Lz
     obtain⟨k,ek⟩:=List.mem_iff_getElem?.mp Lz
     rcases Nat.lt_or_ge k i with z|z
     ·exact le _ (by rw[eW];exact⟨u',List.mem_take_iff_getElem.mpr ⟨k,by have:=(List.getElem?_eq_some_iff.mp ek).1;omega,(List.getElem?_eq_some_iff.mp ek).2⟩,m',a',b',c',e',hc',rfl⟩) uT
     ·refine .inl ?_
      obtain⟨a2,b2,_,_,_,e2⟩:=items u' Lz
      rw[e']at e2
      cases e2
      show gS N S 0 1<ay N (aK (dP H2 a')) (aK (dP H2 b'))
      rcases Nat.lt_or_eq_of_le z with z|rfl
      ·obtain⟨Zo,q1⟩:=List.getElem?_eq_some_iff.mp eu
       obtain⟨Zp,q2⟩:=List.getElem?_eq_some_iff.mp ek
       have:=List.pairwise_iff_getElem.mp rise i k Zo Zp z
       rw[q1,q2]at this
       have:=this _ _ _ _ _ _ e e'
       omega
      ·rw[eu]at ek
       cases ek
       have q9:=Option.some.inj (e.symm.trans e')
       injection q9 with q9
       injection q9 with _ q9
       injection q9 with q1 q9
       injection q9 with q2 _
       injection q1 with q1
       injection q2 with q2
       subst q1 q2
       exact cc
    ·exact hR _ _ ⟨rfl,rfl⟩
  rintro _ _ ⟨rfl,rfl⟩
  have QU:=s3.trans s4
  refine⟨_,rfl,rs 2,rfl,⟨_,aU.of (QU _ _ e2)⟩,?_⟩
  refine lR (xs:=(as 2).map V.ref) (λj σ H'=> ∃bv tv o9 yN,σ=[some (.ref t),some (.ref (rs 0)),some (.ref (rs 1)),some (.ref (rs 2)),some bv,some tv,some (.int (ay N (aK (dP H2 a)) (aK (dP H2 b)))),some (.ref a),some (.ref b),o9,yN]/\az H3 H'/\fM N (λT=>W i T∨ ∃c∈(as 2).take j,T=rws H2 [a,b,c]) H' bv tv) ⟨_,_,_,_,rfl,s4,B.mono λT hT=>hT.elim id λ ⟨c,hc,_⟩=>by simp at hc⟩ (λj σ H5 hj hh=> ?_) (λj x σ H5 hx hh=> ?_) (λσ H5 hh=> ?_)
  ·obtain⟨bv,tv,o9,yN,rfl,s5,B⟩:=hh
   exact aU.of (s5 _ _ (s3 _ _ e2))
  ·clear B
   obtain⟨bv,tv,o9,yN,rfl,s5,B⟩:=hh
   rw[List.getElem?_map]at hx
   obtain⟨c,ec,rfl⟩:=Option.map_eq_some_iff.mp hx
   have hc:=List.mem_of_getElem? ec
   have Rb:=s3.trans s5
   have s05:=Ia.trans Rb
   have We:f7 H2 [a,b,c]:=λd hd=>by
    simp only[List.mem_cons,List.not_mem_nil,or_false]at hd
    rcases hd with rfl|rfl|rfl
    ·exact QZ _ (Np ha)
    ·exact Qn _ hb
    ·exact SX _ hc
   obtain⟨S,eS⟩:∃S,S=rws H2 [a,b,c]:=⟨_,rfl⟩
   have S3:bE S:=by
    rw[eS]
    refine⟨rfl,λr hr=> ?_⟩
    obtain⟨d,hd,rfl⟩:=List.mem_map.mp hr
    exact(We d hd).2
   have SB:Bd 60 S:=λk l hk hl=>by
    rw[eS]
    rcases aN hk with rfl|rfl|rfl
    ·exact Ti a (Np ha) l hl
    ·exact Tj b hb l hl
    ·exact Wd c hc l hl
   have tabS:∀{H':Hp}{L:Addr},az H2 H'->H' L=some (.lst [.ref a,.ref b,.ref c]) ->Tab H' L [a,b,c] S:=λs e=>by
    obtain⟨o,w⟩:=We.same s
    have:=MQ (as:=[a,b,c]) e o
    rwa [w,<-eS]at this
   have tk:∀T,(W i T∨ ∃c∈(as 2).take (j+1),T=rws H2 [a,b,c]) ->(W i T∨ ∃c∈(as 2).take j,T=rws H2 [a,b,c])∨T=S:=λT hT=>by
    rcases hT with z|⟨d,hd,rfl⟩
    ·exact .inl (.inl z)
    ·rw[List.take_add_one,ec]at hd
     rcases List.mem_append.mp hd with z|z
     ·exact .inl (.inr ⟨d,z,rfl⟩)
     ·obtain rfl:d=c:=by simpa using z
      exact .inr eS.symm
   have Wf:gS N S 0 1=ay N (aK (dP H2 a)) (aK (dP H2 b)):=by rw[eS];rfl
   have Wg:gS N S 0 2=ay N (aK (dP H2 a)) (aK (dP H2 c)):=by rw[eS];rfl
   have Wh:gS N S 1 2=ay N (aK (dP H2 b)) (aK (dP H2 c)):=by rw[eS];rfl
   have XT:∀i,i<3->gS N S i i=ent N i i:=λi hi=>by
    rw[eS]
    rcases aN hi with rfl|rfl|rfl
    ·exact wk ev (by decide) R0 (m8 (Np ha))
    ·exact wk ev (by decide) R1 (m8 hb)
    ·exact wk ev (by decide) R2 (m8 hc)
   refine⟨_,rfl,_,rfl,_,rfl,(by show 3<=sizeLine;decide),λL hL=> ?_⟩
   have sL:=az.up (o:= .lst [V.ref a,.ref b,.ref c]) hL
   refine⟨L,[a,b,c],S,rfl,tabS (Rb.trans sL) ao,S3,SB.mono (by decide),trivial,λH6 s6=>⟨_,rfl,?_⟩⟩
   have Qo:=sL.trans s6
   refine lS (λc1=> ?_) (λc1=> ?_)
   ·have un:aA S=1∨aA S= -1:=by
     exact Nn c1
    have Ur:=Rb.trans Qo
    have Us:=Ia.trans Ur
    have at_:∀{d:Addr},d∈ [a,b,c] ->H6 d=some (.lst [.int (aK (dP H2 d) 0),.int (aK (dP H2 d) 1),.int (aK (dP H2 d) 2)]):=λhd=>Ur _ _ (We _ hd).1
    have bt:∀{d:Addr},(∀i,i<3->(aK (dP H2 d) i).natAbs<2^60) -> ∀i,i<3->(aK (dP H2 d) i).natAbs<2^1000:=λh i hi=>Nat.lt_of_lt_of_le (h i hi) (Nat.pow_le_pow_right (by decide) (by decide))
    refine⟨_,rfl,_,rfl,_,rfl,_,rfl,t,bs,N,a,c,_,_,rfl,hT.same Us,b7,bN.mono (by decide),at_ (by simp),at_ (by simp),bt (Ti a (Np ha)),bt (Wd c hc),Us _ _ hP,λH7 s7=> ?_⟩
    refine⟨_,rfl,_,rfl,_,rfl,t,bs,N,b,c,_,_,rfl,hT.same (Us.trans s7),b7,bN.mono (by decide),s7 _ _ (at_ (by simp)),s7 _ _ (at_ (by simp)),bt (Tj b hb),bt (Wd c hc),s7 _ _ (Us _ _ hP),λH8 s8=>⟨(by show 3<=sizeLine;decide),λF hF=> ?_⟩⟩
    refine⟨_,rfl,rfl,_,rfl,?_⟩
    rw[<-Wf,<-Wg,<-Wh]at *
    rcases B with⟨rfl,rfl,no⟩|⟨ob,S',rfl,eb,T0⟩
    ·exact xh (xh ⟨_,rfl,_,rfl,_,rfl,_,rfl,(by show 3<=sizeLine;decide),λT Mn=>⟨_,_,rfl,⟨_,_,_,_,rfl,((s5.trans Qo).trans (s7.trans (s8.trans (az.up hF)))).trans (az.up Mn),DZ ((az.up Mn) _ _ ao) (tabS (((Ur.trans (s7.trans s8)).trans (az.up hF)).trans (az.up Mn)) ao) S3 un SB XT no tk⟩⟩⟩)
    ·refine pK ⟨_,rfl,_,rfl,F,ob,[_,_,_],[_,_,_],rfl,rfl,pI.of ao,pI.of (az.up hF _ _ (s8 _ _ (s7 _ _ (Qo _ _ eb)))),_,rfl,lS (λc9=> ?_) (λc9=> ?_)⟩
     ·obtain⟨_,_,_,_,_,_,_,_,Zq⟩:=T0
      exact⟨_,rfl,_,rfl,_,rfl,_,rfl,(by show 3<=sizeLine;decide),λT Mn=>⟨_,_,rfl,⟨_,_,_,_,rfl,((s5.trans Qo).trans (s7.trans (s8.trans (az.up hF)))).trans (az.up Mn),KG ((az.up Mn) _ _ ao) (tabS (((Ur.trans (s7.trans s8)).trans (az.up hF)).trans (az.up Mn)) ao) S3 un SB XT Zq c9 tk⟩⟩⟩
     ·obtain⟨Zr,rs',e9,Tt,kk⟩:=T0
      have sk:=Qo.trans (s7.trans (s8.trans (az.up (o:= .tup [.int (gS N S 0 1),.int (gS N S 0 2),.int (gS N S 1 2)]) hF)))
      exact⟨_,_,_,_,rfl,s5.trans sk,fM.keep (sk _ _ eb) ⟨Zr,rs',e9,Tt.same sk,kk⟩ c9 tk⟩
   ·refine⟨_,_,_,_,rfl,s5.trans Qo,(B.same Qo).skip λT hT=>(tk T hT).imp id λz=> ?_⟩
    subst z
    intro u
    refine c1 ?_
    rcases u with z|z<;>rw[z]<;>rfl
  ·obtain⟨bv,tv,o9,yN,rfl,s5,B⟩:=hh
   refine⟨_,_,_,_,_,_,_,rfl,s5,B.mono λT hT=> ?_⟩
   rw[eW]at hT ⊢
   obtain⟨u',Lz,m',a',b',c',e',hc',rfl⟩:=hT
   rw[List.take_add_one,eu]at Lz
   rcases List.mem_append.mp Lz with h|h
   ·exact .inl ⟨u',h,m',a',b',c',e',hc',rfl⟩
   ·have:u'=u:=by simpa using h
    subst this
    rw[e]at e'
    cases e'
    exact .inr ⟨c',by rw[List.length_map,List.take_length];exact hc',rfl⟩
 ·obtain⟨bv,tv,o6,o7,o8,o9,yN,rfl,s4,B⟩:=hh
  rw[List.length_map]at B
  rcases B with⟨rfl,rfl,no⟩|⟨ob,S,rfl,eb,T⟩
  ·exfalso
   obtain⟨m0,m1,m2⟩:=Ky R0 Wc R1 R2
   rw[show(rws H2 (as 0)).length=(as 0).length from List.length_map _,show rws H2 (as 0)=(as 0).map (dP H2)from rfl,<-List.map_take]at m0
   obtain⟨a0,ha0,r0⟩:=List.mem_map.mp m0
   obtain⟨b0,hb0,r1⟩:=List.mem_map.mp m1
   obtain⟨c0,hc0,r2⟩:=List.mem_map.mp m2
   obtain⟨u,hu,e⟩:=cover a0 ha0 b0 hb0
   refine no (rws H2 [a0,b0,c0]) (by rw[eW];exact⟨u,by rw[List.take_length];exact hu,_,a0,b0,c0,e,hc0,rfl⟩) ?_
   rw[show rws H2 [a0,b0,c0]=[dP H2 a0,dP H2 b0,dP H2 c0]from rfl,r0,r1,r2]
   exact .inr rfl
  ·exact⟨_,rfl,fin (ob:=ob) s4 T⟩
inductive FO(T1 T2 T3 T4 T5 T6:Addr)(vs:List V)(H:Hp)(Q:VK)(E:XK):Prop
 |mk(t:Addr)(bs:List Addr)(m:List (List Int))(_:vs=[.ref t])(_:Tab H t bs m)(_:bE m)(_:Bd 440 m)(_:bJ m)(_:b8 m=true)(_:aA m/2<=200)(_:H T1=some (fE T1))(_:H T2=some (fE T2))(_:H T3=some (fE T3))(_:H T4=some (fE T4))(_:H T5=some (fE T5))(_:H T6=some .AG)(_:∀(P x:Addr) (xs:List Addr) (y:Addr) (ys:List Addr) (B:List (List Int)) (H':Hp),az H H'->H' P=some (.tup [.ref x,.ref y]) ->Tab H' x xs (br m B) ->Tab H' y ys B->bE B->(aA B=1∨aA B= -1) ->Bd 900 B->H x=none->(∀b∈xs,H b=none) ->H y=none->(∀b∈ys,H b=none) ->y∉ys->dO m (br m B) ->Q (.ref P) H')
theorem KI{bT bI aO bO aF bC:Addr}(F:fU K mg "least" zX qQ)(Ea:dQ P w K mg base dz 11 "half" vQ (Km bT bI aO))(Eb:dQ P w K mg base dz 11 "near" vR (Kp bO aF bC))(lM:dQ P w K mg base dz 11 "least_basis" gX (Ci aF))(jZ:dQ P w K mg base dz 11 "carried" jY (r6 bO))(iZ:dQ P w K mg base dz 11 "product" jX (DJ bO)):dQ P w K mg base dz 12 "least" qQ (FO bT bI aO bO aF bC):=by
 refine F.ok qR (λvs H Q E h=> ?_) (λf cdv A outer s H vs Q E hr h=> ?_)
 ·obtain⟨t,bs,m,rfl,hT,b7,hB,ev,ab,hd,h1,h2,h3,h4,h5,h6,q⟩:=h
  rfl
 obtain⟨t,bs,m,rfl,hT,b7,hB,ev,ab,hd,h1,h2,h3,h4,h5,h6,q⟩:=h
 have hu:=hr.units
 refine⟨_,(oO (@aB _ _ _ _ _ (uF (aP Ea hr rfl aM (af (pv 0) ak)))
  (@aB _ _ _ _ _ (iO (aP Eb hr rfl aM (af (pv 0) ak)) (nM rfl (aJ (aI (i:=1) qR.nd rfl (Or.inl rfl)) (aJ (aI (i:=2) qR.nd rfl (Or.inl rfl)) fj))))
  (@aB _ _ _ _ _ (aY (i:=3) qR.nd rfl (Or.inl rfl) (aP lM hr rfl aM (af (pv 1) ak)))
  (@aT _ _ _ (aW (iP (af (aP jZ hr rfl aM (af (pv 1) (af (pv 3) ak))) (af (aP iZ hr rfl aM (af (pv 3) (af (pv 2) ak))) ak))))))))),?_⟩
 refine⟨_,rfl,t,bs,m,rfl,hT,b7,hB,ev,ab,hd,h1,h2,h3,trivial,λH1 s1=> ?_⟩
 have D4:aA m<=401:=by omega
 have D0:=(gH ab).2.2
 refine⟨_,rfl,t,bs,m,rfl,hT.same s1,b7,hB,ev,ab,Nat.lt_of_le_of_lt (show(aA m).natAbs<=401 by omega) (by decide),s1 _ _ h4,s1 _ _ h5,s1 _ _ h6,λu us r rs B P H2 NT un dt xu bB s2 eP Tu Tr=> ?_⟩
 refine⟨P,_,rfl,pI.of eP,rfl,_,_,rfl,_,_,rfl,rfl,?_⟩
 have dN:aA (br m B)<=401:=by rw[dt];exact D4
 have NB:=Nh NT dN
 have Ia:=s1.trans s2
 refine⟨_,rfl,u,us,br m B,rfl,Tu,NT.xu,NT.ev,NB,NT,dN,Ia _ _ h5,λo os S H3 s3 To S3 uS SB best=> ?_⟩
 have Ra:=Ia.trans s3
 refine⟨_,rfl,_,rfl,u,us,br m B,o,os,S,rfl,Tu.same s3,To,NT.xu,S3,NB.mono (by decide),SB.mono (by decide),Ra _ _ h4,λx xs H4 s4 fx Wi nx Tx=> ?_⟩
 have Ut:=Ra.trans s4
 refine⟨_,rfl,_,rfl,o,os,S,r,rs,B,rfl,To.same s4,Tr.same (s3.trans s4),S3,xu,SB.mono (by decide),bB.mono (by decide),Ut _ _ h4,λy ys H5 s5 fy Wj ny Ty=> ?_⟩
 refine⟨(by show 2<=sizeLine;decide),λR hR=> ?_⟩
 have sR:=az.up (o:= .tup [V.ref x,.ref y]) hR
 have Tx:Tab H4 x xs (br (br m B) S):=Tx
 have eC:br (br m B) S=br m (gu S B):=oN m B S
 rw[eC]at Tx
 have uy:aA (gu S B)=1∨aA (gu S B)= -1:=by
  rw[lW]
  rcases uS with a|a<;>rcases un with b|b<;>rw[a,b]
  ·exact .inl rfl
  ·exact .inr rfl
  ·exact .inr rfl
  ·exact .inl rfl
 exact q R x xs y ys (gu S B) _ (Ut.trans (s5.trans sR)) ao ((Tx.same s5).same sR) (Ty.same sR) (cP _) uy ((uH SB bB).mono (by decide)) (Ra.none fx) (λb hb=>Ra.none (Wi b hb)) (Ut.none fy) (λb hb=>Ut.none (Wj b hb)) ny (by rw[<-eC];exact(KA NT best).from b7 un)
end
end CX
namespace L2
theorem oX{a b c P Q R:Int}(ha:0<=a)(hba:0<=b-a)(hcb:0<=c-b)(hP:0<=P)(hQ:0<=Q)(hR:0<=R)(FP:0<=a-2*P)(LF:0<=a-2*Q)(LG:0<=b-2*R):0<=a*b*c+4*(P*Q*R) -2*(a*(R*R)) -2*(b*(Q*Q)) -2*(c*(P*P)):=by
 have k0:=Int.mul_nonneg (Int.mul_nonneg hP hba) FP
 have k1:=Int.mul_nonneg (Int.mul_nonneg hP hcb) FP
 have k2:=Int.mul_nonneg (Int.mul_nonneg hP FP) ha
 have k3:=Int.mul_nonneg (Int.mul_nonneg hQ hba) LF
 have k4:=Int.mul_nonneg (Int.mul_nonneg hQ LF) ha
 have k5:=Int.mul_nonneg (Int.mul_nonneg hR FP) LF
 have k6:=Int.mul_nonneg (Int.mul_nonneg hR LG) ha
 have k7:=Int.mul_nonneg (Int.mul_nonneg hba hba) ha
 have k8:=Int.mul_nonneg (Int.mul_nonneg hba hcb) ha
 have k9:=Int.mul_nonneg (Int.mul_nonneg hba LG) ha
 have Zs:=Int.mul_nonneg (Int.mul_nonneg hba ha) ha
 have Zt:=Int.mul_nonneg (Int.mul_nonneg hcb FP) ha
 have Zu:=Int.mul_nonneg (Int.mul_nonneg hcb ha) ha
 have Zv:=Int.mul_nonneg (Int.mul_nonneg FP LG) ha
 have Zw:=Int.mul_nonneg (Int.mul_nonneg LF LG) ha
 have e:4*(a*b*c+4*(P*Q*R) -2*(a*(R*R)) -2*(b*(Q*Q)) -2*(c*(P*P)))=4*(P*(b-a)*(a-2*P))+4*(P*(c-b)*(a-2*P))+4*(P*(a-2*P)*a)+4*(Q*(b-a)*(a-2*Q))+4*(Q*(a-2*Q)*a)+4*(R*(a-2*P)*(a-2*Q))+4*(R*(b-2*R)*a)+2*((b-a)*(b-a)*a)+4*((b-a)*(c-b)*a)+2*((b-a)*(b-2*R)*a)+2*((b-a)*a*a)+2*((c-b)*(a-2*P)*a)+2*((c-b)*a*a)+2*((a-2*P)*(b-2*R)*a)+2*((a-2*Q)*(b-2*R)*a):=by grind
 (clear LG LF FP hR hQ hP hcb hba ha;omega)
theorem oY{a b c P Q R:Int}(ha:0<=a)(hba:0<=b-a)(hcb:0<=c-b)(hP:0<=P)(hQ:0<=Q)(hR:0<=R)(FP:0<=a-2*P)(LF:0<=a-2*Q)(LG:0<=b-2*R)(hw:0<=a+b-2*P-2*Q-2*R):0<=a*b*c-4*(P*Q*R) -2*(a*(R*R)) -2*(b*(Q*Q)) -2*(c*(P*P)):=by
 have k0:=Int.mul_nonneg (Int.mul_nonneg hP hba) FP
 have k1:=Int.mul_nonneg (Int.mul_nonneg hP hcb) FP
 have k2:=Int.mul_nonneg (Int.mul_nonneg hP FP) ha
 have k3:=Int.mul_nonneg (Int.mul_nonneg hP ha) hw
 have k4:=Int.mul_nonneg (Int.mul_nonneg hQ hba) hw
 have k5:=Int.mul_nonneg (Int.mul_nonneg hQ LF) ha
 have k6:=Int.mul_nonneg (Int.mul_nonneg hQ ha) hw
 have k7:=Int.mul_nonneg (Int.mul_nonneg hR hba) ha
 have k8:=Int.mul_nonneg (Int.mul_nonneg hR LG) ha
 have k9:=Int.mul_nonneg (Int.mul_nonneg hR ha) hw
 have Zs:=Int.mul_nonneg (Int.mul_nonneg hba hba) ha
 have Zt:=Int.mul_nonneg (Int.mul_nonneg hba hcb) ha
 have Zu:=Int.mul_nonneg (Int.mul_nonneg hba LF) LG
 have Zv:=Int.mul_nonneg (Int.mul_nonneg hba ha) ha
 have Zw:=Int.mul_nonneg (Int.mul_nonneg hba ha) hw
 have k15:=Int.mul_nonneg (Int.mul_nonneg hcb FP) ha
 have k16:=Int.mul_nonneg (Int.mul_nonneg hcb ha) ha
 have k17:=Int.mul_nonneg (Int.mul_nonneg FP LF) LG
 have k18:=Int.mul_nonneg (Int.mul_nonneg ha ha) hw
 have e:4*(a*b*c-4*(P*Q*R) -2*(a*(R*R)) -2*(b*(Q*Q)) -2*(c*(P*P)))=4*(P*(b-a)*(a-2*P))+4*(P*(c-b)*(a-2*P))+2*(P*(a-2*P)*a)+2*(P*a*(a+b-2*P-2*Q-2*R))+4*(Q*(b-a)*(a+b-2*P-2*Q-2*R))+2*(Q*(a-2*Q)*a)+2*(Q*a*(a+b-2*P-2*Q-2*R))+2*(R*(b-a)*a)+2*(R*(b-2*R)*a)+2*(R*a*(a+b-2*P-2*Q-2*R))+1*((b-a)*(b-a)*a)+4*((b-a)*(c-b)*a)+2*((b-a)*(a-2*Q)*(b-2*R))+1*((b-a)*a*a)+1*((b-a)*a*(a+b-2*P-2*Q-2*R))+2*((c-b)*(a-2*P)*a)+2*((c-b)*a*a)+2*((a-2*P)*(a-2*Q)*(b-2*R))+1*(a*a*(a+b-2*P-2*Q-2*R)):=by grind
 (clear hw LG LF FP hR hQ hP hcb hba ha;omega)
theorem Tn{a b c p q r:Int}(ha:0<=a)(ab:a<=b)(bc:b<=c)(p1: -a<=2*p)(p2:2*p<=a)(q1: -a<=2*q)(q2:2*q<=a)(r1: -b<=2*r)(r2:2*r<=b)
  (w1:0<=a+b+2*p+2*q+2*r)(w2:0<=a+b+2*p-2*q-2*r)(w3:0<=a+b-2*p+2*q-2*r)(w4:0<=a+b-2*p-2*q+2*r):
  0<=a*b*c+4*(p*q*r) -2*(a*(r*r)) -2*(b*(q*q)) -2*(c*(p*p)):=by
 have n2:∀x:Int,-x* -x=x*x:=λx=>by grind
 have m1: -p* -q*r=p*q*r:=by grind
 have m2: -p*q* -r=p*q*r:=by grind
 have m3:p* -q* -r=p*q*r:=by grind
 have m4: -p*q*r= -(p*q*r):=by grind
 have m5:p* -q*r= -(p*q*r):=by grind
 have m6:p*q* -r= -(p*q*r):=by grind
 have m7: -p* -q* -r= -(p*q*r):=by grind
 have np:=n2 p
 have nq:=n2 q
 have nr:=n2 r
 rcases Int.le_total 0 p with hp|hp<;>rcases Int.le_total 0 q with hq|hq<;>rcases Int.le_total 0 r with hr|hr
 ·exact oX ha (by omega) (by omega) hp hq hr (by omega) (by omega) (by omega)
 ·have:=oY (P:=p) (Q:=q) (R:= -r) (a:=a) (b:=b) (c:=c) ha (by omega) (by omega) hp hq (by omega) (by omega) (by omega) (by omega) (by omega)
  rw[nr,m6]at this
  (clear hr hq hp nr nq np m1 n2 w4 w3 w2 w1 r2 r1 q2 q1 p2 p1 bc ab ha;omega)
 ·have:=oY (P:=p) (Q:= -q) (R:=r) (a:=a) (b:=b) (c:=c) ha (by omega) (by omega) hp (by omega) hr (by omega) (by omega) (by omega) (by omega)
  rw[nq,m5]at this
  (clear hr hq hp nr nq np m1 n2 w4 w3 w2 w1 r2 r1 q2 q1 p2 p1 bc ab ha;omega)
 ·have:=oX (P:=p) (Q:= -q) (R:= -r) (a:=a) (b:=b) (c:=c) ha (by omega) (by omega) hp (by omega) (by omega) (by omega) (by omega) (by omega)
  rw[nq,nr,m3]at this
  omega
 ·have:=oY (P:= -p) (Q:=q) (R:=r) (a:=a) (b:=b) (c:=c) ha (by omega) (by omega) (by omega) hq hr (by omega) (by omega) (by omega) (by omega)
  rw[np,m4]at this
  (clear hr hq hp nr nq np m1 n2 w4 w3 w2 w1 r2 r1 q2 q1 p2 p1 bc ab ha;omega)
 ·have:=oX (P:= -p) (Q:=q) (R:= -r) (a:=a) (b:=b) (c:=c) ha (by omega) (by omega) (by omega) hq (by omega) (by omega) (by omega) (by omega)
  rw[np,nr,m2]at this
  omega
 ·have:=oX (P:= -p) (Q:= -q) (R:=r) (a:=a) (b:=b) (c:=c) ha (by omega) (by omega) (by omega) (by omega) hr (by omega) (by omega) (by omega)
  rw[np,nq,m1]at this
  omega
 ·have:=oY (P:= -p) (Q:= -q) (R:= -r) (a:=a) (b:=b) (c:=c) ha (by omega) (by omega) (by omega) (by omega) (by omega) (by omega) (by omega) (by omega) (by omega)
  rw[np,nq,nr,m7]at this
  (clear hr hq hp nr nq np m1 n2 w4 w3 w2 w1 r2 r1 q2 q1 p2 p1 bc ab ha;omega)
end L2
namespace L2
open PySem PySem.Spec PyProof.Rows
theorem Qp{M:List (List Int)}(ev:bJ M)(E:List (List Int)){i j:Nat}(hi:i<3)(hj:j<3):ent (br M E) i j=
  ent E i 0*(ent M 0 0*ent E j 0+ent M 0 1*ent E j 1+ent M 0 2*ent E j 2)+ent E i 1*(ent M 0 1*ent E j 0+ent M 1 1*ent E j 1+ent M 1 2*ent E j 2)+ent E i 2*(ent M 0 2*ent E j 0+ent M 1 2*ent E j 1+ent M 2 2*ent E j 2):=by
 obtain⟨HZ,Ql,QY⟩:=ev.sym
 rw[kg M E hi hj,aV,HZ,Ql,QY]
 grind
structure qi(M:List (List Int)):Prop where
 pos:0<ent M 0 0
 BC:ent M 0 0<=ent M 1 1
 Dw:ent M 1 1<=ent M 2 2
 p: -(ent M 0 0)<=2*ent M 0 1/\2*ent M 0 1<=ent M 0 0
 q: -(ent M 0 0)<=2*ent M 0 2/\2*ent M 0 2<=ent M 0 0
 r: -(ent M 1 1)<=2*ent M 1 2/\2*ent M 1 2<=ent M 1 1
 prod:ent M 0 0*ent M 1 1*ent M 2 2<=2*aA M
noncomputable def q3(M:List (List Int))(x y z:Int):Int:=ent M 0 0*(x*x)+ent M 1 1*(y*y)+ent M 2 2*(z*z)+2*(ent M 0 1*(x*y))+2*(ent M 0 2*(x*z))+2*(ent M 1 2*(y*z))
theorem sN{M:List (List Int)}(ev:bJ M)(h:dO M M)(x0 x1 x2 y0 y1 y2 z0 z1 z2:Int)(un:cV (aA [[x0,x1,x2],[y0,y1,y2],[z0,z1,z2]])):
  ent M 0 0<=q3 M x0 x1 x2/\(q3 M x0 x1 x2=ent M 0 0->ent M 1 1<=q3 M y0 y1 y2/\(q3 M y0 y1 y2=ent M 1 1->ent M 2 2<=q3 M z0 z1 z2)):=by
 have k:=h.le [[x0,x1,x2],[y0,y1,y2],[z0,z1,z2]] ⟨rfl,λr hr=>by
  simp only[List.mem_cons,List.not_mem_nil,or_false]at hr
  rcases hr with rfl|rfl|rfl<;>rfl⟩ un
 have e0:ent (br M [[x0,x1,x2],[y0,y1,y2],[z0,z1,z2]]) 0 0=q3 M x0 x1 x2:=by
  rw[Qp ev _ (by decide) (by decide)]
  show x0*(ent M 0 0*x0+ent M 0 1*x1+ent M 0 2*x2)+x1*(ent M 0 1*x0+ent M 1 1*x1+ent M 1 2*x2)+x2*(ent M 0 2*x0+ent M 1 2*x1+ent M 2 2*x2)=_
  unfold q3
  grind
 have e1:ent (br M [[x0,x1,x2],[y0,y1,y2],[z0,z1,z2]]) 1 1=q3 M y0 y1 y2:=by
  rw[Qp ev _ (by decide) (by decide)]
  show y0*(ent M 0 0*y0+ent M 0 1*y1+ent M 0 2*y2)+y1*(ent M 0 1*y0+ent M 1 1*y1+ent M 1 2*y2)+y2*(ent M 0 2*y0+ent M 1 2*y1+ent M 2 2*y2)=_
  unfold q3
  grind
 have e2:ent (br M [[x0,x1,x2],[y0,y1,y2],[z0,z1,z2]]) 2 2=q3 M z0 z1 z2:=by
  rw[Qp ev _ (by decide) (by decide)]
  show z0*(ent M 0 0*z0+ent M 0 1*z1+ent M 0 2*z2)+z1*(ent M 0 1*z0+ent M 1 1*z1+ent M 1 2*z2)+z2*(ent M 0 2*z0+ent M 1 2*z1+ent M 2 2*z2)=_
  unfold q3
  grind
 unfold Tc at k
 rw[e0,e1,e2]at k
 (clear e2 e1 e0;omega)
theorem Qq{a b x y:Int}(h1:b<=x)(h2:b<=y){p:Int}(e1:x=a+b+2*p)(e2:y=a+b+2* -p): -a<=2*p/\2*p<=a:=by omega
theorem Nq{c x w:Int}(h:c<=x)(e:x=c+w):0<=w:=by omega
theorem qZ(M:List (List Int)):q3 M 1 0 0=ent M 0 0/\q3 M 0 1 0=ent M 1 1/\q3 M 0 0 1=ent M 2 2:=by
 unfold q3
 refine⟨?_,?_,?_⟩<;>grind
theorem Qs{M:List (List Int)}(ev:bJ M)(h:dO M M)(x0 x1 x2 y0 y1 y2 z0 z1 z2:Int)(un:cV (aA [[x0,x1,x2],[y0,y1,y2],[z0,z1,z2]])):ent M 0 0<=q3 M x0 x1 x2:=(sN ev h _ _ _ _ _ _ _ _ _ un).1
theorem Ec{M:List (List Int)}(ev:bJ M)(h:dO M M)(y0 y1 y2 z0 z1 z2:Int)(un:cV (aA [[1,0,0],[y0,y1,y2],[z0,z1,z2]])):ent M 1 1<=q3 M y0 y1 y2:=((sN ev h _ _ _ _ _ _ _ _ _ un).2 (qZ M).1).1
theorem oF{M:List (List Int)}(ev:bJ M)(h:dO M M)(z0 z1 z2:Int)(un:cV (aA [[1,0,0],[0,1,0],[z0,z1,z2]])):ent M 2 2<=q3 M z0 z1 z2:=((sN ev h _ _ _ _ _ _ _ _ _ un).2 (qZ M).1).2 (qZ M).2.1
theorem Hz{M:List (List Int)}(ev:bJ M):aA M=ent M 0 0*ent M 1 1*ent M 2 2+2*(ent M 0 1*ent M 0 2*ent M 1 2) -ent M 0 0*(ent M 1 2*ent M 1 2) -ent M 1 1*(ent M 0 2*ent M 0 2) -ent M 2 2*(ent M 0 1*ent M 0 1):=by
 obtain⟨HZ,Ql,QY⟩:=ev.sym
 rw[dI,HZ,Ql,QY]
 grind
theorem KJ{a b c p q r d:Int}(gs:0<=a*b*c+4*(p*q*r) -2*(a*(r*r)) -2*(b*(q*q)) -2*(c*(p*p)))(dt:d=a*b*c+2*(p*q*r) -a*(r*r) -b*(q*q) -c*(p*p)):a*b*c<=2*d:=by omega
theorem Cj{M:List (List Int)}(ev:bJ M)(ab:b8 M=true)(h:dO M M):qi M:=by
 have a0:=(gH ab).1
 have dt:=Hz ev
 have l1:ent M 0 0<=ent M 1 1:=(qZ M).2.1▸Qs ev h 0 1 0 1 0 0 0 0 1 (.inr (by decide))
 have l2:ent M 1 1<=ent M 2 2:=(qZ M).2.2▸Ec ev h 0 0 1 0 1 0 (.inr (by decide))
 have hp:=Qq (a:=ent M 0 0) (p:=ent M 0 1) (Ec ev h 1 1 0 0 0 1 (.inl (by decide))) (Ec ev h (-1) 1 0 0 0 1 (.inl (by decide))) (by unfold q3;grind) (by unfold q3;grind)
 have hq:=Qq (a:=ent M 0 0) (p:=ent M 0 2) (oF ev h 1 0 1 (.inl (by decide))) (oF ev h (-1) 0 1 (.inl (by decide))) (by unfold q3;grind) (by unfold q3;grind)
 have hr:=Qq (a:=ent M 1 1) (p:=ent M 1 2) (oF ev h 0 1 1 (.inl (by decide))) (oF ev h 0 (-1) 1 (.inl (by decide))) (by unfold q3;grind) (by unfold q3;grind)
 have w1:0<=ent M 0 0+ent M 1 1+2*ent M 0 1+2*ent M 0 2+2*ent M 1 2:=Nq (oF ev h 1 1 1 (.inl (by decide))) (by unfold q3;grind)
 have w2:0<=ent M 0 0+ent M 1 1+2*ent M 0 1-2*ent M 0 2-2*ent M 1 2:=Nq (oF ev h (-1) (-1) 1 (.inl (by decide))) (by unfold q3;grind)
 have w3:0<=ent M 0 0+ent M 1 1-2*ent M 0 1+2*ent M 0 2-2*ent M 1 2:=Nq (oF ev h 1 (-1) 1 (.inl (by decide))) (by unfold q3;grind)
 have w4:0<=ent M 0 0+ent M 1 1-2*ent M 0 1-2*ent M 0 2+2*ent M 1 2:=Nq (oF ev h (-1) 1 1 (.inl (by decide))) (by unfold q3;grind)
 exact⟨a0,l1,l2,hp,hq,hr,KJ (Tn (Int.le_of_lt a0) l1 l2 hp.1 hp.2 hq.1 hq.2 hr.1 hr.2 w1 w2 w3 w4) dt⟩
theorem qi.sizes{M:List (List Int)}(h:qi M):ent M 2 2<=2*aA M:=by
 have a0:=h.pos
 have l1:=h.BC
 have l2:=h.Dw
 have ab:1<=ent M 0 0*ent M 1 1:=by
  have:=Int.mul_pos a0 (show 0<ent M 1 1 by omega)
  omega
 have k:=Int.mul_le_mul_of_nonneg_right ab (show 0<=ent M 2 2 by omega)
 have:=h.prod
 omega
theorem qi.bd{M:List (List Int)}(ev:bJ M)(h:qi M)(d:aA M<=401):Bd 30 M:=λi j hi hj=>by
 have s:=h.sizes
 have a0:=h.pos
 have l1:=h.BC
 have l2:=h.Dw
 obtain⟨p1,p2⟩:=h.p
 obtain⟨q1,q2⟩:=h.q
 obtain⟨r1,r2⟩:=h.r
 obtain⟨HZ,Ql,QY⟩:=ev.sym
 have:(ent M i j).natAbs<=802:=by
  rcases aN hi with rfl|rfl|rfl<;>rcases aN hj with rfl|rfl|rfl<;>omega
 exact Nat.lt_of_le_of_lt this (by decide)
theorem dO.all{m M:List (List Int)}(ev:bJ m)(c:bE m)(ab:b8 m=true)(d:aA m<=401)(h:dO m M):qi M/\bJ M/\bE M/\b8 M=true/\aA M=aA m/\Bd 30 M:=by
 obtain⟨B,cB,uB,e⟩:=h.LK
 have Tv:=h.Sk ev c
 have dM:aA M=aA m:=by rw[e];exact vD uB
 have Wk:b8 M=true:=by rw[e];exact pQ (fG ev c) ab cB uB
 have sm:=Cj Tv Wk (h.self c)
 exact⟨sm,Tv,h.xu,Wk,dM,sm.bd Tv (by omega)⟩
end L2
namespace L2
open PySem PySem.Spec PyProof.Rows PySem.SeqAt
open AutoSeq1 (wpAny_loadPart')
open MeetsSeq MeetsSeq2 MeetsSeq3 SeqRoads2
noncomputable def ng:List Int->List Int->Bool
 |x::xs,y::ys=>if x=y then ng xs ys else decide (x<y)
 |_,_=>false
noncomputable abbrev Ck(xs ys:List Int)(j:Nat):Bool:=decide (xs.getD j 0<ys.getD j 0)
theorem t6(x y:Int)(xs ys:List Int):∀k i,pq (pairEq ((x::xs).map .int) ((y::ys).map .int)) (Ck (x::xs) (y::ys)) k (i+1)=pq (pairEq (xs.map .int) (ys.map .int)) (Ck xs ys) k i
 |0,_=>rfl
 |k+1,i=>by
  show(if pairEq _ _ (i+1)then _ else Ck (x::xs) (y::ys) (i+1))=if pairEq _ _ i then _ else Ck xs ys i
  rw[t6 x y xs ys k (i+1)]
  rfl
theorem yS:∀{xs ys:List Int},xs.length=ys.length->pq (pairEq (xs.map .int) (ys.map .int)) (Ck xs ys) xs.length 0=ng xs ys
 | [],[],_=>rfl
 |x::xs,y::ys,h=>by
  show(if pairEq ((x::xs).map PyData.int) ((y::ys).map PyData.int) 0 then pq _ _ xs.length (0+1)else Ck (x::xs) (y::ys) 0)=_
  rw[t6,yS (by simpa using h)]
  have e:pairEq ((x::xs).map PyData.int) ((y::ys).map PyData.int) 0=decide (x=y):=rfl
  rw[e]
  show _=if x=y then ng xs ys else decide (x<y)
  by_cases c:x=y
  ·rw[if_pos c,if_pos (decide_eq_true c)]
  ·rw[if_neg c,if_neg (λz=>c (of_decide_eq_true z))]
   rfl
theorem wu{A:Around}{s:Shared}:∀{xs ys:List Int}{vs ws:List Value}{as bs:List Addr},ReadsAll s.heap vs (xs.map .int) as->ReadsAll s.heap ws (ys.map .int) bs-> ∀j (h1:j<vs.length) (h2:j<ws.length),pU A s vs[j] ws[j] (Ck xs ys j)
 | [],_,_,_,_,_,ra,_,j,h1,_=>by cases ra;exact absurd h1 (Nat.not_lt_zero _)
 |_::_,[],_,_,_,_,_,rb,j,_,h2=>by cases rb;exact absurd h2 (Nat.not_lt_zero _)
 |x::xs,y::ys,_,_,_,_,ra,rb,j,h1,h2=>by
  cases ra with
  |cons r rs=>
   cases rb with
   |cons r' rs'=>
    cases j with
    |zero=>
     cases r
     cases r'
     exact pU.int_int x _ y _
    |succ j=>exact wu rs rs' j (Nat.lt_of_succ_lt_succ h1) (Nat.lt_of_succ_lt_succ h2)
noncomputable def Wl(K:PySem.W.Frag):R2:=λx y H Q=> ∃(a b:Addr)(xs ys:List Int),x= .ref a/\y= .ref b/\aU K H a (xs.map V.int)/\aU K H b (ys.map V.int)/\xs.length=ys.length/\Q (.bl (ng xs ys)) H
section
variable{X:Cx}
theorem Qt(hu:X.A.units+64<cLine):qz X (compareOp .Lt) (Wl X.K):=by
 intro pins s σ H x y v u Q I rx ry h
 obtain⟨a,b,xs,ys,rfl,rfl,ha,hb,hl,q⟩:=h
 obtain⟨as,r1⟩:=lV I (.lst (ds:=xs.map PyData.int) ha (Be xs)) rx
 obtain⟨bs,r2⟩:=lV I (.lst (ds:=ys.map PyData.int) hb (Be ys)) ry
 have sx:shaped (.list (xs.map PyData.int))=true:=pO xs
 have sy:shaped (.list (ys.map PyData.int))=true:=pO ys
 have ca:=canLay_of_shaped sx
 have cb:=canLay_of_shaped sy
 have hr:=room_of_shaped (A:=X.A) (db:= .list (ys.map PyData.int)) sx hu
 cases rx
 cases ry
 show wpAny _ _ (richCompare .Lt (.ref a) (.ref b)) _ _ s
 cases r1 with
 | @list l o vs n _ as₁ h1 h2 h3 h4=>
  cases r2 with
  | @list l' o' vs' n' _ bs₁ k1 k2 k3 k4=>
   have n1:vs.size=(xs.map PyData.int).length:=by simpa using ReadsAll.length _ _ _ h4
   have n2:vs'.size=(ys.map PyData.int).length:=by simpa using ReadsAll.length _ _ _ k4
   have g:=pU.lists (A:=X.A) (e:=pairEq (xs.map PyData.int) (ys.map PyData.int)) (f:=Ck xs ys) ⟨_,h1,h2,_,h3⟩ ⟨_,k1,k2,_,k3⟩ (by rw[n1,n2,List.length_map,List.length_map,hl]) (room_here hr) (λj j1 j2=>by
    have:=eqAt_readsAll (xs.map PyData.int) (ys.map PyData.int) X.A.in1 s vs.toList vs'.toList _ _ h4 k4 ca cb (room_in hr) j (by simpa using j1) (by simpa using j2)
    simpa using this) (λj j1 j2 _=>by
    have:=wu (A:=X.A.in1) h4 k4 j (by simpa using j1) (by simpa using j2)
    simpa using this)
   rw[n1,List.length_map,yS hl]at g
   exact g _ _ _ _ ⟨.bl (ng xs ys),H,I,rfl,q⟩
end
end L2
namespace L2
open PySem PySem.Spec PyProof.Rows
theorem HA{J:It}{H1:Hp}{xs:List V}{σ:St}{tt:TT}{te:TE}{Q:VK}(jw:JW J H1 xs)(hz:xs.length<=sizeLine){D:Addr}(hD:H1 D=none)(p:V->Bool)(R:V->V->Hp->Prop)
  (mono:∀x v H H',R x v H->(∀b o,b≠D->H b=some o->H' b=some o) ->R x v H')
  (ht:∀x∈xs,∀H' (R:Bool->Hp->Prop),az H1 H'->(∀H2,az H' H2->R (p x) H2) ->tt (some x::σ) H' R)
  (hs:∀x∈xs,p x=true-> ∀H' (Q':VK),az H1 H'->(∃o,H' D=some o) ->(∀v H2,az H' H2->R x v H2->Q' v H2) ->te (some x::σ) H' Q')
  (hq:∀vs H',az H1 H'->vs.length=(xs.filter p).length->(∀(j:Nat)(x v:V),(xs.filter p)[j]?=some x->vs[j]?=some v->R x v H') ->H' D=some (.lst vs) ->Q (.ref D) H'):Ff 1 (dZ 0) tt te σ J H1 D Q:=by
 refine⟨λi m acc σ' H'=>m=xs.length-i/\i<=xs.length/\acc.length=((xs.take i).filter p).length/\(∀(j:Nat)(x v:V),((xs.take i).filter p)[j]?=some x->acc[j]?=some v->R x v H')/\(∃o,σ'=o::σ)/\az H1 H'/\H' D=some (.lst acc),⟨xs.length,rfl,Nat.zero_le _,by simp,λj x v e _=>by simp at e,⟨none,rfl⟩,az.up hD,ao⟩,?_⟩
 rintro i m acc σ' H' ⟨rfl,hi,ha,hR,⟨o,rfl⟩,sm,eD⟩
 by_cases hlt:i<xs.length
 ·refine .inr ⟨jw.go i H' sm hlt,?_,λx H2 y=> ?_⟩
  ·rw[ha]
   have:=List.length_filter_le p (xs.take i)
   rw[List.length_take]at this
   omega
  ·obtain⟨e2,ex⟩:=jw.AD i H' x H2 sm hlt y
   subst e2
   have hx:x∈xs:=List.mem_of_getElem? ex
   have tk:xs.take (i+1)=xs.take i++ [x]:=by rw[List.take_add_one,ex];rfl
   refine ht x hx H2 _ sm λH3 s3=> ?_
   cases hp:p x with
   |false=>
    rw[if_neg Bool.false_ne_true]
    have e1:(xs.take (i+1)).filter p=(xs.take i).filter p:=by rw[tk,List.filter_append];simp[hp]
    exact⟨xs.length- (i+1),by omega,rfl,by omega,by rw[e1];exact ha,λj x v ex ev=>mono _ _ _ _ (hR j x v (e1▸ex) ev) λb o _ h=>s3 b o h,⟨_,rfl⟩,sm.trans s3,s3 _ _ eD⟩
   |true=>
    rw[if_pos rfl]
    have e1:(xs.take (i+1)).filter p=(xs.take i).filter p++ [x]:=by rw[tk,List.filter_append];simp[hp]
    refine hs x hx hp H3 _ (sm.trans s3) ⟨_,s3 _ _ eD⟩ λv H4 s4 r=>⟨s4 _ _ (s3 _ _ eD),xs.length- (i+1),by omega,rfl,by omega,by rw[e1,List.length_append,List.length_append,ha];rfl,λj x' v' ex ev=> ?_,⟨_,rfl⟩,((sm.trans s3).trans s4).upd hD,ao⟩
    have off:∀b o,b≠D->H4 b=some o->upd H4 D (.lst (acc++ [v])) b=some o:=λb o n h=>by rw[aG n];exact h
    rw[e1]at ex
    by_cases c:j<acc.length
    ·rw[List.getElem?_append_left c]at ev
     rw[List.getElem?_append_left (by omega)]at ex
     exact mono _ _ _ _ (hR j x' v' ex ev) λb o n h=>off b o n (s4 _ _ (s3 b o h))
    ·have:j=acc.length:=by
      have:=(List.getElem?_eq_some_iff.mp ev).1
      rw[List.length_append]at this
      simp at this
      omega
     subst this
     rw[List.getElem?_append_right (Nat.le_refl _)]at ev
     rw[ha,List.getElem?_append_right (Nat.le_refl _)]at ex
     simp at ev ex
     subst ev
     subst ex
     exact mono _ _ _ _ r off
 ·obtain rfl:i=xs.length:=by omega
  rw[List.take_length]at ha hR
  exact .inl ⟨jw.stop H' sm,eD,hq acc H' sm ha hR eD⟩
noncomputable def KL(k:Nat):List Int:=[(k:Int)/9-1,(k:Int)/3%3-1,(k:Int)%3-1]
noncomputable def wC:List (List Int):=((List.range 27).filter (λk=>decide (k≠13))).map KL
theorem Ed{r:List Int}(h:r∈wC):∃x y z:Int,r=[x,y,z]/\ -1<=x/\x<=1/\ -1<=y/\y<=1/\ -1<=z/\z<=1/\(x≠0∨y≠0∨z≠0):=by
 obtain⟨k,hk,rfl⟩:=List.mem_map.mp h
 rw[List.mem_filter,List.mem_range]at hk
 have n13:k≠13:=of_decide_eq_true hk.2
 exact⟨_,_,_,rfl,by omega,by omega,by omega,by omega,by omega,by omega,by omega⟩
noncomputable def Up(O:Addr)(H H':Hp):Prop:=∀b o,b≠O->H b=some o->H' b=some o
theorem Up.refl{O:Addr}(H:Hp):Up O H H:=λ_ _ _ h=>h
theorem Up.trans{O:Addr}{H H' NY:Hp}(a:Up O H H')(b:Up O H' NY):Up O H NY:=λx o n h=>b x o n (a x o n h)
theorem Up.of{O:Addr}{H H':Hp}(s:az H H'):Up O H H':=λb o _ h=>s b o h
theorem Up.at{O:Addr}{H:Hp}{v:HO}:Up O H (upd H O v):=λb o n h=>by rw[aG n];exact h
theorem Up.same{O:Addr}{H H1 H':Hp}(s:az H H1)(f:H O=none)(u:Up O H1 H'):az H H':=λb o h=>u b o (λz=>by rw[z,f]at h;cases h) (s b o h)
theorem Tab.up{O t:Addr}{H H':Hp}{bs:List Addr}{m:List (List Int)}(h:Tab H t bs m)(nt:t≠O)(nb:O∉bs)(u:Up O H H'):Tab H' t bs m:=
 ⟨u _ _ nt h.1,by
  have k:=h.2
  clear h
  induction k with
  |nil=>exact .nil
  | @cons r b m bs e _ ih=>exact .cons (u _ _ (λz=>nb (z▸List.mem_cons_self)) e) (ih λz=>nb (List.mem_cons_of_mem _ z))⟩
structure yT(O:Addr)(H:Hp)(t:Addr):Prop where
 nt:t≠O
 ex:∃bs m,Tab H t bs m/\O∉bs/\bE m/\Bd 900 m/\cV (aA m)
theorem yT.up{O t:Addr}{H H':Hp}(h:yT O H t)(u:Up O H H'):yT O H' t:=by
 obtain⟨nt,bs,m,T,nb,r⟩:=h
 exact⟨nt,bs,m,T.up nt nb u,nb,r⟩
theorem HB{xs:List V}{k:Nat}(h:k<=xs.length):vh xs (some (k:Int)) none=xs.drop k:=by
 have e1:HT.zj xs.length xs.length none=xs.length:=rfl
 have e2:HT.zj xs.length 0 (some (k:Int))=k:=by
  show(if(k:Int)<0 then((k:Int)+(xs.length:Int)).toNat else min (k:Int).toNat xs.length)=k
  rw[if_neg (by omega),Int.toNat_natCast]
  omega
 unfold vh
 rw[e1,e2]
 exact List.take_of_length_le (by rw[List.length_drop];exact Nat.le_refl _)
noncomputable def yU(k:Nat)(r:List Int):List (List Int):=(gU 1).take k++([r]++(gU 1).drop (k+1))
theorem KN{H:Hp}{t p q p0 p1 p2 q0 q1 q2 b:Addr}{r:List Int}{k:Nat}(hk:k<3)(Tp:Tab H p [p0,p1,p2] (gU 1))(Tq:Tab H q [q0,q1,q2] (gU 1))(hb:H b=some (.lst (r.map V.int)))
  (ht:H t=some (.lst ((([p0,p1,p2].take k++([b]++ [q0,q1,q2].drop (k+1)))).map V.ref))):Tab H t ([p0,p1,p2].take k++([b]++ [q0,q1,q2].drop (k+1))) (yU k r):=by
 obtain⟨_,a⟩:=Tp
 obtain⟨_,c⟩:=Tq
 cases a with
 |cons a0 a=>
 cases a with
 |cons a1 a=>
 cases a with
 |cons a2 a=>
 cases c with
 |cons c0 c=>
 cases c with
 |cons c1 c=>
 cases c with
 |cons c2 c=>
 rcases aN hk with rfl|rfl|rfl
 ·exact⟨ht,.cons hb (.cons c1 (.cons c2 .nil))⟩
 ·exact⟨ht,.cons a0 (.cons hb (.cons c2 .nil))⟩
 ·exact⟨ht,.cons a0 (.cons a1 (.cons hb .nil))⟩
theorem Nr{k:Nat}(hk:k<3){x y z:Int}(hx: -1<=x/\x<=1)(hy: -1<=y/\y<=1)(hz: -1<=z/\z<=1)(n: [x,y,z].getD k 0≠0):bE (yU k [x,y,z])/\Bd 900 (yU k [x,y,z])/\cV (aA (yU k [x,y,z])):=by
 have one:∀v:Int,-1<=v/\v<=1->v.natAbs<2^900:=λv h=>Nat.lt_of_le_of_lt (show v.natAbs<=1 by omega) (by decide)
 refine⟨?_,?_,?_⟩
 ·rcases aN hk with rfl|rfl|rfl<;>exact⟨rfl,λr hr=>by
   simp only[yU,gU,mk3,List.take,List.drop,List.cons_append,List.nil_append,List.mem_cons,List.not_mem_nil,or_false]at hr
   rcases hr with rfl|rfl|rfl<;>rfl⟩
 ·intro i j hi hj
  rcases aN hk with rfl|rfl|rfl<;>rcases aN hi with rfl|rfl|rfl<;>rcases aN hj with rfl|rfl|rfl<;>
   first
    |exact one x hx
    |exact one y hy
    |exact one z hz
    |exact one 1 (by decide)
    |exact one 0 (by decide)
 ·have e:aA (yU k [x,y,z])=[x,y,z].getD k 0:=by
   rcases aN hk with rfl|rfl|rfl
   ·show x*(1*1-0*0)+y*(0*0-0*1)+z*(0*0-1*0)=x
    omega
   ·show 1*(y*1-z*0)+0*(z*0-x*1)+0*(x*0-y*0)=y
    omega
   ·show 1*(1*z-0*y)+0*(0*x-0*z)+0*(0*y-1*x)=z
    omega
  have b: -1<=[x,y,z].getD k 0/\ [x,y,z].getD k 0<=1:=by rcases aN hk with rfl|rfl|rfl<;>assumption
  rw[e]
  show _=1∨_= -1
  omega
theorem Qu{A B:List (List Int)}(h:Tc A B):ng [ent B 0 0,ent B 1 1,ent B 2 2,ent B 0 1,ent B 0 2,ent B 1 2] [ent A 0 0,ent A 1 1,ent A 2 2,ent A 0 1,ent A 0 2,ent A 1 2]=false:=by
 unfold Tc xr at h
 have st:∀(x y:Int)(xs ys:List Int),(x<y->False) ->(x=y->ng xs ys=false) ->ng (x::xs) (y::ys)=false:=λx y xs ys h1 h2=>by
  unfold ng
  split
  ·exact h2 (by assumption)
  ·exact decide_eq_false h1
 refine st _ _ _ _ (by omega) λe0=> ?_
 refine st _ _ _ _ (by omega) λe1=> ?_
 refine st _ _ _ _ (by omega) λe2=> ?_
 refine st _ _ _ _ (by omega) λe3=> ?_
 refine st _ _ _ _ (by omega) λe4=> ?_
 refine st _ _ _ _ (by omega) λe5=> ?_
 rfl
end L2
namespace L2
open PySem
theorem Ef{X:Cx}{CX:EN}{k:Nat}{ps:List Str}{sp:Sp}{E:XK}{x:Str}{p pos:Pos}(F:dQ X.prog X.w X.K X.mg X.base CX k x ps sp)(hr:fS k X.A)(hg:Gl X x)(hx:Passes CX X E)
  (hdb:(x==("__debug__":Str))=false:=by decide):
  PE X (.Call (.Name x p) [] [] pos) (j5 sp [] E j4):=by
 obtain⟨f,fd,a,b,kp,m⟩:=F.ex
 exact ID a hr hg m kp b .nil hx hdb
end L2
namespace L2
open PySem PySem.Spec PyProof.Rows
section
variable{prog:Program}{w:World}{A:Around}{E:Value->Shared->Prop}{s:Shared}
end
section
variable{X:Cx}
end
section
variable{X:Cx}{pins:List (Addr×Obj)}{σ:St}{H:Hp}{s:Shared}
open Classical in
end
end L2
set_option maxHeartbeats 1000000
namespace CX
open PySem L2
section
variable{P:Program}{w:World}{K:PySem.W.Frag}{mg:Str->Option Value}{base:Heap}
inductive Oq(K:PySem.W.Frag)(vs:List V)(H:Hp)(Q:VK)(E:XK):Prop
 |mk(a:Addr)(ns:List Int)(k:Int)(_:vs=[.ref a,.int k])(_:aU K H a (ns.map V.int))(_:ns.length<=63)(_:0<=k)(_:k<1000)(_:∀B H',az H H'->H B=none->lX H' B->Q (.ref B) H')
theorem Cm(F:fU K mg "_law_bag" p8 kB)(kG:mg "len"=none)(wD:mg "abs"=none):dQ P w K mg base dz 1 "_law_bag" kB (Oq K):=by
 refine F.ok jm (λvs H Q E h=> ?_) (λf cdv A outer s H vs Q E hr h=> ?_)
 ·obtain⟨a,ns,k,rfl,hS,h63,h0,hk,q⟩:=h
  rfl
 obtain⟨a,ns,k,rfl,hS,h63,h0,hk,q⟩:=h
 have hu:=hr.units
 refine⟨_,(oO (@aB _ _ _ _ _ (aY (i:=2) jm.nd rfl (Or.inl rfl) ah)
  (@aB _ _ _ _ _ (eE (cL RH (pv 1) (eG iw rfl kG PySem.boot_len (af (pv 0) ak)) (cK _)) (@aT _ _ _ (aY (i:=2) jm.nd rfl (Or.inl rfl) (aD au (pv 0) (pv 1) (λ_ _=>rfl)))) d9)
  (@aB _ _ _ _ _ (aY (i:=3) jm.nd rfl (Or.inl rfl) ah)
  (@aB _ _ _ _ _ (eE (cL Iu (eG vd rfl wD PyProof.Rows.boot_abs (af (pv 2) ak)) (aq Iq ah ah) (cK _)) (@aT _ _ _ (aY (i:=3) jm.nd rfl (Or.inl rfl) (eG vd rfl wD PyProof.Rows.boot_abs (af (pv 2) ak)))) d9)
  (@aT _ _ _ (aW (dR (af (pv 3) (af (aq bV (aq g8 (aq g7 (aq bV (aq bV (aq g8 (pv 2) ah) (aq g7 ah (pv 1))) ah) ah) ah) ah) ak)))))))))),?_⟩
 have hl:(ns.map V.int).length=ns.length:=List.length_map _
 refine⟨_,rfl,_,rfl,a,_,rfl,.inl hS,_,_,rfl,rfl,_,rfl,JA (λσ' H'=> ∃c:Int,H'=H/\σ'=[some (.ref a),some (.int k),some (.int c),none]) ?_ (λc hK=> ?_) ⟨0,rfl,rfl⟩⟩
 rotate_left
 ·have c':k<(((ns.map V.int).length:Nat):Int):=of_decide_eq_true c
  rw[hl]at c'
  obtain⟨z,hz⟩:=Mq h0 c'
  exact⟨_,rfl,_,rfl,a,_,_,_,rfl,rfl,hS,hz,hK _ _ ⟨z,rfl,rfl⟩⟩
 rintro σ' H' ⟨c,rfl,rfl⟩
 refine⟨_,rfl,c,rfl,_,_,rfl,rfl,⟨by decide,by decide,by decide⟩,_,_,rfl,rfl,_,rfl,JA (λσ' H2=> ∃g:Int,0<=g/\H2=H'/\σ'=[some (.ref a),some (.int k),some (.int c),some (.int g)]) ?_ (λ_ hK=> ?_) ⟨0,Int.le_refl 0,rfl,rfl⟩⟩
 rotate_left
 ·exact⟨_,rfl,c,rfl,hK _ _ ⟨_,by split<;>omega,rfl,rfl⟩⟩
 rintro σ' H2 ⟨g,hg,rfl,rfl⟩
 refine⟨_,rfl,_,rfl,_,_,rfl,rfl,(by show(0:Int)<2147483629;decide),_,rfl,_,_,rfl,rfl,.inl ⟨by decide,by decide⟩,_,_,rfl,rfl,_,_,rfl,rfl,_,_,rfl,rfl,.inr ⟨by decide,by decide⟩,_,_,rfl,rfl,(by show(0:Int)<2147483629;decide),_,_,rfl,rfl,(by show 2<=sizeLine;decide),λB hB=> ?_⟩
 exact q B _ (az.up hB) hB ⟨g,_,ao,hg,by have:=Int.emod_nonneg ((c%2147483629+7919*k+13)*69621) (show(2147483629:Int)≠0 by decide);omega⟩
inductive wF(vs:List V)(H:Hp)(Q:VK)(E:XK):Prop
 |mk(B:Addr)(many:Int)(_:vs=[.ref B,.int many])(_:lX H B)(_:0<many)(_:many.natAbs.log2<9000)(_:∀(d:Int) H',0<=d->d<many->SB B H H'->Q (.int d) H')
theorem Ag(F:fU K mg "_law_take" ou fV):dQ P w K mg base dz 1 "_law_take" fV wF:=by
 refine F.ok qS (λvs H Q E h=> ?_) (λf cdv A outer s H vs Q E hr h=> ?_)
 ·obtain⟨B,many,rfl,⟨g,s,eB,hg,hs⟩,hm,hm2,q⟩:=h
  rfl
 obtain⟨B,many,rfl,⟨g,s,eB,hg,hs⟩,hm,hm2,q⟩:=h
 have hu:=hr.units
 refine⟨_,(oO (@aB _ _ _ _ _ (eE (cL qD (aD au (pv 0) ah (λ_ _=>rfl)) ah (cK _)) (@aB _ _ _ _ _ (aY (i:=2) qS.nd rfl (Or.inl rfl) (aq g8 (aD au (pv 0) ah (λ_ _=>rfl)) (pv 1)))
  (@aB _ _ _ _ _ (iO (aq nV (aD au (pv 0) ah (λ_ _=>rfl)) (pv 1)) (uV (pv 0) ah set_list))
  (@aT _ _ _ (aW (pv 2))))) d9)
  (@aB _ _ _ _ _ (iO (aq g8 (aq bV (aq g7 (aD au (pv 0) ah (λ_ _=>rfl)) ah) ah) ah) (uV (pv 0) ah set_list))
  (@aT _ _ _ (aW (aq g8 (aq fm (aq g8 (aq g7 (aq fm (aD au (pv 0) ah (λ_ _=>rfl)) ah) ah) ah) ah) (pv 1))))))),?_⟩
 refine⟨_,rfl,B,_,_,_,rfl,rfl,aU.of eB,rfl,_,_,rfl,rfl,_,rfl,lS (λc=> ?_) (λc=> ?_)⟩
 ·refine⟨_,rfl,B,_,_,_,rfl,rfl,aU.of eB,rfl,_,rfl,_,_,rfl,rfl,hm,?_⟩
  refine⟨_,rfl,B,_,_,_,rfl,rfl,aU.of eB,rfl,_,rfl,_,_,rfl,rfl,⟨hm,hm2⟩,_,rfl,B,_,_,0,rfl,rfl,eB,rfl,?_⟩
  exact⟨_,rfl,q (g%many) _ (Int.emod_nonneg _ (by omega)) (Int.emod_lt_of_pos _ hm) (JC (Int.ediv_nonneg hg (by omega)) hs)⟩
 ·refine⟨_,rfl,B,_,_,_,rfl,rfl,aU.of eB,rfl,_,_,rfl,rfl,.inr ⟨by decide,by decide⟩,_,_,rfl,rfl,_,_,rfl,rfl,(by show(0:Int)<2147483647;decide),_,rfl,B,_,_,1,rfl,rfl,eB,rfl,?_⟩
  have Zx:upd H B (.lst ([V.int g,.int s].set 1 (.int ((s*48271+11)%2147483647)))) B=some (.lst [.int g,.int ((s*48271+11)%2147483647)]):=ao
  refine⟨_,rfl,B,_,_,_,rfl,rfl,aU.of Zx,rfl,_,_,rfl,rfl,⟨by decide,by decide⟩,_,_,rfl,rfl,.inr ⟨by decide,by decide⟩,_,_,rfl,rfl,(by show(0:Int)<2147483629;decide),_,_,rfl,rfl,⟨by decide,by decide⟩,_,rfl,_,_,rfl,rfl,hm,?_⟩
  exact q _ _ (Int.emod_nonneg _ (by omega)) (Int.emod_lt_of_pos _ hm) (JC hg (Int.emod_nonneg _ (by decide)))
inductive Ah(vs:List V)(H:Hp)(Q:VK)(E:XK):Prop
 |mk(t:Addr)(bs:List Addr)(m:List (List Int))(_:vs=[.ref t])(_:Tab H t bs m)(_:bE m)(_:Bd 1000 m)(_:Q (.int (aA m)) H)
theorem pB(F:fU K mg "_law_determinant" ie cW):dQ P w K mg base dz 1 "_law_determinant" cW Ah:=by
 refine F.ok gR (λvs H Q E h=> ?_) (λf cdv A outer s H vs Q E hr h=> ?_)
 ·obtain⟨t,bs,m,rfl,hT,b7,hB,q⟩:=h
  rfl
 obtain⟨t,bs,m,rfl,hT,b7,hB,q⟩:=h
 have hu:=hr.units
 refine⟨_,(oO (@aB _ _ _ _ _ (aY (i:=1) gR.nd rfl (Or.inl rfl) (aq aE (aD au (aD au (pv 0) ah (λ_ _=>rfl)) ah (λ_ _=>rfl)) (aq dG (aq aE (aD au (aD au (pv 0) ah (λ_ _=>rfl)) ah (λ_ _=>rfl)) (aD au (aD au (pv 0) ah (λ_ _=>rfl)) ah (λ_ _=>rfl))) (aq aE (aD au (aD au (pv 0) ah (λ_ _=>rfl)) ah (λ_ _=>rfl)) (aD au (aD au (pv 0) ah (λ_ _=>rfl)) ah (λ_ _=>rfl))))))
  (@aB _ _ _ _ _ (aY (i:=2) gR.nd rfl (Or.inl rfl) (aq aE (aD au (aD au (pv 0) ah (λ_ _=>rfl)) ah (λ_ _=>rfl)) (aq dG (aq aE (aD au (aD au (pv 0) ah (λ_ _=>rfl)) ah (λ_ _=>rfl)) (aD au (aD au (pv 0) ah (λ_ _=>rfl)) ah (λ_ _=>rfl))) (aq aE (aD au (aD au (pv 0) ah (λ_ _=>rfl)) ah (λ_ _=>rfl)) (aD au (aD au (pv 0) ah (λ_ _=>rfl)) ah (λ_ _=>rfl))))))
  (@aT _ _ _ (aW (aq bV (aq dG (pv 1) (pv 2)) (aq aE (aD au (aD au (pv 0) ah (λ_ _=>rfl)) ah (λ_ _=>rfl)) (aq dG (aq aE (aD au (aD au (pv 0) ah (λ_ _=>rfl)) ah (λ_ _=>rfl)) (aD au (aD au (pv 0) ah (λ_ _=>rfl)) ah (λ_ _=>rfl))) (aq aE (aD au (aD au (pv 0) ah (λ_ _=>rfl)) ah (λ_ _=>rfl)) (aD au (aD au (pv 0) ah (λ_ _=>rfl)) ah (λ_ _=>rfl))))))))))),?_⟩
 obtain⟨c0,x1,x2,_⟩:=aZ hT b7 (i:=0) (by decide)
 obtain⟨c1,y1,y2,_⟩:=aZ hT b7 (i:=1) (by decide)
 obtain⟨c2,w1,w2,_⟩:=aZ hT b7 (i:=2) (by decide)
 refine⟨_,rfl,t,_,_,_,rfl,rfl,aU.of hT.1,x1,c0,_,_,_,rfl,rfl,aU.of x2,rfl,_,rfl,t,_,_,_,rfl,rfl,aU.of hT.1,y1,c1,_,_,_,rfl,rfl,aU.of y2,rfl,_,rfl,t,_,_,_,rfl,rfl,aU.of hT.1,w1,c2,_,_,_,rfl,rfl,aU.of w2,rfl,_,_,rfl,rfl,⟨aL (hB 1 1 (by decide) (by decide)) (by decide),aL (hB 2 2 (by decide) (by decide)) (by decide)⟩,_,rfl,t,_,_,_,rfl,rfl,aU.of hT.1,y1,c1,_,_,_,rfl,rfl,aU.of y2,rfl,_,rfl,t,_,_,_,rfl,rfl,aU.of hT.1,w1,c2,_,_,_,rfl,rfl,aU.of w2,rfl,_,_,rfl,rfl,⟨aL (hB 1 2 (by decide) (by decide)) (by decide),aL (hB 2 1 (by decide) (by decide)) (by decide)⟩,_,_,rfl,rfl,_,_,rfl,rfl,⟨aL (hB 0 0 (by decide) (by decide)) (by decide),aL (lz (cH (hB 1 1 (by decide) (by decide)) (hB 2 2 (by decide) (by decide))) (cH (hB 1 2 (by decide) (by decide)) (hB 2 1 (by decide) (by decide)))) (by decide)⟩,?_⟩
 refine⟨_,rfl,t,_,_,_,rfl,rfl,aU.of hT.1,x1,c0,_,_,_,rfl,rfl,aU.of x2,rfl,_,rfl,t,_,_,_,rfl,rfl,aU.of hT.1,y1,c1,_,_,_,rfl,rfl,aU.of y2,rfl,_,rfl,t,_,_,_,rfl,rfl,aU.of hT.1,w1,c2,_,_,_,rfl,rfl,aU.of w2,rfl,_,_,rfl,rfl,⟨aL (hB 1 0 (by decide) (by decide)) (by decide),aL (hB 2 2 (by decide) (by decide)) (by decide)⟩,_,rfl,t,_,_,_,rfl,rfl,aU.of hT.1,y1,c1,_,_,_,rfl,rfl,aU.of y2,rfl,_,rfl,t,_,_,_,rfl,rfl,aU.of hT.1,w1,c2,_,_,_,rfl,rfl,aU.of w2,rfl,_,_,rfl,rfl,⟨aL (hB 1 2 (by decide) (by decide)) (by decide),aL (hB 2 0 (by decide) (by decide)) (by decide)⟩,_,_,rfl,rfl,_,_,rfl,rfl,⟨aL (hB 0 1 (by decide) (by decide)) (by decide),aL (lz (cH (hB 1 0 (by decide) (by decide)) (hB 2 2 (by decide) (by decide))) (cH (hB 1 2 (by decide) (by decide)) (hB 2 0 (by decide) (by decide)))) (by decide)⟩,?_⟩
 refine⟨_,rfl,_,rfl,_,_,rfl,rfl,_,rfl,t,_,_,_,rfl,rfl,aU.of hT.1,x1,c0,_,_,_,rfl,rfl,aU.of x2,rfl,_,rfl,t,_,_,_,rfl,rfl,aU.of hT.1,y1,c1,_,_,_,rfl,rfl,aU.of y2,rfl,_,rfl,t,_,_,_,rfl,rfl,aU.of hT.1,w1,c2,_,_,_,rfl,rfl,aU.of w2,rfl,_,_,rfl,rfl,⟨aL (hB 1 0 (by decide) (by decide)) (by decide),aL (hB 2 1 (by decide) (by decide)) (by decide)⟩,_,rfl,t,_,_,_,rfl,rfl,aU.of hT.1,y1,c1,_,_,_,rfl,rfl,aU.of y2,rfl,_,rfl,t,_,_,_,rfl,rfl,aU.of hT.1,w1,c2,_,_,_,rfl,rfl,aU.of w2,rfl,_,_,rfl,rfl,⟨aL (hB 1 1 (by decide) (by decide)) (by decide),aL (hB 2 0 (by decide) (by decide)) (by decide)⟩,_,_,rfl,rfl,_,_,rfl,rfl,⟨aL (hB 0 2 (by decide) (by decide)) (by decide),aL (lz (cH (hB 1 0 (by decide) (by decide)) (hB 2 1 (by decide) (by decide))) (cH (hB 1 1 (by decide) (by decide)) (hB 2 0 (by decide) (by decide)))) (by decide)⟩,_,_,rfl,rfl,?_⟩
 have e:ent m 0 0*(ent m 1 1*ent m 2 2-ent m 1 2*ent m 2 1) -ent m 0 1*(ent m 1 0*ent m 2 2-ent m 1 2*ent m 2 0)+ent m 0 2*(ent m 1 0*ent m 2 1-ent m 1 1*ent m 2 0)=aA m:=by
  rw[dI]
  grind
 rw[<-e]at q
 exact q
inductive uN(vs:List V)(H:Hp)(Q:VK)(E:XK):Prop
 |mk(t:Addr)(bs:List Addr)(m:List (List Int))(a b:Addr)(x y:Nat->Int)(_:vs=[.ref t,.ref a,.ref b])(_:Tab H t bs m)(_:bE m)(_:Bd 1000 m)(_:bH H a x)(_:bH H b y)(_:∀i,i<3->(x i).natAbs<2^1000)(_:∀i,i<3->(y i).natAbs<2^1000)(_:Q (.int (ay m x y)) H)
theorem uf(F:fU K mg "_law_pairing" kC gE)(aH:mg "range"=none):dQ P w K mg base dz 1 "_law_pairing" gE uN:=by
 refine F.ok gb (λvs H Q E h=> ?_) (λf cdv A outer s H vs Q E hr h=> ?_)
 ·obtain⟨t,bs,m,a,b,x,y,rfl,hT,b7,hB,hx,hy,bx,bY,q⟩:=h
  rfl
 obtain⟨t,bs,m,a,b,x,y,rfl,hT,b7,hB,hx,hy,bx,bY,q⟩:=h
 have hu:=hr.units
 refine⟨_,(oO (@aB _ _ _ _ _ (aY (i:=3) gb.nd rfl (Or.inl rfl) ah)
  (@aB _ _ _ _ _ (gO PassesOwn.never rfl (cN rfl aH (af ah ak)) (aI (i:=4) gb.nd rfl (Or.inl rfl)) (cF (gO PassesOwn.never rfl (cN rfl aH (af ah ak)) (aI (i:=5) gb.nd rfl (Or.inl rfl)) (cF (aY (i:=3) gb.nd rfl (Or.inl rfl) (aq bV (pv 3) (aq aE (aq aE (aD au (pv 1) (pv 4) (λ_ _=>rfl)) (aD au (aD au (pv 0) (pv 4) (λ_ _=>rfl)) (pv 5) (λ_ _=>rfl))) (aD au (pv 2) (pv 5) (λ_ _=>rfl)))))))))
  (@aT _ _ _ (aW (pv 3)))))),?_⟩
 refine⟨3,rfl,by decide,by decide,gh (n:=3) (λi σ H'=> ∃(oi oj:Option V),H=H'/\σ=[some (.ref t),some (.ref a),some (.ref b),some (.int (preSum (pairF m x y) (i*3))),oi,oj]) ⟨_,_,rfl,rfl⟩ (λi σ H' hi h=> ?_) (λσ H' h=> ?_)⟩
 ·obtain⟨oi,oj,rfl,rfl⟩:=h
  refine⟨3,rfl,by decide,by decide,gh (n:=3) (λj σ H'=> ∃(oj:Option V),H=H'/\σ=[some (.ref t),some (.ref a),some (.ref b),some (.int (preSum (pairF m x y) (i*3+j))),some (.int (0+i)),oj]) ⟨_,rfl,rfl⟩ (λj σ H' hj h=> ?_) (λσ H' h=> ?_)⟩
  ·obtain⟨oj,rfl,rfl⟩:=h
   have e1:(i*3+j)/3=i:=by omega
   have e2:(i*3+j)%3=j:=by omega
   obtain⟨c,row,f1,f2,f3⟩:=kQ hT b7 hi hj
   simp only[Int.zero_add]
   refine⟨_,rfl,_,rfl,_,rfl,a,_,_,_,rfl,rfl,aU.of hx,zC x hi,_,rfl,_,rfl,t,_,_,_,rfl,rfl,aU.of hT.1,f1,_,rfl,c,_,_,_,rfl,rfl,aU.of f2,f3,_,_,rfl,rfl,⟨aL (bx i hi) (by decide),aL (hB i j hi hj) (by decide)⟩,_,rfl,_,rfl,b,_,_,_,rfl,rfl,aU.of hy,zC y hj,_,_,rfl,rfl,⟨aL (cH (bx i hi) (hB i j hi hj)) (by decide),aL (bY j hj) (by decide)⟩,_,_,rfl,rfl,?_⟩
   refine⟨some (.int j),rfl,?_⟩
   have e:preSum (pairF m x y) (i*3+(j+1))=preSum (pairF m x y) (i*3+j)+x i*ent m i j*y j:=by
    show preSum (pairF m x y) (i*3+j)+pairF m x y (i*3+j)=_
    unfold pairF
    rw[e1,e2]
   rw[e]
   rfl
  ·obtain⟨oj,rfl,rfl⟩:=h
   exact⟨some (.int (0+i)),oj,rfl,by rw[Nat.succ_mul]⟩
 ·obtain⟨oi,oj,rfl,rfl⟩:=h
  exact⟨_,rfl,q⟩
inductive KO(vs:List V)(H:Hp)(Q:VK)(E:XK):Prop
 |mk(t1:Addr)(b1:List Addr)(m1:List (List Int))(t2:Addr)(b2:List Addr)(m2:List (List Int))(_:vs=[.ref t1,.ref t2])(_:Tab H t1 b1 m1)(_:Tab H t2 b2 m2)(_:bE m1)(_:bE m2)(_:Bd 1000 m1)(_:Bd 1000 m2)(_:∀r bs H',az H H'->H r=none->(∀b∈bs,H b=none) ->r∉bs->bs.Nodup->Tab H' r bs (br m1 m2) ->Q (.ref r) H')
theorem ug(F:fU K mg "_law_carried" kD gF)(kI:dQ P w K mg base dz 1 "_law_pairing" gE uN):dQ P w K mg base dz 2 "_law_carried" gF KO:=by
 refine F.ok uc (λvs H Q E h=> ?_) (λf cdv A outer s H vs Q E hr h=> ?_)
 ·obtain⟨t1,b1,m1,t2,b2,m2,rfl,h1,h2,c1,c2,d1,d2,q⟩:=h
  rfl
 obtain⟨t1,b1,m1,t2,b2,m2,rfl,h1,h2,c1,c2,d1,d2,q⟩:=h
 have hu:=hr.units
 refine⟨_,(cF (aW (lu (N2:=["_law_form","_law_by"]) (te:=(tP 1 (Ip K (bU 2)) (dZ 0) (j5 uN [] E0 (dw (bU 2) (dw (bU 1) (dw (bU 0) j4)))))) rfl (gv (pv 1)) (by kernel_rfl) rfl (λ_ _ _=>by exact ly (lu (N2:=["_law_one","_law_form","_law_by"]) (te:=(j5 uN [] E0 (dw (bU 2) (dw (bU 1) (dw (bU 0) j4))))) rfl (gv (pv 2)) (by kernel_rfl) rfl (λ_ _ _=>by exact ly (aP kI hr rfl aM (af (pv 2) (af (pv 1) (af (pv 0) ak)))))))))),?_⟩
 have l2:(b2.map V.ref).length=3:=by rw[List.length_map,<-h2.2.length,c2.1]
 have e:mk3 (λi j=>ay m1 (ent m2 i) (ent m2 j))=br m1 m2:=by
  rw[mF (show bE (br m1 m2)from(show bE (gu (gu m2 m1) (dH m2))from cP _))]
  exact gm λi j hi hj=>(kg m1 m2 hi hj).symm
 refine⟨_,rfl,t2,rfl,⟨_,aU.of h2.1⟩,λD hD=>Jz (oM (aU.of h2.1)) l2 hD (λi j=>ay m1 (ent m2 i) (ent m2 j)) (λi x hi ex H1 Q1 s1 k1=> ?_) (λbs' H1 s1 fr nD nn hT=>q D bs' H1 s1 hD fr nD nn (by rw[<-e];exact hT))⟩
 obtain⟨b,e1,e2,_⟩:=aZ (h2.same s1) c2 hi
 have ex':x= .ref b:=by
  have q1:=iR ex
  rw[e1]at q1
  exact(Option.some.inj q1).symm
 subst ex'
 refine⟨_,rfl,t2,rfl,⟨_,aU.of (h2.same s1).1⟩,λD2 Kh=>qE (oM (aU.of (h2.same s1).1)) l2 Kh (λj=>ay m1 (ent m2 i) (ent m2 j)) (λj x hj Qd H2 Q2 s2 k2=> ?_) (λH2 s2 e2=>k1 D2 H2 Kh s2 e2)⟩
 obtain⟨b',f1,f2,_⟩:=aZ ((h2.same s1).same s2) c2 hj
 have ex':x= .ref b':=by
  have q1:=iR Qd
  rw[f1]at q1
  exact(Option.some.inj q1).symm
 subst ex'
 exact⟨_,rfl,_,rfl,_,rfl,t1,b1,m1,b,b',ent m2 i,ent m2 j,rfl,(h1.same s1).same s2,c1,d1,s2 _ _ e2,f2,λk hk=>d2 i k hi hk,λk hk=>d2 j k hj hk,k2 H2 (az.refl _)⟩
noncomputable def Qv(a b c p q r:Int):Prop:=0<a/\a<=b/\b<=c/\c<1000000/\ -a<=p/\p<=a/\ -a<=q/\q<=a/\ -b<=r/\r<=b
inductive Cn(vs:List V)(H:Hp)(Q:VK)(E:XK):Prop
 |mk(B:Addr)(_:vs=[.ref B])(_:lX H B)(_:∀a b c p q r t bs H',Qv a b c p q r->SB B H H'->H t=none->(∀b∈bs,H b=none) ->t∉bs->bs.Nodup->Tab H' t bs (mH (2*a) (2*b) (2*c) p q r) ->Q (.ref t) H')
theorem qj(F:fU K mg "_law_drawn_form" iD fK)(bh:dQ P w K mg base dz 1 "_law_take" fV wF):dQ P w K mg base dz 2 "_law_drawn_form" fK Cn:=by
 refine F.ok cX (λvs H Q E h=> ?_) (λf cdv A outer s H vs Q E hr h=> ?_)
 ·obtain⟨B,rfl,hb,q⟩:=h
  rfl
 obtain⟨B,rfl,hb,q⟩:=h
 have hu:=hr.units
 refine⟨_,(oO (@aB _ _ _ _ _ (aY (i:=1) cX.nd rfl (Or.inl rfl) (aq bV ah (aq g7 ah (aP bh hr rfl aM (af (pv 0) (af ah ak))))))
  (@aB _ _ _ _ _ (aY (i:=2) cX.nd rfl (Or.inl rfl) (aq bV (pv 1) (aq g7 ah (aP bh hr rfl aM (af (pv 0) (af ah ak))))))
  (@aB _ _ _ _ _ (aY (i:=3) cX.nd rfl (Or.inl rfl) (aq bV (pv 2) (aq g7 ah (aP bh hr rfl aM (af (pv 0) (af ah ak))))))
  (@aB _ _ _ _ _ (aY (i:=4) cX.nd rfl (Or.inl rfl) (aq dG (aP bh hr rfl aM (af (pv 0) (af (aq bV (pv 1) ah) ak))) (aq fm (pv 1) ah)))
  (@aB _ _ _ _ _ (aY (i:=5) cX.nd rfl (Or.inl rfl) (aq dG (aP bh hr rfl aM (af (pv 0) (af (aq bV (pv 1) ah) ak))) (aq fm (pv 1) ah)))
  (@aB _ _ _ _ _ (aY (i:=6) cX.nd rfl (Or.inl rfl) (aq dG (aP bh hr rfl aM (af (pv 0) (af (aq bV (pv 2) ah) ak))) (aq fm (pv 2) ah)))
  (@aT _ _ _ (aW (dR (af (dR (af (pv 1) (af (pv 4) (af (pv 5) ak)))) (af (dR (af (pv 4) (af (pv 2) (af (pv 6) ak)))) (af (dR (af (pv 5) (af (pv 6) (af (pv 3) ak)))) ak))))))))))))),?_⟩
 refine⟨_,rfl,B,_,rfl,hb,by decide,by decide,λd0 H1 l0 u0 s1=>⟨_,_,rfl,rfl,.inl ⟨by decide,by decide⟩,_,_,rfl,rfl,?_⟩⟩
 obtain⟨a,ea,a1,a4⟩:∃a,2+2*d0=2*a/\0<a/\a<=4:=⟨1+d0,by omega,by omega,by omega⟩
 simp only[ea]
 refine⟨_,rfl,_,rfl,B,_,rfl,s1.2,by decide,by decide,λd1 H2 l1 u1 s2=>⟨_,_,rfl,rfl,.inl ⟨by decide,by decide⟩,_,_,rfl,rfl,?_⟩⟩
 obtain⟨b,eb,ab,b9⟩:∃b,2*a+2*d1=2*b/\a<=b/\b<=9:=⟨a+d1,by omega,by omega,by omega⟩
 simp only[eb]
 refine⟨_,rfl,_,rfl,B,_,rfl,s2.2,by decide,by decide,λd2 H3 l2 u2 s3=>⟨_,_,rfl,rfl,.inl ⟨by decide,by decide⟩,_,_,rfl,rfl,?_⟩⟩
 obtain⟨c,ec,bc,c9⟩:∃c,2*b+2*d2=2*c/\b<=c/\c<1000000:=⟨b+d2,by omega,by omega,by omega⟩
 simp only[ec]
 refine⟨_,rfl,_,rfl,_,_,rfl,rfl,B,_,rfl,s3.2,by omega,log2_small (by omega) (by omega),λd3 H4 l3 u3 s4=>⟨_,rfl,_,_,rfl,rfl,⟨by decide,by decide⟩,_,_,rfl,rfl,?_⟩⟩
 refine⟨_,rfl,_,rfl,_,_,rfl,rfl,B,_,rfl,s4.2,by omega,log2_small (by omega) (by omega),λd4 H5 l4 u4 s5=>⟨_,rfl,_,_,rfl,rfl,⟨by decide,by decide⟩,_,_,rfl,rfl,?_⟩⟩
 refine⟨_,rfl,_,rfl,_,_,rfl,rfl,B,_,rfl,s5.2,by omega,log2_small (by omega) (by omega),λd5 H6 l5 u5 s6=>⟨_,rfl,_,_,rfl,rfl,⟨by decide,by decide⟩,_,_,rfl,rfl,?_⟩⟩
 obtain⟨p,ep,hp,l9⟩:∃p,d3-2*a/2=p/\ -a<=p/\p<=a:=⟨_,rfl,by omega,by omega⟩
 obtain⟨qq,eq,hq,hq'⟩:∃p,d4-2*a/2=p/\ -a<=p/\p<=a:=⟨_,rfl,by omega,by omega⟩
 obtain⟨r,er,hr',Wm⟩:∃p,d5-2*b/2=p/\ -b<=p/\p<=b:=⟨_,rfl,by omega,by omega⟩
 simp only[ep,eq,er]
 have CG:=s1.trans (s2.trans (s3.trans (s4.trans (s5.trans s6))))
 refine⟨_,rfl,_,rfl,_,rfl,(by show 3<=sizeLine;decide),λp0 h0=>⟨_,rfl,_,rfl,_,rfl,(by show 3<=sizeLine;decide),λp1 h1=>⟨_,rfl,_,rfl,_,rfl,(by show 3<=sizeLine;decide),λp2 h2=>⟨(by show 3<=sizeLine;decide),λt ht=> ?_⟩⟩⟩⟩
 have v0:=az.up (o:= .lst [.int (2*a),.int p,.int qq]) h0
 have v1:=az.up (o:= .lst [.int p,.int (2*b),.int r]) h1
 have v2:=az.up (o:= .lst [.int qq,.int r,.int (2*c)]) h2
 have v3:=az.up (o:= .lst [.ref p0,.ref p1,.ref p2]) ht
 have T:Tab _ t [p0,p1,p2] (mH (2*a) (2*b) (2*c) p qq r):=kR _ ao (v3 _ _ (v2 _ _ (v1 _ _ ao))) (v3 _ _ (v2 _ _ ao)) (v3 _ _ ao)
 obtain⟨f1,f2,f3⟩:=zE h0 h1 h2 ht
 exact q a b c p qq r t _ _ ⟨a1,ab,bc,c9,hp,l9,hq,hq',hr',Wm⟩ (CG.trans (SB.of CG.2 (v0.trans (v1.trans (v2.trans v3))))) (CG.gone f1) (λx hx=>CG.gone (f2 x hx)) f3 (Jv h0 h1 h2) T
inductive Co(vs:List V)(H:Hp)(Q:VK)(E:XK):Prop
 |mk(t:Addr)(bs:List Addr)(m:List (List Int))(_:vs=[.ref t])(_:Tab H t bs m)(_:bE m)(_:Bd 1000 m)(_:Q (.bl (decide (ent m 0 1*ent m 0 1<ent m 0 0*ent m 1 1) && decide (0<aA m))) H)
theorem sP(F:fU K mg "_law_is_above" jy gc)(bW:dQ P w K mg base dz 1 "_law_determinant" cW Ah):dQ P w K mg base dz 2 "_law_is_above" gc Co:=by
 refine F.ok rZ (λvs H Q E h=> ?_) (λf cdv A outer s H vs Q E hr h=> ?_)
 ·obtain⟨t,bs,m,rfl,hT,b7,hB,q⟩:=h
  rfl
 obtain⟨t,bs,m,rfl,hT,b7,hB,q⟩:=h
 have hu:=hr.units
 refine⟨_,(cF (aW (ze (kO qD (aq aE (aD au (aD au (pv 0) ah (λ_ _=>rfl)) ah (λ_ _=>rfl)) (aD au (aD au (pv 0) ah (λ_ _=>rfl)) ah (λ_ _=>rfl))) (aq aE (aD au (aD au (pv 0) ah (λ_ _=>rfl)) ah (λ_ _=>rfl)) (aD au (aD au (pv 0) ah (λ_ _=>rfl)) ah (λ_ _=>rfl))) (cK _)) (zd (kO qD (aP bW hr rfl aM (af (pv 0) ak)) ah (cK _)))))),?_⟩
 obtain⟨c0,x1,x2,_⟩:=aZ hT b7 (i:=0) (by decide)
 obtain⟨c1,y1,y2,_⟩:=aZ hT b7 (i:=1) (by decide)
 obtain⟨c2,w1,w2,_⟩:=aZ hT b7 (i:=2) (by decide)
 refine⟨_,rfl,t,_,_,_,rfl,rfl,aU.of hT.1,x1,c0,_,_,_,rfl,rfl,aU.of x2,rfl,_,rfl,t,_,_,_,rfl,rfl,aU.of hT.1,y1,c1,_,_,_,rfl,rfl,aU.of y2,rfl,_,_,rfl,rfl,⟨aL (hB 0 0 (by decide) (by decide)) (by decide),aL (hB 1 1 (by decide) (by decide)) (by decide)⟩,_,rfl,t,_,_,_,rfl,rfl,aU.of hT.1,x1,c0,_,_,_,rfl,rfl,aU.of x2,rfl,_,rfl,t,_,_,_,rfl,rfl,aU.of hT.1,x1,c0,_,_,_,rfl,rfl,aU.of x2,rfl,_,_,rfl,rfl,⟨aL (hB 0 1 (by decide) (by decide)) (by decide),aL (hB 0 1 (by decide) (by decide)) (by decide)⟩,_,_,rfl,rfl,_,rfl,lS (λd=> ?_) (λd=> ?_)⟩
 ·have d:ent m 0 1*ent m 0 1<ent m 0 0*ent m 1 1:=of_decide_eq_true d
  rw[decide_eq_true d,Bool.true_and]at q
  exact⟨_,rfl,t,bs,m,rfl,hT,b7,hB,_,_,rfl,rfl,q⟩
 ·have d:¬ent m 0 1*ent m 0 1<ent m 0 0*ent m 1 1:=λz=>d (decide_eq_true z)
  rw[decide_eq_false d,Bool.false_and]at q
  exact q
inductive yV(vs:List V)(H:Hp)(Q:VK)(E:XK):Prop
 |mk(B:Addr)(most:Int)(_:vs=[.ref B,.int most])(_:lX H B)(_:4<=most)(_:most<=1000)(_:∀m t bs H',bE m->Bd 30 m->bJ m->b8 m=true->aA m/2<=most->SB B H H'->H t=none->(∀b∈bs,H b=none) ->t∉bs->bs.Nodup->Tab H' t bs m->Q (.ref t) H')
theorem uh(F:fU K mg "_law_reduced" kE gG)(aH:mg "range"=none)(iK:dQ P w K mg base dz 2 "_law_drawn_form" fK Cn)(jD:dQ P w K mg base dz 2 "_law_is_above" gc Co)(bW:dQ P w K mg base dz 2 "_law_determinant" cW Ah)(bh:dQ P w K mg base dz 2 "_law_take" fV wF):dQ P w K mg base dz 3 "_law_reduced" gG yV:=by
 refine F.ok g6 (λvs H Q E h=> ?_) (λf cdv A outer s H vs Q E hr h=> ?_)
 ·obtain⟨B,most,rfl,hb,m0,m1,q⟩:=h
  rfl
 obtain⟨B,most,rfl,hb,m0,m1,q⟩:=h
 have hu:=hr.units
 refine⟨_,(oO (@aB _ _ _ _ _ (gO PassesOwn.never rfl (cN rfl aH (af ah ak)) (aI (i:=2) g6.nd rfl (Or.inl rfl)) (oO (@aB _ _ _ _ _ (aY (i:=3) g6.nd rfl (Or.inl rfl) (aP iK hr rfl aM (af (pv 0) ak)))
  (@aT _ _ _ (eE (PW.pt (CJ (mj (aP jD hr rfl aM (af (pv 3) ak))) (zc (cL vc (aP bW hr rfl aM (af (pv 3) ak)) (aq g7 ah (pv 1)) (cK _))))) (@aT _ _ _ (aW (pv 3))) d9)))))
  (@aB _ _ _ _ _ (aY (i:=4) g6.nd rfl (Or.inl rfl) (aq bV ah (aq g7 ah (aP bh hr rfl aM (af (pv 0) (af (aq fm (pv 1) ah) ak))))))
  (Df (iT (bg (iT (bg dJ (bg dJ (bg dJ iS (by kernel_rfl)) (by kernel_rfl)) (by kernel_rfl))) (bg (iT (bg dJ (bg dJ (bg dJ iS (by kernel_rfl)) (by kernel_rfl)) (by kernel_rfl))) (bg (iT (bg dJ (bg dJ (bg (fe (pv 4)) iS (by kernel_rfl)) (by kernel_rfl)) (by kernel_rfl))) iS (by kernel_rfl)) (by kernel_rfl)) (by kernel_rfl))))))),?_⟩
 refine⟨12,rfl,by decide,by decide,gh (n:=12) (λi σ H'=> ∃(o2 o3:Option V),SB B H H'/\σ=[some (.ref B),some (.int most),o2,o3,none]) ⟨_,_,SB.refl hb,rfl⟩ (λi σ H1 hi h=> ?_) (λσ H1 h=> ?_)⟩
 ·obtain⟨o2,o3,s1,rfl⟩:=h
  refine⟨_,rfl,B,rfl,s1.2,λa b c p qq r t bs H2 hD s2 ft fb nt nn T=> ?_⟩
  obtain⟨i1,i2,i3,i4,i5,i6,i7,i8,i9,Wn⟩:=hD
  have bM:Bd 30 (mH (2*a) (2*b) (2*c) p qq r):=Fe (by(clear Wn i9 i8 i7 i6 i5 nt fb ft hi hu q m1 m0 aH;omega)) (by(clear Wn i9 i8 i7 i6 i5 nt fb ft hi hu q m1 m0 aH;omega)) (by(clear Wn i9 i8 i7 i6 i5 nt fb ft hi hu q m1 m0 aH;omega)) (by omega) (by omega) (by omega)
  have s12:=s1.trans s2
  refine⟨_,rfl,t,bs,_,rfl,T,cP _,bM.mono (by decide),_,rfl,?_⟩
  refine Py ⟨_,_,s12,rfl⟩ (λca hE=>⟨_,rfl,t,bs,_,rfl,T,cP _,bM.mono (by decide),_,rfl,_,_,rfl,rfl,.inl ⟨by decide,by decide⟩,_,_,rfl,rfl,_,rfl,lS (λcd=> ?_) (λ_=>hE)⟩)
  rw[Bool.and_eq_true]at ca
  have hd:=of_decide_eq_true ca.2
  have cd:aA (mH (2*a) (2*b) (2*c) p qq r)<=2*most:=of_decide_eq_true cd
  exact⟨_,rfl,q (mH (2*a) (2*b) (2*c) p qq r) t bs H2 (cP _) bM (yo _ _ _ _ _ _) (vE i1 i2 i5 i6 hd) (by omega) s12 (s1.gone ft) (λx hx=>s1.gone (fb x hx)) nt nn T⟩
 ·obtain⟨o2,o3,s1,rfl⟩:=h
  refine⟨_,rfl,_,rfl,_,_,rfl,rfl,⟨by decide,by decide⟩,B,_,rfl,s1.2,by omega,log2_small (by omega) (by omega),λd H2 l0 u0 s2=>⟨_,_,rfl,rfl,.inl ⟨by decide,by decide⟩,_,_,rfl,rfl,?_⟩⟩
  obtain⟨c,ec,c1,c2⟩:∃c,2+2*d=2*c/\0<c/\4*c<=most:=⟨1+d,by omega,by omega,by omega⟩
  simp only[ec]
  have s12:=s1.trans s2
  refine⟨(by show 3<=sizeLine;decide),λp0 h0=>⟨(by show 3<=sizeLine;decide),λp1 h1=>⟨_,rfl,(by show 3<=sizeLine;decide),λp2 h2=>⟨(by show 3<=sizeLine;decide),λt ht=> ?_⟩⟩⟩⟩
  have v0:=az.up (o:= .lst [.int (2*1),.int 0,.int 0]) h0
  have v1:=az.up (o:= .lst [.int 0,.int (2*1),.int 0]) h1
  have v2:=az.up (o:= .lst [.int 0,.int 0,.int (2*c)]) h2
  have v3:=az.up (o:= .lst [.ref p0,.ref p1,.ref p2]) ht
  have T:Tab _ t [p0,p1,p2] (mH (2*1) (2*1) (2*c) 0 0 0):=kR _ ao (v3 _ _ (v2 _ _ (v1 _ _ ao))) (v3 _ _ (v2 _ _ ao)) (v3 _ _ ao)
  obtain⟨f1,f2,f3⟩:=zE h0 h1 h2 ht
  have ed:aA (mH (2*1) (2*1) (2*c) 0 0 0)=8*c:=by
   rw[Ju]
   omega
  exact q (mH (2*1) (2*1) (2*c) 0 0 0) t _ _ (cP _) (Fe (by omega) (by omega) (by omega) (by omega) (by omega) (by omega)) (yo 1 1 c 0 0 0) (vE (by decide) (by decide) (by decide) (by decide) (by rw[ed];omega)) (by rw[ed];omega) (s12.trans (SB.of s12.2 (v0.trans (v1.trans (v2.trans v3))))) (s12.gone f1) (λx hx=>s12.gone (f2 x hx)) f3 (Jv h0 h1 h2) T
inductive Cp(vs:List V)(H:Hp)(Q:VK)(E:XK):Prop
 |mk(B:Addr)(FQ:Int)(_:vs=[.ref B,.int FQ])(_:lX H B)(_:0<=FQ)(_:FQ<=10000)(_:∀m t bs H',bE m->Bd 100 m->aA m=1->SB B H H'->H t=none->(∀b∈bs,H b=none) ->t∉bs->Tab H' t bs m->Q (.ref t) H')
theorem xP(F:fU K mg "_law_basis" mR iE)(aH:mg "range"=none)(ow:mg "zip"=none)(tV:mg "int"=none)(bh:dQ P w K mg base dz 1 "_law_take" fV wF):dQ P w K mg base dz 2 "_law_basis" iE Cp:=by
 refine F.ok gp (λvs H Q E h=> ?_) (λf cdv A outer s H vs Q E hr h=> ?_)
 ·obtain⟨B,FQ,rfl,hb,f0,f1,K0⟩:=h
  rfl
 obtain⟨B,FQ,rfl,hb,f0,f1,K0⟩:=h
 have hu:=hr.units
 refine toF ?_
 refine⟨_,(Px (i:=2) gp.nd rfl (Or.inl rfl) (iT (bg (iT (bg dJ (bg dJ (bg dJ iS (by kernel_rfl)) (by kernel_rfl)) (by kernel_rfl))) (bg (iT (bg dJ (bg dJ (bg dJ iS (by kernel_rfl)) (by kernel_rfl)) (by kernel_rfl))) (bg (iT (bg dJ (bg dJ (bg dJ iS (by kernel_rfl)) (by kernel_rfl)) (by kernel_rfl))) iS (by kernel_rfl)) (by kernel_rfl)) (by kernel_rfl))) (by kernel_rfl) (by first|exact .inl rfl|exact .inr rfl)
  (@aB _ _ _ _ _ (gO PassesOwn.never rfl (cN rfl aH (af (aP bh hr rfl aM (af (pv 0) (af (aD au (dR (af ah (af ah ak))) (Gm Gh rfl tV PyProof.Rows.boot_int (af (kO qD (pv 1) ah (cK _)) ak)) (λ_ _=>rfl)) ak))) ak)) (aI (i:=3) gp.nd rfl (Or.inl rfl)) (oO (@aB _ _ _ _ _ (aY (i:=4) gp.nd rfl (Or.inl rfl) (aP bh hr rfl aM (af (pv 0) (af ah ak))))
  (@aB _ _ _ _ _ (aY (i:=5) gp.nd rfl (Or.inl rfl) (aq g8 (aq bV (aq bV (pv 4) ah) (aP bh hr rfl aM (af (pv 0) (af ah ak)))) ah))
  (@aB _ _ _ _ _ (aY (i:=6) gp.nd rfl (Or.inr rfl) (aq dG (aP bh hr rfl aM (af (pv 0) (af (aq bV (aq g7 ah (pv 1)) ah) ak))) (pv 1)))
  (@aB _ _ _ _ _ (iO (Dd (N2:=["_law_bag_here","_law_far","_law_made","_law_turn","_law_i","_law_j","_law_times"]) (te:=(jq (CD λi j=> .int (i+j)) (bU 0) (jq (rI nI λi j=> .int (i*j)) (bU 8) (bU 1)))) rfl (Dc rfl ow (af (aD au (pv 2) (pv 4) (λ_ _=>rfl)) (af (aD au (pv 2) (pv 5) (λ_ _=>rfl)) ak))) (by kernel_rfl) rfl (λ_ _ _=>by exact ly (aq bV (pv 0) (aq aE (pv 8) (pv 1))))) (uV (pv 2) (pv 4) set_list))
  (@aT _ _ _ (eE (cL EM (aP bh hr rfl aM (af (pv 0) (af ah ak))) ah (cK _)) (@aT _ _ _ (iO (iP (af (aD au (pv 2) (pv 5) (λ_ _=>rfl)) (af (lu (N2:=["_law_bag_here","_law_far","_law_made","_law_turn","_law_i","_law_j","_law_times"]) (te:=(jq (CD λi j=> .int (i-j)) (tC (.int 0)) (bU 0))) rfl (gv (aD au (pv 2) (pv 4) (λ_ _=>rfl))) (by kernel_rfl) rfl (λ_ _ _=>by exact ly (aq dG ah (pv 0)))) ak))) (nM rfl (aJ (uV (pv 2) (pv 4) set_list) (aJ (uV (pv 2) (pv 5) set_list) fj))))) d9))))))))
  (@aT _ _ _ (aW (pv 2))))),?_⟩
 refine⟨(by show 3<=sizeLine;decide),λp0 g0=>⟨(by show 3<=sizeLine;decide),λp1 g1=>⟨(by show 3<=sizeLine;decide),λp2 g2=>⟨(by show 3<=sizeLine;decide),λD hD=> ?_⟩⟩⟩⟩
 have u0:=az.up (o:= .lst [.int 1,.int 0,.int 0]) g0
 have u1:=az.up (o:= .lst [.int 0,.int 1,.int 0]) g1
 have u2:=az.up (o:= .lst [.int 0,.int 0,.int 1]) g2
 have u3:=az.up (o:= .lst [.ref p0,.ref p1,.ref p2]) hD
 have T:Tab _ D [p0,p1,p2] (gU 1):=kR _ ao (u3 _ _ (u2 _ _ (u1 _ _ ao))) (u3 _ _ (u2 _ _ ao)) (u3 _ _ ao)
 have us:=u0.trans (u1.trans (u2.trans u3))
 obtain⟨fD,fb,nD⟩:=zE g0 g1 g2 hD
 have Nt:D≠B:=hb.ne fD
 have nB:∀bs:List Addr,(∀b∈bs,H b=none) ->B∉bs:=λbs f z=>hb.ne (f B z) rfl
 refine⟨_,rfl,(by show 2<=sizeLine;decide),λLx hL=> ?_⟩
 have u4:=az.up (o:= .lst [.int 6,.int 4]) hL
 refine⟨_,rfl,_,_,rfl,rfl,.inr ⟨_,rfl,?_⟩⟩
 obtain⟨v,hv,hv2⟩:=at2 (x:= .int 6) (y:= .int 4) (i:=if decide ((3:Int)<FQ)=true then 1 else 0) (by split<;>decide) (by split<;>decide)
 obtain⟨w,rfl,w0,w6⟩:∃w:Int,v= .int w/\0<w/\w<=6:=by
  rcases hv2 with rfl|rfl
  ·exact⟨_,rfl,by decide,by decide⟩
  ·exact⟨_,rfl,by decide,by decide⟩
 have XU:=SB.of hb (us.trans u4)
 refine⟨Lx,_,_,_,rfl,rfl,aU.of ao,hv,B,w,rfl,XU.2,w0,log2_small (by omega) (by omega),λd H2 l0 d6 s2=> ?_⟩
 have T2:=(T.same u4).sb s2 Nt (nB _ fb)
 have Ia:=XU.trans s2
 refine⟨_,rfl,by omega,by omega,gh (n:=d.toNat) (λk σ H'=> ∃(o3 o4 o5 o6:Option V)(bs:List Addr)(m:List (List Int)),σ=[some (.ref B),some (.int FQ),some (.ref D),o3,o4,o5,o6]/\SB B H H'/\Tab H' D bs m/\bE m/\Bd (15*k+1) m/\aA m=1/\(∀b∈bs,H b=none)/\D∉bs) ⟨_,_,_,_,_,_,rfl,Ia,T2,cP _,λi j hi hj=> ?_,rfl,fb,nD⟩ (λk σ H1 hk h=> ?_) (λσ H1 h=> ?_)⟩
 ·rw[gU,cZ _ hi hj]
  split<;>decide
 ·obtain⟨o3,o4,o5,o6,bs,m,rfl,s1,T1,xu,dm,KP,fb,nD⟩:=h
  have Wo:=nB bs fb
  refine⟨_,rfl,B,_,rfl,s1.2,by decide,by decide,λd1 H2 l1 u1 s2=> ?_⟩
  refine⟨_,rfl,_,_,rfl,rfl,_,rfl,B,_,rfl,s2.2,by decide,by decide,λd2 H3 l2 u2 s3=>⟨_,_,rfl,rfl,_,_,rfl,rfl,(by show(0:Int)<3;decide),?_⟩⟩
  refine⟨_,rfl,_,rfl,_,_,rfl,rfl,.inl ⟨by decide,by decide⟩,_,_,rfl,rfl,B,_,rfl,s3.2,by omega,log2_small (by omega) (by omega),λd3 H4 l3 u3 s4=>⟨_,rfl,_,_,rfl,rfl,?_⟩⟩
  obtain⟨i,ei,hi⟩:∃i:Nat,d1=(i:Int)/\i<3:=⟨d1.toNat,by omega,by omega⟩
  obtain⟨j,ej,hj⟩:∃j:Nat,((i:Int)+1+d2)%3=(j:Int)/\j<3:=⟨(((i:Int)+1+d2)%3).toNat,by(clear hi ei u3 l3 u2 l2 u1 l1 Wo nD fb KP hk d6 l0 w6 w0 hv2 hv hL nB Nt fD hD g2 g1 g0 hu K0 f1 f0 tV ow aH;omega),by(clear hi ei u3 l3 u2 l2 u1 l1 Wo nD fb KP hk d6 l0 w6 w0 hv2 hv hL nB Nt fD hD g2 g1 g0 hu K0 f1 f0 tV ow aH;omega)⟩
  have hij:i≠j:=by omega
  obtain⟨o,eo,ho⟩:∃o:Int,o=d3-FQ/\o.natAbs<2^14:=⟨_,rfl,by omega⟩
  simp only[ei,ej,<-eo]
  have QU:=s2.trans (s3.trans s4)
  have T4:=T1.sb QU Nt Wo
  have DS:=s1.trans QU
  obtain⟨bi,x1,x2,x3⟩:=aZ T4 xu hi
  obtain⟨bj,y1,y2,y3⟩:=aZ T4 xu hj
  refine⟨_,rfl,_,rfl,D,_,_,_,rfl,rfl,aU.of T4.1,x1,_,rfl,_,rfl,D,_,_,_,rfl,rfl,aU.of T4.1,y1,bi,bj,_,_,rfl,aU.of x2,aU.of y2,λR hR=> ?_⟩
  have bk:∀s,s<3->(ent m i s+o*ent m j s).natAbs<2^(15*(k+1)+1):=λs hs=>aL (mG (aL (dm i s hi hs) (show 15*k+1<=14+(15*k+1)by omega)) (cH ho (dm j s hj hs))) (by omega)
  have k6:k<6:=by omega
  refine Bj (aU.of x2) (aU.of y2) rfl (by show 3<=sizeLine;decide) hR (λu v=>match u,v with| .int i,.int j=> .int (i+o*j)|_,_=> .gK) (λn u v eu ev G Q' sm kk=> ?_) (λH5 s5 e5=> ?_)
  ·have hn:n<3:=(List.getElem?_eq_some_iff.mp eu).1
   rcases aN hn with rfl|rfl|rfl<;>cases eu<;>cases ev<;>exact⟨_,rfl,_,rfl,_,rfl,_,_,rfl,rfl,⟨aL ho (by decide),aL (dm j _ hj (by decide)) (by omega)⟩,_,_,rfl,rfl,kk⟩
  have nR:R≠D:=Ne.symm (eV T4.1 hR)
  have l3:bs.length=3:=by rw[<-T4.2.length,xu.1]
  have fR:H R=none:=DS.gone hR
  refine⟨_,rfl,_,rfl,D,_,_,i,rfl,rfl,s5 _ _ T4.1,(by rw[List.length_map,l3];rcases aN hi with rfl|rfl|rfl<;>rfl),?_⟩
  have T5:=zF (g:=λs=>ent m i s+o*ent m j s) (T4.same s5) xu hi e5 nR nD
  have MY:SB B H _:=(DS.trans (SB.of DS.2 s5)).PB (o:= .lst ((bs.map V.ref).set i (.ref R))) fD Nt
  have Rc:∀b∈bs.set i R,H b=none:=λb hb=>by
   rcases List.mem_or_eq_of_mem_set hb with z|z
   ·exact fb b z
   ·rw[z];exact fR
  have TF:D∉bs.set i R:=λhb=>by
   rcases List.mem_or_eq_of_mem_set hb with z|z
   ·exact nD z
   ·exact nR z.symm
  have TH:Bd (15*(k+1)+1) (xm m i λs=>ent m i s+o*ent m j s):=λr s hr hs=>by
   rw[cQ m _ hr hs]
   split
   ·exact bk s hs
   ·exact aL (dm r s hr hs) (by omega)
  have Qw:=(Mu m hi hj hij o).trans KP
  have c5:bE (xm m i λs=>ent m i s+o*ent m j s):=cP _
  generalize xm m i (λs=>ent m i s+o*ent m j s)=M at T5 TH Qw c5
  generalize bs.set i R=bS at T5 Rc TF
  refine⟨_,rfl,B,_,rfl,MY.2,by decide,by decide,λd4 H6 l4 u4 s6=>⟨rfl,_,rfl,lS (λ_=> ?_) (λ_=> ?_)⟩⟩
  ·have T6:=T5.sb s6 Nt (nB _ Rc)
   have CG:=MY.trans s6
   obtain⟨ai,q1,q2,q3⟩:=aZ T6 c5 hi
   obtain⟨aj,r1,r2,r3⟩:=aZ T6 c5 hj
   refine⟨_,rfl,_,rfl,D,_,_,_,rfl,rfl,aU.of T6.1,r1,_,rfl,_,rfl,D,_,_,_,rfl,rfl,aU.of T6.1,q1,ai,rfl,⟨_,aU.of q2⟩,λR2 Wq=> ?_⟩
   refine qE (oM (aU.of q2)) rfl Wq (λs=>0-ent M i s) (λn y hn ey G Q' sm kk=> ?_) (λH7 s7 e7=> ?_)
   ·rcases aN hn with rfl|rfl|rfl<;>cases ey<;>exact⟨_,rfl,_,_,rfl,rfl,kk G (az.refl _)⟩
   refine⟨(by show 2<=sizeLine;decide),λPt hP=> ?_⟩
   have u8:=az.up (o:= .tup [.ref aj,.ref R2]) hP
   have Wr:=s7.trans u8
   have T8:=T6.same Wr
   have l5:bS.length=3:=by rw[<-T6.2.length,c5.1]
   have XW:aj≠D:=λz=>TF (by rw[<-z];exact r3)
   have T9:=zF (g:=λs=>ent M j s) T8 c5 hi (Wr _ _ r2) XW TF
   have XX:D∉bS.set i aj:=λhb=>by
    rcases List.mem_or_eq_of_mem_set hb with z|z
    ·exact TF z
    ·exact XW z.symm
   have Ws:R2≠D:=Ne.symm (eV T6.1 Wq)
   have e9:upd (upd H7 Pt (.tup [.ref aj,.ref R2])) D (.lst ((bS.map V.ref).set i (.ref aj))) R2=some (.lst [.int (0-ent M i 0),.int (0-ent M i 1),.int (0-ent M i 2)]):=by rw[aG Ws];exact u8 _ _ e7
   have Ta:=zF (g:=λs=>0-ent M i s) T9 (cP _) hj e9 Ws XX
   have ix:∀(r:Nat)(l:List V),r<3->l.length=3->NL l.length (r:Int)=some r:=λr l hr hl=>by rw[hl];rcases aN hr with rfl|rfl|rfl<;>rfl
   refine⟨Pt,_,rfl,pI.of ao,rfl,_,_,rfl,_,rfl,_,rfl,D,_,_,i,rfl,rfl,T8.1,ix i _ hi (by rw[List.length_map,l5]),_,_,rfl,_,rfl,_,rfl,D,_,_,j,rfl,rfl,ao,ix j _ hj (by rw[List.length_set,List.length_map,l5]),rfl,?_⟩
   have sa:SB B H _:=((CG.trans (SB.of CG.2 Wr)).PB (o:= .lst ((bS.map V.ref).set i (.ref aj))) fD Nt).PB (o:= .lst (((bS.map V.ref).set i (.ref aj)).set j (.ref R2))) fD Nt
   have ea:((bS.set i aj).map V.ref).set j (.ref R2)=((bS.map V.ref).set i (.ref aj)).set j (.ref R2):=by rw[List.map_set]
   refine⟨_,_,_,_,(bS.set i aj).set j R2,xm (xm M i λs=>ent M j s) j λs=>0-ent M i s,rfl,sa,(by rw[<-ea];exact Ta),cP _,λr s hr hs=> ?_,(JD M hi hj hij).trans Qw,λb hb=> ?_,λhb=> ?_⟩
   ·rw[cQ _ _ hr hs]
    split
    ·have:=TH i s hi hs
     show(0-ent M i s).natAbs<_
     rw[Int.zero_sub,Int.natAbs_neg]
     exact this
    ·rw[cQ M _ hr hs]
     split
     ·exact TH j s hj hs
     ·exact TH r s hr hs
   ·rcases List.mem_or_eq_of_mem_set hb with z|z
    ·rcases List.mem_or_eq_of_mem_set z with y|y
     ·exact Rc b y
     ·rw[y];exact Rc aj r3
    ·rw[z];exact CG.gone Wq
   ·rcases List.mem_or_eq_of_mem_set hb with z|z
    ·exact XX z
    ·exact Ws z.symm
  ·exact⟨_,_,_,_,_,M,rfl,MY.trans s6,T5.sb s6 Nt (nB _ Rc),c5,TH,Qw,Rc,TF⟩
 ·obtain⟨o3,o4,o5,o6,bs,m,rfl,s1,T1,xu,dm,KP,fb,nD⟩:=h
  exact⟨_,rfl,K0 m D bs H1 xu (dm.mono (by omega)) KP s1 fD fb nD T1⟩
noncomputable def FT:Sp:=λvs H Q _=>vs=[]/\
 ∀(r:Addr)(as:List Addr)(H':Hp),az H H'->H r=none->(∀b∈as,H b=none) ->H' r=some (.lst (as.map V.ref)) ->f7 H' as->rws H' as=wC->as.length=26->Q (.ref r) H'
theorem xQ(F:fU K mg "_law_small" mT iG)(aH:mg "range"=none):dQ P w K mg base dz 1 "_law_small" iG FT:=by
 refine F.ok xy (λvs H Q E h=> ?_) (λf cdv A outer s H vs Q E hr h=> ?_)
 ·obtain⟨rfl,q⟩:=h
  rfl
 obtain⟨rfl,q⟩:=h
 have hu:=hr.units
 refine⟨_,(cF (aW (Mw (N2:=[]) (tt:=(Iw (jq WI (bU 0) (tC (.int 13))))) (te:=(OT (dw (jq (CD λi j=> .int (i-j)) (jq (rI LR λi j=> .int (i/j)) (bU 0) (tC (.int 9))) (tC (.int 1))) (dw (jq (CD λi j=> .int (i-j)) (jq (rI (λ_ j=>0<j) λi j=> .int (i%j)) (jq (rI LR λi j=> .int (i/j)) (bU 0) (tC (.int 3))) (tC (.int 3))) (tC (.int 1))) (dw (jq (CD λi j=> .int (i-j)) (jq (rI (λ_ j=>0<j) λi j=> .int (i%j)) (bU 0) (tC (.int 3))) (tC (.int 1))) j4))))) rfl (cN rfl aH (af ah ak)) (by kernel_rfl) rfl (λ_ _ _=>by exact VA (cL AN (pv 0) ah (cK _))) (λ_ _ _=>by exact ly (dR (af (aq dG (aq fm (pv 0) ah) ah) (af (aq dG (aq g8 (aq fm (pv 0) ah) ah) ah) (af (aq dG (aq g8 (pv 0) ah) ah) ak)))))))),?_⟩
 refine⟨27,rfl,by decide,by decide,λD hD=>HA (gT (n:=27)) (by decide) hD (λx=> !decide (x= .int 13)) (λx v H'=> ∃(b:Addr)(k:Nat),v= .ref b/\b≠D/\H b=none/\x= .int (k:Int)/\H' b=some (.lst ((KL k).map V.int))) ?_ ?_ ?_ ?_⟩
 ·rintro x v G G' ⟨b,k,rfl,nb,fb,rfl,e⟩ s
  exact⟨b,k,rfl,nb,fb,rfl,s _ _ nb e⟩
 ·intro x hx G R sG k
  obtain⟨j,hj⟩:=List.mem_iff_getElem?.mp hx
  obtain⟨hj,rfl⟩:=fN hj
  exact⟨_,rfl,rfl,_,rfl,k G (az.refl _)⟩
 ·intro x hx px G Q' sG eo k
  obtain⟨j,hj⟩:=List.mem_iff_getElem?.mp hx
  obtain⟨hj,rfl⟩:=fN hj
  refine⟨_,rfl,_,_,rfl,rfl,⟨by decide,by decide⟩,_,_,rfl,rfl,_,rfl,_,_,rfl,rfl,⟨by decide,by decide⟩,_,_,rfl,rfl,(by show(0:Int)<3;decide),_,_,rfl,rfl,_,rfl,_,_,rfl,rfl,(by show(0:Int)<3;decide),_,_,rfl,rfl,(by show 3<=sizeLine;decide),λb hb=> ?_⟩
  refine k _ _ (az.up hb) ⟨b,j,rfl,(λz=>by obtain⟨o,eo⟩:=eo;rw[z,eo]at hb;cases hb),sG.none hb,rfl,ao⟩
 ·intro vs G sG hl items eD
  obtain⟨as,rfl⟩:∃as:List Addr,vs=as.map V.ref:=oB λv hv=>by
   obtain⟨j,hj⟩:=List.mem_iff_getElem?.mp hv
   have hjl:=(List.getElem?_eq_some_iff.mp hj).1
   obtain⟨b,k,e,_⟩:=items j _ v (List.getElem?_eq_getElem (hl▸hjl)) hj
   exact⟨b,e⟩
  have eL:(mE 27).filter (λx=> !decide (x=V.int 13))=((List.range 27).filter (λk=>decide (k≠13))).map λk:Nat=>V.int (k:Int):=by decide+kernel
  rw[eL,List.length_map,List.length_map]at hl
  have it:∀(j:Nat)(b:Addr),as[j]?=some b-> ∃k,((List.range 27).filter (λk=>decide (k≠13)))[j]?=some k/\H b=none/\G b=some (.lst ((KL k).map V.int)):=λj b hb=>by
   have hjl:=(List.getElem?_eq_some_iff.mp hb).1
   obtain⟨b',k,e,_,fb,ek,e'⟩:=items j _ (.ref b) (by rw[eL,List.getElem?_map,List.getElem?_eq_getElem (hl▸hjl)];rfl) (by rw[List.getElem?_map,hb];rfl)
   cases e
   refine⟨k,?_,fb,e'⟩
   rw[List.getElem?_eq_getElem (hl▸hjl)]
   injection ek with ek
   exact congrArg some (by omega)
  have ok:f7 G as:=λb hb=>by
   obtain⟨j,hj⟩:=List.mem_iff_getElem?.mp hb
   obtain⟨k,_,_,e⟩:=it j b hj
   exact(JS e).1
  have er:rws G as=wC:=by
   refine List.ext_getElem? λj=> ?_
   unfold rws wC
   rw[List.getElem?_map,List.getElem?_map]
   cases hj:as[j]? with
   |none=>
    rw[List.getElem?_eq_none_iff]at hj
    rw[List.getElem?_eq_none_iff.mpr (by omega)]
    rfl
   |some b=>
    obtain⟨k,ek,_,e⟩:=it j b hj
    rw[ek]
    exact congrArg some (JS e).2
  exact q D as G sG hD (λb hb=>by obtain⟨j,hj⟩:=List.mem_iff_getElem?.mp hb;exact(it j b hj).choose_spec.2.1) eD ok er (hl.trans (by decide+kernel))
noncomputable def FU:Sp:=λvs H Q _=>vs=[]/\
 ∀(r p0 p1 p2:Addr)(H':Hp),az H H'->H r=none->H p0=none->H p1=none->H p2=none->Tab H' r [p0,p1,p2] (gU 1) ->r∉ [p0,p1,p2] ->Q (.ref r) H'
theorem xR(F:fU K mg "_law_plain" mS iF):dQ P w K mg base dz 1 "_law_plain" iF FU:=by
 refine F.ok xx (λvs H Q E h=> ?_) (λf cdv A outer s H vs Q E hr h=> ?_)
 ·obtain⟨rfl,q⟩:=h
  rfl
 obtain⟨rfl,q⟩:=h
 have hu:=hr.units
 refine toF ?_
 refine⟨_,(Df (iT (bg (iT (bg dJ (bg dJ (bg dJ iS (by kernel_rfl)) (by kernel_rfl)) (by kernel_rfl))) (bg (iT (bg dJ (bg dJ (bg dJ iS (by kernel_rfl)) (by kernel_rfl)) (by kernel_rfl))) (bg (iT (bg dJ (bg dJ (bg dJ iS (by kernel_rfl)) (by kernel_rfl)) (by kernel_rfl))) iS (by kernel_rfl)) (by kernel_rfl)) (by kernel_rfl)))),?_⟩
 refine⟨(by show 3<=sizeLine;decide),λp0 g0=>⟨(by show 3<=sizeLine;decide),λp1 g1=>⟨(by show 3<=sizeLine;decide),λp2 g2=>⟨(by show 3<=sizeLine;decide),λD hD=> ?_⟩⟩⟩⟩
 have u0:=az.up (o:= .lst [.int 1,.int 0,.int 0]) g0
 have u1:=az.up (o:= .lst [.int 0,.int 1,.int 0]) g1
 have u2:=az.up (o:= .lst [.int 0,.int 0,.int 1]) g2
 have u3:=az.up (o:= .lst [.ref p0,.ref p1,.ref p2]) hD
 have T:Tab _ D [p0,p1,p2] (gU 1):=kR _ ao (u3 _ _ (u2 _ _ (u1 _ _ ao))) (u3 _ _ (u2 _ _ ao)) (u3 _ _ ao)
 obtain⟨fD,fb,nD⟩:=zE g0 g1 g2 hD
 exact q D p0 p1 p2 _ (u0.trans (u1.trans (u2.trans u3))) fD (fb p0 (by simp)) (fb p1 (by simp)) (fb p2 (by simp)) T nD
inductive KQ(vs:List V)(H:Hp)(Q:VK)(E:XK):Prop
 |mk(t:Addr)(bs:List Addr)(m:List (List Int))(_:vs=[.ref t])(_:Tab H t bs m)(_:bE m)(_:∀(r:Addr) (H':Hp),az H H'->H r=none->H' r=some (.lst ([ent m 0 0,ent m 1 1,ent m 2 2,ent m 0 1,ent m 0 2,ent m 1 2].map V.int)) ->Q (.ref r) H')
theorem xS(F:fU K mg "_law_order" mU iH):dQ P w K mg base dz 1 "_law_order" iH KQ:=by
 refine F.ok xA (λvs H Q E h=> ?_) (λf cdv A outer s H vs Q E hr h=> ?_)
 ·obtain⟨t,bs,m,rfl,hT,b7,q⟩:=h
  rfl
 obtain⟨t,bs,m,rfl,hT,b7,q⟩:=h
 have hu:=hr.units
 refine⟨_,(cF (aW (dR (af (aD au (aD au (pv 0) ah (λ_ _=>rfl)) ah (λ_ _=>rfl)) (af (aD au (aD au (pv 0) ah (λ_ _=>rfl)) ah (λ_ _=>rfl)) (af (aD au (aD au (pv 0) ah (λ_ _=>rfl)) ah (λ_ _=>rfl)) (af (aD au (aD au (pv 0) ah (λ_ _=>rfl)) ah (λ_ _=>rfl)) (af (aD au (aD au (pv 0) ah (λ_ _=>rfl)) ah (λ_ _=>rfl)) (af (aD au (aD au (pv 0) ah (λ_ _=>rfl)) ah (λ_ _=>rfl)) ak))))))))),?_⟩
 obtain⟨b0,x0,y0,_⟩:=aZ hT b7 (i:=0) (by decide)
 obtain⟨b1,x1,y1,_⟩:=aZ hT b7 (i:=1) (by decide)
 obtain⟨b2,x2,y2,_⟩:=aZ hT b7 (i:=2) (by decide)
 refine⟨_,rfl,t,_,_,_,rfl,rfl,aU.of hT.1,x0,b0,_,_,_,rfl,rfl,aU.of y0,rfl,_,rfl,t,_,_,_,rfl,rfl,aU.of hT.1,x1,b1,_,_,_,rfl,rfl,aU.of y1,rfl,_,rfl,t,_,_,_,rfl,rfl,aU.of hT.1,x2,b2,_,_,_,rfl,rfl,aU.of y2,rfl,_,rfl,t,_,_,_,rfl,rfl,aU.of hT.1,x0,b0,_,_,_,rfl,rfl,aU.of y0,rfl,_,rfl,t,_,_,_,rfl,rfl,aU.of hT.1,x0,b0,_,_,_,rfl,rfl,aU.of y0,rfl,_,rfl,t,_,_,_,rfl,rfl,aU.of hT.1,x1,b1,_,_,_,rfl,rfl,aU.of y1,rfl,(by show 6<=sizeLine;decide),λr hr=> ?_⟩
 exact q r _ (az.up hr) hr ao
inductive KR(vs:List V)(H:Hp)(Q:VK)(E:XK):Prop
 |mk(t:Addr)(bs:List Addr)(m:List (List Int))(_:vs=[.ref t])(_:Tab H t bs m)(_:bE m)(_:bJ m)(_:Bd 30 m)(_:qi m)(_:∀H',az H H'->Q (.bl true) H')
theorem sQ(F:fU K mg "_law_is_small" jz gf)(aH:mg "range"=none)(wD:mg "abs"=none)(bW:dQ P w K mg base dz 1 "_law_determinant" cW Ah):dQ P w K mg base dz 2 "_law_is_small" gf KR:=by
 refine F.ok iY (λvs H Q E h=> ?_) (λf cdv A outer s H vs Q E hr h=> ?_)
 ·obtain⟨t,bs,m,rfl,hT,b7,ev,dm,sm,q⟩:=h
  rfl
 obtain⟨t,bs,m,rfl,hT,b7,ev,dm,sm,q⟩:=h
 have hu:=hr.units
 refine⟨_,(oO (@aB _ _ _ _ _ (eE (rq (Iz vc vc (aD au (aD au (pv 0) ah (λ_ _=>rfl)) ah (λ_ _=>rfl)) (aD au (aD au (pv 0) ah (λ_ _=>rfl)) ah (λ_ _=>rfl)) (aD au (aD au (pv 0) ah (λ_ _=>rfl)) ah (λ_ _=>rfl)))) (@aT _ _ _ (aW pC)) d9)
  (@aB _ _ _ _ _ (gO PassesOwn.never rfl (cN rfl aH (af ah ak)) (aI (i:=1) iY.nd rfl (Or.inl rfl)) (cF (gO PassesOwn.never rfl (cN rfl aH (af ah ak)) (aI (i:=2) iY.nd rfl (Or.inl rfl)) (cF (eE (PW.pt (CJ (cL AN (pv 1) (pv 2) (cK _)) (zc (cL qD (aq g7 ah (eG vd rfl wD PyProof.Rows.boot_abs (af (aD au (aD au (pv 0) (pv 1) (λ_ _=>rfl)) (pv 2) (λ_ _=>rfl)) ak))) (aD au (aD au (pv 0) (pv 1) (λ_ _=>rfl)) (pv 1) (λ_ _=>rfl)) (cK _))))) (@aT _ _ _ (aW pC)) d9)))))
  (@aT _ _ _ (aW (kO vc (aq g7 (aq aE (aD au (aD au (pv 0) ah (λ_ _=>rfl)) ah (λ_ _=>rfl)) (aD au (aD au (pv 0) ah (λ_ _=>rfl)) ah (λ_ _=>rfl))) (aD au (aD au (pv 0) ah (λ_ _=>rfl)) ah (λ_ _=>rfl))) (aq g7 ah (aP bW hr rfl aM (af (pv 0) ak))) (cK _))))))),?_⟩
 obtain⟨b0,x0,y0,_⟩:=aZ hT b7 (i:=0) (by decide)
 obtain⟨b1,x1,y1,_⟩:=aZ hT b7 (i:=1) (by decide)
 obtain⟨b2,x2,y2,_⟩:=aZ hT b7 (i:=2) (by decide)
 have l1:=sm.BC
 have l2:=sm.Dw
 have rest:True:=trivial
 refine⟨_,rfl,t,_,_,_,rfl,rfl,aU.of hT.1,x0,b0,_,_,_,rfl,rfl,aU.of y0,rfl,_,rfl,t,_,_,_,rfl,rfl,aU.of hT.1,x1,b1,_,_,_,rfl,rfl,aU.of y1,rfl,_,_,rfl,rfl,_,rfl,?_⟩
 refine lS (λ_=> ?_) (λz=>absurd (decide_eq_true l1) z)
 refine⟨_,rfl,t,_,_,_,rfl,rfl,aU.of hT.1,x2,b2,_,_,_,rfl,rfl,aU.of y2,rfl,_,_,rfl,rfl,_,rfl,IQ l2 ?_⟩
 have off:∀i j,i<3->j<3->i≠j->2*(if ent m i j<0 then-ent m i j else ent m i j)<=ent m i i:=λi j hi hj hn=>by
  obtain⟨p1,p2⟩:=sm.p
  obtain⟨q1,q2⟩:=sm.q
  obtain⟨r1,r2⟩:=sm.r
  obtain⟨HZ,Ql,QY⟩:=ev.sym
  have a0:=sm.pos
  rcases aN hi with rfl|rfl|rfl<;>rcases aN hj with rfl|rfl|rfl<;>first|exact absurd rfl hn|(split<;>omega)
 have s30:∀i j,i<3->j<3-> -(2^64)<ent m i j/\ent m i j<2^64:=λi j hi hj=>by
  have:=dm i j hi hj
  omega
 refine⟨3,rfl,by decide,by decide,gh (n:=3) (λi σ H'=> ∃oi oj,σ=[some (.ref t),oi,oj]/\H'=H) ⟨_,_,rfl,rfl⟩ (λi σ H1 hi hh=> ?_) (λσ H1 hh=> ?_)⟩
 ·obtain⟨oi,oj,rfl,rfl⟩:=hh
  refine⟨3,rfl,by decide,by decide,gh (n:=3) (λj σ H'=> ∃oj,σ=[some (.ref t),some (.int (0+(i:Int))),oj]/\H'=H1) ⟨_,rfl,rfl⟩ (λj σ H2 hj hh=> ?_) (λσ H2 hh=> ?_)⟩
  ·obtain⟨oj,rfl,rfl⟩:=hh
   obtain⟨b,row,e1,e2,e3⟩:=kQ hT b7 hi hj
   obtain⟨b',VJ,f1,f2,f3⟩:=kQ hT b7 hi hi
   simp only[Int.zero_add]
   refine⟨_,rfl,_,rfl,rfl,_,rfl,lS (λc=> ?_) (λc=> ?_)⟩
   ·have hn:i≠j:=λz=>by subst z;simp at c
    refine⟨_,rfl,_,rfl,t,_,_,_,rfl,rfl,aU.of hT.1,e1,_,rfl,b,_,_,_,rfl,rfl,aU.of e2,e3,_,rfl,_,_,rfl,rfl,.inl ⟨by decide,by decide⟩,_,rfl,_,rfl,t,_,_,_,rfl,rfl,aU.of hT.1,f1,_,rfl,b',_,_,_,rfl,rfl,aU.of f2,f3,_,_,rfl,rfl,_,rfl,?_⟩
    rw[show decide (ent m i i<2*(if ent m i j<0 then-ent m i j else ent m i j))=false from decide_eq_false (Int.not_lt.mpr (off i j hi hj hn))]
    exact pK ⟨_,rfl,rfl⟩
   ·exact pK ⟨_,rfl,rfl⟩
  ·obtain⟨oj,rfl,rfl⟩:=hh
   exact⟨_,_,rfl,rfl⟩
 ·obtain⟨oi,oj,rfl,rfl⟩:=hh
  have ab:∀x y:Int,-(2^30)<x->x<2^30-> -(2^30)<y->y<2^30-> -(2^64)<x*y/\x*y<2^64:=λx y a b c d=>by
   have:=cH (a:=30) (b:=30) (show x.natAbs<2^30 by omega) (show y.natAbs<2^30 by omega)
   omega
  have d0:=dm 0 0 (by decide) (by decide)
  have d1:=dm 1 1 (by decide) (by decide)
  refine⟨_,rfl,t,_,_,_,rfl,rfl,aU.of hT.1,x0,b0,_,_,_,rfl,rfl,aU.of y0,rfl,_,rfl,t,_,_,_,rfl,rfl,aU.of hT.1,x1,b1,_,_,_,rfl,rfl,aU.of y1,rfl,_,_,rfl,rfl,⟨aL d0 (by decide),aL d1 (by decide)⟩,_,rfl,t,_,_,_,rfl,rfl,aU.of hT.1,x2,b2,_,_,_,rfl,rfl,aU.of y2,rfl,_,_,rfl,rfl,.inl (ab _ _ (by omega) (by omega) (by omega) (by omega)),_,rfl,t,bs,m,rfl,hT,b7,dm.mono (by decide),_,_,rfl,rfl,.inl ⟨by decide,by decide⟩,_,_,rfl,rfl,?_⟩
  rw[show decide (ent m 0 0*ent m 1 1*ent m 2 2<=2*aA m)=true from decide_eq_true sm.prod]
  exact q _ (az.refl _)
noncomputable def FW(K:PySem.W.Frag)(tabs g9:List Addr):Sp:=λvs H Q _=> ∃(a:Addr)(ns:List Int),vs=[.ref a]/\aU K H a (ns.map V.int)/\ns.length<=63/\(∀T∈tabs,H T=some (fE T))/\(∀T∈g9,H T=some .AG)/\ ∀H',az H H'->Q (.bl true) H'
theorem Qx{f:Addr}{fd:FuncData}{bT bI aO bO aF bC:Addr}{tabs g9:List Addr}(HD:bT∈tabs)(Cq:bI∈tabs)(sU:aO∈tabs)(Eg:bO∈tabs)(Eh:aF∈tabs)(Cr:bC∈g9)(F:NN K "law" "law" qT f fd)(aH:mg "range"=none)(kG:mg "len"=none)(KS:mg "min"=none)(KU:mg "max"=none)(qk:dQ P w K mg base dz 13 "_law_bag" kB (Oq K))(bh:dQ P w K mg base dz 13 "_law_take" fV wF)(kJ:dQ P w K mg base dz 13 "_law_reduced" gG yV)(jQ:dQ P w K mg base dz 13 "_law_basis" iE Cp)(iL:dQ P w K mg base dz 13 "_law_carried" gF KO)(Ai:dQ P w K mg base dz 13 "least" qQ (FO bT bI aO bO aF bC))(jE:dQ P w K mg base dz 13 "_law_is_small" gf KR)(nh:dQ P w K mg base dz 13 "_law_small" iG FT)(jR:dQ P w K mg base dz 13 "_law_plain" iF FU)(jS:dQ P w K mg base dz 13 "_law_order" iH KQ):pJ P w K mg base dz 14 f fd ["_law_script"] (FW K tabs g9):=by
 refine F.ok mV (λvs H Q E h=> ?_) (λcdv A outer s H vs Q E hr h=> ?_)
 ·obtain⟨a,ns,rfl,hS,h63,hT,hC,q⟩:=h
  rfl
 obtain⟨a,ns,rfl,hS,h63,hT,hC,q⟩:=h
 have hu:=hr.units
 refine⟨_,(oO (@aB _ _ _ _ _ (gO PassesOwn.never rfl (cN rfl aH (af (eG (Gf rfl) rfl KU PyProof.Rows.boot_max (af ah (af (eG (Gg rfl) rfl KS PyProof.Rows.boot_min (af ah (af (eG iw rfl kG PySem.boot_len (af (pv 0) ak)) ak))) ak))) ak)) (aI (i:=1) mV.nd rfl (Or.inl rfl)) (oO (@aB _ _ _ _ _ (aY (i:=2) mV.nd rfl (Or.inl rfl) (aP qk hr rfl aM (af (pv 0) (af (pv 1) ak))))
  (@aB _ _ _ _ _ (aY (i:=3) mV.nd rfl (Or.inl rfl) (aP iL hr rfl aM (af (aP kJ hr rfl aM (af (pv 2) (af ah ak))) (af (aP jQ hr rfl aM (af (pv 2) (af (aD au (dR (af ah (af ah (af ah (af (aq Iq ah ah) ak))))) (aP bh hr rfl aM (af (pv 2) (af ah ak))) (λ_ _=>rfl)) ak))) ak))))
  (@aB _ _ _ _ _ (aY (i:=4) mV.nd rfl (Or.inl rfl) (aD II (aP Ai hr rfl aM (af (pv 3) ak)) ah (λ_ _=>rfl)))
  (@aB _ _ _ _ _ (eE (rq (mj (aP jE hr rfl aM (af (pv 4) ak)))) (@aT _ _ _ (aW pC)) d9)
  (@aB _ _ _ _ _ (aY (i:=5) mV.nd rfl (Or.inl rfl) (dR (af (aP jQ hr rfl aM (af (pv 2) (af ah ak))) ak)))
  (@aB _ _ _ _ _ (gO PassesOwn.never rfl (gv (Ef nh hr rfl aM)) (aI (i:=6) mV.nd rfl (Or.inl rfl)) (cF (gO PassesOwn.never rfl (cN rfl aH (af ah ak)) (aI (i:=7) mV.nd rfl (Or.inl rfl)) (cF (eE (cL AN (aD au (pv 6) (pv 7) (λ_ _=>rfl)) ah (cK _)) (@aT _ _ _ (uF (IL PySem.F.plainAttrs_list PySem.F.slot_list_append PySem.F.type_list_append jU (pv 5) (af (aq IM (aq IM (vg zq (Ef jR hr rfl aM) zk (zm (pv 7))) (dR (af (pv 6) ak))) (vg zq (Ef jR hr rfl aM) (zm (aq bV (pv 7) ah)) zk)) ak)))) d9)))))
  (@aT _ _ _ (gO PassesOwn.never rfl (gv (pv 5)) (aI (i:=8) mV.nd rfl (Or.inl rfl)) (cF (eE (cL (Qt hu) (aP jS hr rfl aM (af (aP iL hr rfl aM (af (pv 4) (af (pv 8) ak))) ak)) (aP jS hr rfl aM (af (pv 4) ak)) (cK _)) (@aT _ _ _ (aW pC)) d9))))))))))))
  (@aT _ _ _ (aW pC)))),?_⟩
 have hl:(ns.map V.int).length=ns.length:=List.length_map _
 refine⟨_,rfl,a,_,rfl,.inl hS,_,_,rfl,_,_,rfl,_,rfl,?_⟩
 obtain⟨mx,Zy,mx0,mx3⟩:∃mx:Int,(if(if((ns.map V.int).length:Int)<4 then((ns.map V.int).length:Int)else 4)>1 then(if((ns.map V.int).length:Int)<4 then((ns.map V.int).length:Int)else 4)else 1)=mx/\0<=mx/\mx<=4:=⟨_,rfl,by split<;>split<;>omega,by split<;>split<;>omega⟩
 rw[Zy]
 refine⟨by omega,by omega,?_⟩
 refine gh (λi σ H'=> ∃o1 o2 o3 o4 o5 o6 o7 o8,σ=[some (.ref a),o1,o2,o3,o4,o5,o6,o7,o8]/\az H H') ⟨_,_,_,_,_,_,_,_,rfl,az.refl _⟩ (λi σ H1 hi hh=> ?_) (λσ H1 hh=> ?_)
 ·obtain⟨o1,o2,o3,o4,o5,o6,o7,o8,rfl,s1⟩:=hh
  refine⟨_,rfl,_,rfl,a,ns,_,rfl,s1.seq hS,h63,by omega,by omega,λB H2 s2 fB hb=> ?_⟩
  refine⟨_,rfl,B,_,rfl,hb,by decide,by decide,λm t bs H3 xu dm ev ab le s3 ft fb nt nn T=> ?_⟩
  have Ia:=s1.trans s2
  have Zz:H B=none:=s1.none fB
  have out:∀{H':Hp},SB B H2 H'->az H H':=λs b o e=>s.1 b o (λz=>by rw[z,Zz]at e;cases e) (Ia _ _ e)
  have ZA:t≠B:=hb.ne ft
  have ZC:B∉bs:=λz=>hb.ne (fb B z) rfl
  refine⟨_,rfl,_,_,rfl,rfl,⟨by decide,by decide,by decide⟩,(by show 4<=sizeLine;decide),λp hp=> ?_⟩
  have sp:=az.up (o:= .lst [V.int 3,.int 3,.int 3,.int (10^(4:Int).toNat)]) hp
  have ZD:p≠B:=s3.ne hp
  have Wt:=s3.trans (SB.of s3.2 sp)
  refine⟨_,rfl,B,_,rfl,Wt.2,by decide,by decide,λd H5 d0 d4 s5=> ?_⟩
  obtain⟨FQ,hv,f0,f1⟩:∃FQ:Int,zo [V.int 3,.int 3,.int 3,.int (10^(4:Int).toNat)] d=some (.int FQ)/\0<=FQ/\FQ<=10000:=by
   have:d=0∨d=1∨d=2∨d=3:=by omega
   rcases this with rfl|rfl|rfl|rfl<;>exact⟨_,rfl,by decide,by decide⟩
  have Rb:=Wt.trans s5
  refine⟨p,_,_,_,rfl,rfl,aU.of (s5.1 p _ ZD ao),hv,B,FQ,rfl,Rb.2,f0,f1,λmb tb ZE H6 cb dB Wu s6 ftb fbb ntb Tb=> ?_⟩
  have Wv:=(SB.of s3.2 sp).trans (s5.trans s6)
  have T6:=T.sb Wv ZA ZC
  refine⟨t,bs,m,tb,ZE,mb,rfl,T6,Tb,xu,cb,dm.mono (by decide),dB.mono (by decide),λu us H7 s7 fu VM nu nnu Tu=> ?_⟩
  have uB:aA mb=1∨aA mb= -1:= .inl Wu
  have Tu:Tab H7 u us (br m mb):=Tu
  have dC:Bd 440 (br m mb):=(uH (uH dB dm) (Bf dB)).mono (by decide)
  have cC:=oW m mb
  have Ww:=rB ev xu cb
  have Wx:=pQ (fG ev xu) ab cb uB
  have XY:aA (br m mb)/2<=200:=by rw[vD uB];exact le
  generalize br m mb=C at Tu cC dC Ww Wx XY
  have Rf:=(s3.trans Wv).trans (SB.of s6.2 s7)
  have Qy:=out Rf
  clear T T6 Tb Wv Rb Wt s5 s6 sp hp
  refine gN ?_
  refine⟨_,rfl,u,us,C,rfl,Tu,cC,dC,Ww,Wx,XY,(Qy) _ _ (hT _ HD),(Qy) _ _ (hT _ Cq),(Qy) _ _ (hT _ sU),(Qy) _ _ (hT _ Eg),(Qy) _ _ (hT _ Eh),(Qy) _ _ (hC _ Cr),λP x xs y ys BB H8 s8 eP Tx Ty B3 ZF bB fx Wi fy Wj ny LO=> ?_⟩
  refine⟨P,_,_,_,rfl,rfl,pI.of eP,rfl,?_⟩
  clear Ty B3 bB fy Wj ny eP
  have XZ:=LO.self cC
  obtain⟨M,eM⟩:∃M,M=br C BB:=⟨_,rfl⟩
  rw[<-eM]at Tx LO XZ
  clear eM ZF
  have d4:aA C<=401:=by omega
  obtain⟨sm,Tv,cM,Wk,dtM,bM⟩:=LO.all Ww cC Wx d4
  refine gN ?_
  refine⟨_,rfl,x,xs,M,rfl,Tx,cM,Tv,bM,sm,λH9 s9=>⟨_,rfl,pK ?_⟩⟩
  have Uu:=Rf.trans (SB.of Rf.2 (s8.trans s9))
  have B9:=Uu.2
  refine gN ?_
  refine⟨_,rfl,B,2,rfl,B9,by decide,by decide,λm0 t0 ZG ZH c0 Yb Yc HZ f0 ZJ ZK T0=> ?_⟩
  refine⟨(by show 1<=sizeLine;decide),λO hO=> ?_⟩
  have sO:=az.up (o:= .lst [V.ref t0]) hO
  obtain⟨J,eJ⟩:∃J,J=upd ZH O (.lst [V.ref t0]):=⟨_,rfl⟩
  have eO:J O=some (.lst [V.ref t0]):=by rw[eJ];exact ao
  rw[<-eJ]at sO
  have QZ:yT O J t0:=⟨(T0.apart hO).1,ZG,m0,T0.same sO,(T0.apart hO).2,c0,Yb.mono (by decide),.inl Yc⟩
  have Yd:x≠B:=Rf.ne fx
  have TJ:B∉xs:=λz=>Rf.ne (Wi B z) rfl
  have Ye:=(SB.of B9 (az.refl _)).trans HZ
  have Qz:=(Tx.same s9).sb Ye Yd TJ
  have xO:=Qz.apart hO
  have ZL:=Qz.same sO
  have ZM:=(out (Uu.trans HZ)).trans sO
  have ZN:H O=none:=(out (Uu.trans HZ)).none hO
  clear Qz Tx Ye Yd TJ T0 s9 s8 HZ Uu Rf Qy hO sO f0 ZJ ZK c0 Yb Yc
  refine gN ?_
  rw[<-eJ]
  clear eJ
  refine⟨rfl,λr as Yg Uv fr Wb er ZO Wy l26=>⟨r,rfl,⟨_,aU.of er⟩,?_⟩⟩
  have rO:r≠O:=λz=>by rw[z,eO]at fr;cases fr
  have fO:∀b∈as,b≠O:=λb hb z=>by have:=Wb b hb;rw[z,eO]at this;cases this
  refine lR (xs:=as.map V.ref) (λj σ H'=> ∃o6 o7,σ=[some (.ref a),some (.int (0+(i:Int))),some (.ref B),some (.ref u),some (.ref x),some (.ref O),o6,o7,o8]/\Up O Yg H'/\ ∃ts:List Addr,H' O=some (.lst (ts.map V.ref))/\ts.length<=1+3*j/\ ∀t∈ts,yT O H' t) ⟨_,_,rfl,Up.refl _,[t0],Uv _ _ eO,Nat.le_refl 1,λt ht=>by rw[List.mem_singleton.mp ht];exact QZ.up (Up.of Uv)⟩ (λj σ Rg hj hh=> ?_) (λj v σ Rg hv hh=> ?_) (λσ Rg hh=> ?_)
  ·obtain⟨o6,o7,rfl,QA,_⟩:=hh
   exact aU.of (QA _ _ rO er)
  ·obtain⟨o6,o7,rfl,QA,ts,eT,lT,Wz⟩:=hh
   rw[List.getElem?_map]at hv
   obtain⟨b,eb,rfl⟩:=Option.map_eq_some_iff.mp hv
   have ZP:j<26:=by have:=(List.getElem?_eq_some_iff.mp eb).1;omega
   have hb:=List.mem_of_getElem? eb
   obtain⟨Qn,QX⟩:=ZO b hb
   obtain⟨rx,ry,rz,erw,x1,x2,y1,y2,z1,z2,nz⟩:=Ed (show dP Yg b∈wC by rw[<-Wy];exact List.mem_map.mpr ⟨b,hb,rfl⟩)
   rw[erw]at Qn
   have WA:Rg b=some (.lst ([rx,ry,rz].map V.int)):=QA _ _ (fO b hb) Qn
   refine⟨3,rfl,by decide,by decide,gh (n:=3) (λk σ H'=> ∃o7,σ=[some (.ref a),some (.int (0+(i:Int))),some (.ref B),some (.ref u),some (.ref x),some (.ref O),some (.ref b),o7,o8]/\Up O Rg H'/\ ∃ts':List Addr,H' O=some (.lst (ts'.map V.ref))/\ts'.length<=1+3*j+k/\ ∀t∈ts',yT O H' t) ⟨_,rfl,Up.refl _,ts,eT,by omega,Wz⟩ (λk σ Rh hk hh=> ?_) (λσ Rh hh=> ?_)⟩
   ·obtain⟨ZQ,rfl,TL,ts',Ot,ZR,Nu⟩:=hh
    simp only[Int.zero_add]
    have TM:=TL _ _ (fO b hb) WA
    have gk:zo ([rx,ry,rz].map V.int) (k:Int)=some (.int ([rx,ry,rz].getD k 0)):=by rcases aN hk with rfl|rfl|rfl<;>rfl
    refine⟨_,rfl,_,rfl,b,_,_,_,rfl,rfl,aU.of TM,gk,rfl,_,rfl,lS (λc=> ?_) (λc=> ?_)⟩
    ·have nk: [rx,ry,rz].getD k 0≠0:=λz=>by rw[z]at c;simp at c
     have RO:=Nr hk ⟨x1,x2⟩ ⟨y1,y2⟩ ⟨z1,z2⟩ nk
     refine⟨_,rfl,.inl ⟨rfl,_,aU.of Ot⟩,?_⟩
     refine⟨rfl,λp p0 p1 p2 G1 t1 fp ZS ZT ZV Tp np=>⟨_,rfl,_,rfl,p,_,rfl,aU.of Tp.1,λc1 hc1=> ?_⟩⟩
     rw[show vh ([p0,p1,p2].map V.ref) none (some (k:Int))=([p0,p1,p2].take k).map V.ref by rw[yO (by show k<=3;omega),List.map_take]]
     have v1:=az.up (o:= .lst (([p0,p1,p2].take k).map V.ref)) hc1
     refine⟨_,rfl,(by show 1<=sizeLine;decide),λc2 hc2=> ?_⟩
     have v2:=az.up (o:= .lst [V.ref b]) hc2
     refine⟨c1,c2,_,_,rfl,rfl,v2 _ _ ao,ao,(by rcases aN hk with rfl|rfl|rfl<;>(show(_:Nat)<=16777216;simp)),λc3 hc3=> ?_⟩
     have v3:=az.up (o:= .lst (([p0,p1,p2].take k).map V.ref++ [V.ref b])) hc3
     refine⟨rfl,λq' q0 q1 q2 G2 t2 fq ZW ZX ZY Tq nq=>⟨_,rfl,_,_,rfl,rfl,_,rfl,q',_,rfl,aU.of Tq.1,λc4 hc4=> ?_⟩⟩
     rw[show vh ([q0,q1,q2].map V.ref) (some ((k:Int)+1)) none=([q0,q1,q2].drop (k+1)).map V.ref by rw[show((k:Int)+1)=((k+1:Nat):Int)by omega,HB (by show k+1<=3;omega),List.map_drop]]
     have v4:=az.up (o:= .lst (([q0,q1,q2].drop (k+1)).map V.ref)) hc4
     refine⟨c3,c4,_,_,rfl,rfl,v4 _ _ (t2 _ _ ao),ao,(by rcases aN hk with rfl|rfl|rfl<;>(show(_:Nat)<=16777216;simp)),λw hw=> ?_⟩
     have v5:=az.up (o:= .lst (([p0,p1,p2].take k).map V.ref++ [V.ref b]++([q0,q1,q2].drop (k+1)).map V.ref)) hw
     have g1:=t1.trans (v1.trans (v2.trans v3))
     have g2:=t2.trans (v4.trans v5)
     have g3:=g1.trans g2
     have wO:w≠O:=λz=>by rw[z,v4 _ _ (t2 _ _ (g1 _ _ Ot))]at hw;cases hw
     have nO:∀{c:Addr},Rh c=none->c≠O:=λe z=>by rw[z,Ot]at e;cases e
     have WB:∀{c:Addr},upd (upd (upd G1 c1 (.lst (([p0,p1,p2].take k).map V.ref))) c2 (.lst [V.ref b])) c3 (.lst (([p0,p1,p2].take k).map V.ref++ [V.ref b])) c=none->c≠O:=λe z=>by rw[z,g1 _ _ Ot]at e;cases e
     have ew:∀{G:Hp},upd G w (.lst (([p0,p1,p2].take k).map V.ref++ [V.ref b]++([q0,q1,q2].drop (k+1)).map V.ref)) w=some (.lst (([p0,p1,p2].take k++([b]++ [q0,q1,q2].drop (k+1))).map V.ref)):=λ {G}=>by
      rw[ao,List.map_append,List.map_append,List.append_assoc]
      rfl
     have TW:=KN hk (Tp.same ((v1.trans (v2.trans v3)).trans g2)) (Tq.same (v4.trans v5)) (g3 _ _ TM) ew
     have nb:O∉([p0,p1,p2].take k++([b]++ [q0,q1,q2].drop (k+1))):=λz=>by
      rcases List.mem_append.mp z with z|z
      ·have:=List.mem_of_mem_take z
       simp only[List.mem_cons,List.not_mem_nil,or_false]at this
       rcases this with z|z|z
       ·exact nO ZS z.symm
       ·exact nO ZT z.symm
       ·exact nO ZV z.symm
      ·rcases List.mem_append.mp z with z|z
       ·exact fO b hb (List.mem_singleton.mp z).symm
       ·have:=List.mem_of_mem_drop z
        simp only[List.mem_cons,List.not_mem_nil,or_false]at this
        rcases this with z|z|z
        ·exact WB ZW z.symm
        ·exact WB ZX z.symm
        ·exact WB ZY z.symm
     refine⟨O,ts'.map V.ref,.ref w,rfl,rfl,g3 _ _ Ot,(by rw[List.length_map];show _<16777216;omega),?_⟩
     have uu:Up O Rh _:=(Up.of g3).trans (Up.at (v:= .lst (ts'.map V.ref++ [V.ref w])))
     refine⟨_,rfl,TL.trans uu,ts'++ [w],by rw[List.map_append];exact ao,by rw[List.length_append];show ts'.length+1<=_;omega,λt ht=> ?_⟩
     rcases List.mem_append.mp ht with ht|ht
     ·exact(Nu t ht).up uu
     ·rw[List.mem_singleton.mp ht]
      exact⟨wO,_,_,TW.up wO nb Up.at,nb,RO.1,RO.2.1,RO.2.2⟩
    ·exact⟨_,rfl,TL,ts',Ot,by omega,Nu⟩
   ·obtain⟨ZQ,rfl,TL,ts',Ot,ZR,Nu⟩:=hh
    exact⟨_,_,rfl,QA.trans TL,ts',Ot,by omega,Nu⟩
  ·obtain⟨o6,o7,rfl,QA,ts,eT,lT,Wz⟩:=hh
   refine⟨_,rfl,O,rfl,⟨_,aU.of eT⟩,?_⟩
   have WC:=(ZL.same Uv).up xO.1 xO.2 QA
   have ZZ:az H Rg:=Up.same ZM ZN ((Up.of Uv).trans QA)
   refine lR (xs:=ts.map V.ref) (λj σ H'=> ∃Uw,σ=[some (.ref a),some (.int (0+(i:Int))),some (.ref B),some (.ref u),some (.ref x),some (.ref O),o6,o7,Uw]/\az Rg H') ⟨_,rfl,az.refl _⟩ (λj σ Rh hj hh=> ?_) (λj v σ Rh hv hh=> ?_) (λσ Rh hh=> ?_)
   ·obtain⟨Uw,rfl,xD⟩:=hh
    exact aU.of (xD _ _ eT)
   ·obtain⟨Uw,rfl,xD⟩:=hh
    rw[List.getElem?_map]at hv
    obtain⟨w,ew,rfl⟩:=Option.map_eq_some_iff.mp hv
    obtain⟨_,ws,mw,Tw,_,cw,bw,uw⟩:=Wz w (List.mem_of_getElem? ew)
    have TN:=WC.same xD
    refine⟨_,rfl,_,rfl,x,xs,M,w,ws,mw,rfl,TN,Tw.same xD,cM,cw,bM.mono (by decide),bw.mono (by decide),λz zs G1 g1 fz fzs nz nnz Tz=>⟨z,zs,br M mw,rfl,Tz,oW _ _,λr1 G2 g2 f1 e1=> ?_⟩⟩
    refine⟨_,rfl,x,xs,M,rfl,TN.same (g1.trans g2),cM,λr2 G3 g3 f2 e2=> ?_⟩
    refine⟨r1,r2,_,_,rfl,rfl,aU.of (g3 _ _ e1),aU.of e2,rfl,_,rfl,?_⟩
    rw[Qu (XZ.le mw cw uw)]
    exact pK ⟨_,rfl,xD.trans (g1.trans (g2.trans g3))⟩
   ·obtain⟨Uw,rfl,xD⟩:=hh
    exact⟨_,_,_,_,_,_,_,_,rfl,ZZ.trans xD⟩
 ·obtain⟨o1,o2,o3,o4,o5,o6,o7,o8,rfl,s1⟩:=hh
  exact q _ s1
end
theorem all_mk{l:PySem.W.OpenLaw}{q:Program}{loose:List Str}{mean:ExcName->Option Value}{w:World}{K:PySem.W.Frag}{h:Heap}{mg mb:Str->Option Value}{fa yW xT wG xU Nv HE HF Ei Cs wH nJ HG QB yX Nx Aj HH Ak wI Ej Al QC QD KW Ct xV sV Ek xW Ny El Cu ql wJ wK q8 um wL Am An Ao Aq uo KY:Addr}(X:K.In h)(Tp:PyProof.Rows.Top q loose mean mg mb h)(hfa:mg "law"=some (.ref fa))
  (sW:FnAt K "product" rQ yW)
  (lN:FnAt K "turned_over" lD xT)
  (kK:FnAt K "signed_minor" kq wG)
  (lO:FnAt K "determinant" lE xU)
  (Ar:FnAt K "cover" zU Nv)
  (sX:FnAt K "carried" rR HE)
  (sY:FnAt K "low_row" rW HF)
  (qm:FnAt K "is_whole" pX Ei)
  (wM:FnAt K "is_row" vO Cs)
  (qo:FnAt K "is_table" pY wH)
  (jF:FnAt K "is_even_table" jx nJ)
  (sZ:FnAt K "is_form" rT HG)
  (Em:FnAt K "half" DF QB)
  (tD:FnAt K "pairing" rV yX)
  (As:FnAt K "worth" zV Nx)
  (ni:FnAt K "less_times" mO Aj)
  (tE:FnAt K "nearest" rX HH)
  (nj:FnAt K "least_pair" mP Ak)
  (qp:FnAt K "in_order" p6 wI)
  (qt:FnAt K "drawn_in" p7 Ej)
  (nv:FnAt K "near_basis" mQ Al)
  (En:FnAt K "near" DH QC)
  (Eo:FnAt K "root" DI QD)
  (wN:FnAt K "slices" vS KW)
  (oG:FnAt K "near_rows" oq Ct)
  (lP:FnAt K "corner_rows" lG xV)
  (jb:FnAt K "pairs_in_order" iX sV)
  (qu:FnAt K "is_basis" pZ Ek)
  (lQ:FnAt K "least_basis" lH xW)
  (Au:FnAt K "least" zX Ny)
  (qv:FnAt K "_law_bag" p8 El)
  (oH:FnAt K "_law_take" ou Cu)
  (iu:FnAt K "_law_determinant" ie ql)
  (kL:FnAt K "_law_pairing" kC wJ)
  (kM:FnAt K "_law_carried" kD wK)
  (iM:FnAt K "_law_drawn_form" iD q8)
  (jG:FnAt K "_law_is_above" jy um)
  (kN:FnAt K "_law_reduced" kE wL)
  (nA:FnAt K "_law_basis" mR Am)
  (nC:FnAt K "_law_small" mT An)
  (nE:FnAt K "_law_plain" mS Ao)
  (nF:FnAt K "_law_order" mU Aq)
  (jH:FnAt K "_law_is_small" jz uo)
  {QE KZ:Option Addr}{QF:Array (Option Value)}{QG La Lb Lc Ep Ld:Value}(FY:PySem.W.nsIn K mainGlobals "law"=some (some (.ref KY)))(Le:K.lookup KY=some ⟨QG,QE,.func (PySem.W.fnOf "law" "law" (gZ qT) (fL qT) (aC qT) .none La Lb Lc KZ Ep Ld),QF⟩)(Lf:PySem.W.codeIn K Ep "law"=true)(Lg:PySem.W.keepIn K (.ref KY)=true)
  {HJ:DefRec}(tF:(PyProof.Rows.recsOf q).find? (λe=>e.name==("product":Str))=some HJ)
  {Lh:DefRec}(wQ:(PyProof.Rows.recsOf q).find? (λe=>e.name==("is_row":Str))=some Lh)
  {Er:DefRec}(qw:(PyProof.Rows.recsOf q).find? (λe=>e.name==("is_table":Str))=some Er)
  {uq:DefRec}(jI:(PyProof.Rows.recsOf q).find? (λe=>e.name==("is_even_table":Str))=some uq)
  {HK:DefRec}(tG:(PyProof.Rows.recsOf q).find? (λe=>e.name==("pairing":Str))=some HK)
  {Es:DefRec}(qx:(PyProof.Rows.recsOf q).find? (λe=>e.name==("in_order":Str))=some Es)
  (Li:PySem.W.nsIn K mainGlobals "sum"=some none)
  (oU:PySem.W.nsIn K mainGlobals "range"=some none)
  (nG:PySem.W.nsIn K mainGlobals "isinstance"=some none)
  (Lj:PySem.W.nsIn K mainGlobals "int"=some none)
  (y_bool:PySem.W.nsIn K mainGlobals "bool"=some none)
  (Et:PySem.W.nsIn K mainGlobals "list"=some none)
  (Lk:PySem.W.nsIn K mainGlobals "len"=some none)
  (Ll:PySem.W.nsIn K mainGlobals "all"=some none)
  {jB:_}(jJ:PySem.W.nsIn K mainGlobals "GREATEST_HALF"=some (some (Value.int 200 jB)))
  (Lm:PySem.W.nsIn K mainGlobals "zip"=some none)
  (wR:PySem.W.nsIn K mainGlobals "sorted"=some none)
  (Ln:PySem.W.nsIn K mainGlobals "abs"=some none)
  (Lo:PySem.W.nsIn K mainGlobals "min"=some none)
  (Lp:PySem.W.nsIn K mainGlobals "max"=some none)
  (ap:Jj K [yW,Cs,wH,nJ,yX] [wI]=true)
  :∃(fd:FuncData)(tabs g9:List Addr),(∀(s:Shared)(v:Value),BindsTo s fd ⟨[v],[]⟩ [("_law_script",v)])/\(∀T∈tabs++g9,isCodeTable h T/\h.get? T=some {cls:= .none,data:= .fields #[]})/\(∀T∈tabs,T∉g9)/\ ∀base:Heap,K.In base->base.Ns mainGlobals mg->BM mg base->pJ l.prog w K mg base dz 40 fa fd ["_law_script"] (FW K tabs g9):=by
 have G:=Tp.g
 have e:=hfa.symm.trans (PySem.W.mg_of X G FY)
 cases e
 have Yh:=PySem.W.mg_of X G FY
 obtain⟨bO,HL,Eu,Ew,Ex⟩:=sW.GZ (ps:=jX) Tp X tF (λ_ _ _ _ _ _ us hl=>match us,hl with| [_,_],_=>rfl)
 have xX:=lN.fun (ps:=gn) Tp X (λ_ _ _ _ _ _ us hl=>match us,hl with| [_],_=>rfl)
 have wU:=kK.fun (ps:=gC) Tp X (λ_ _ _ _ _ _ us hl=>match us,hl with| [_,_,_],_=>rfl)
 have xY:=lO.fun (ps:=eN) Tp X (λ_ _ _ _ _ _ us hl=>match us,hl with| [_],_=>rfl)
 have Nz:=Ar.fun (ps:=qP) Tp X (λ_ _ _ _ _ _ us hl=>match us,hl with| [_],_=>rfl)
 have HM:=sX.fun (ps:=jY) Tp X (λ_ _ _ _ _ _ us hl=>match us,hl with| [_,_],_=>rfl)
 have HN:=sY.fun (ps:=l7) Tp X (λ_ _ _ _ _ _ us hl=>match us,hl with| [_],_=>rfl)
 have Ey:=qm.fun (ps:=kj) Tp X (λ_ _ _ _ _ _ us hl=>match us,hl with| [_],_=>rfl)
 obtain⟨bT,Lq,HP,HQ,HR⟩:=wM.GZ (ps:=oh) Tp X wQ (λ_ _ _ _ _ _ us hl=>match us,hl with| [_],_=>rfl)
 obtain⟨bI,Ez,Cv,Cw,Cy⟩:=qo.GZ (ps:=ko) Tp X qw (λ_ _ _ _ _ _ us hl=>match us,hl with| [_],_=>rfl)
 obtain⟨aO,ur,tH,tK,tL⟩:=jF.GZ (ps:=f9) Tp X jI (λ_ _ _ _ _ _ us hl=>match us,hl with| [_],_=>rfl)
 have HS:=sZ.fun (ps:=l6) Tp X (λ_ _ _ _ _ _ us hl=>match us,hl with| [_],_=>rfl)
 have QH:=Em.fun (ps:=vQ) Tp X (λ_ _ _ _ _ _ us hl=>match us,hl with| [_],_=>rfl)
 obtain⟨aF,HU,EA,EB,EC⟩:=tD.GZ (ps:=gI) Tp X tG (λ_ _ _ _ _ _ us hl=>match us,hl with| [_,_,_],_=>rfl)
 have NC:=As.fun (ps:=mL) Tp X (λ_ _ _ _ _ _ us hl=>match us,hl with| [_,_],_=>rfl)
 have Av:=ni.fun (ps:=gJ) Tp X (λ_ _ _ _ _ _ us hl=>match us,hl with| [_,_,_],_=>rfl)
 have HV:=tE.fun (ps:=l8) Tp X (λ_ _ _ _ _ _ us hl=>match us,hl with| [_,_],_=>rfl)
 have Aw:=nj.fun (ps:=iB) Tp X (λ_ _ _ _ _ _ us hl=>match us,hl with| [_,_,_],_=>rfl)
 obtain⟨bC,ED,Cz,CA,jo⟩:=qp.GZ (ps:=iW) Tp X qx (λ_ _ _ _ _ _ us hl=>match us,hl with| [_,_],_=>rfl)
 have EE:=qt.fun (ps:=ku) Tp X (λ_ _ _ _ _ _ us hl=>match us,hl with| [_,_,_,_],_=>rfl)
 have Ax:=nv.fun (ps:=iC) Tp X (λ_ _ _ _ _ _ us hl=>match us,hl with| [_],_=>rfl)
 have QI:=En.fun (ps:=vR) Tp X (λ_ _ _ _ _ _ us hl=>match us,hl with| [_],_=>rfl)
 have QJ:=Eo.fun (ps:=rY) Tp X (λ_ _ _ _ _ _ us hl=>match us,hl with| [_],_=>rfl)
 have Lr:=wN.fun (ps:=om) Tp X (λ_ _ _ _ _ _ us hl=>match us,hl with| [_,_],_=>rfl)
 have CB:=oG.fun (ps:=jl) Tp X (λ_ _ _ _ _ _ us hl=>match us,hl with| [_,_],_=>rfl)
 have xZ:=lP.fun (ps:=gW) Tp X (λ_ _ _ _ _ _ us hl=>match us,hl with| [_],_=>rfl)
 have tM:=jb.fun (ps:=fQ) Tp X (λ_ _ _ _ _ _ us hl=>match us,hl with| [_,_,_],_=>rfl)
 have EF:=qu.fun (ps:=kr) Tp X (λ_ _ _ _ _ _ us hl=>match us,hl with| [_],_=>rfl)
 have x6:=lQ.fun (ps:=gX) Tp X (λ_ _ _ _ _ _ us hl=>match us,hl with| [_],_=>rfl)
 have ND:=Au.fun (ps:=qQ) Tp X (λ_ _ _ _ _ _ us hl=>match us,hl with| [_],_=>rfl)
 have EG:=qv.fun (ps:=kB) Tp X (λ_ _ _ _ _ _ us hl=>match us,hl with| [_,_],_=>rfl)
 have CC:=oH.fun (ps:=fV) Tp X (λ_ _ _ _ _ _ us hl=>match us,hl with| [_,_],_=>rfl)
 have qy:=iu.fun (ps:=cW) Tp X (λ_ _ _ _ _ _ us hl=>match us,hl with| [_],_=>rfl)
 have wV:=kL.fun (ps:=gE) Tp X (λ_ _ _ _ _ _ us hl=>match us,hl with| [_,_,_],_=>rfl)
 have wW:=kM.fun (ps:=gF) Tp X (λ_ _ _ _ _ _ us hl=>match us,hl with| [_,_],_=>rfl)
 have rf:=iM.fun (ps:=fK) Tp X (λ_ _ _ _ _ _ us hl=>match us,hl with| [_],_=>rfl)
 have uv:=jG.fun (ps:=gc) Tp X (λ_ _ _ _ _ _ us hl=>match us,hl with| [_],_=>rfl)
 have wX:=kN.fun (ps:=gG) Tp X (λ_ _ _ _ _ _ us hl=>match us,hl with| [_,_],_=>rfl)
 have Ay:=nA.fun (ps:=iE) Tp X (λ_ _ _ _ _ _ us hl=>match us,hl with| [_,_],_=>rfl)
 have Az:=nC.fun (ps:=iG) Tp X (λ_ _ _ _ _ _ us hl=>match us,hl with| [],_=>rfl)
 have AA:=nE.fun (ps:=iF) Tp X (λ_ _ _ _ _ _ us hl=>match us,hl with| [],_=>rfl)
 have AB:=nF.fun (ps:=iH) Tp X (λ_ _ _ _ _ _ us hl=>match us,hl with| [_],_=>rfl)
 have ux:=jH.fun (ps:=gf) Tp X (λ_ _ _ _ _ _ us hl=>match us,hl with| [_],_=>rfl)
 have TQ:=IP (st:=qT) Le Lf Lg
 have yG:=PySem.W.mg_none_of X G Li
 have aH:=PySem.W.mg_none_of X G oU
 have dU:=PySem.W.mg_none_of X G nG
 have tV:=PySem.W.mg_none_of X G Lj
 have DO:=PySem.W.mg_none_of X G y_bool
 have r9:=PySem.W.mg_none_of X G Et
 have kG:=PySem.W.mg_none_of X G Lk
 have qU:=PySem.W.mg_none_of X G Ll
 have jC:=PySem.W.mg_of X G jJ
 have ow:=PySem.W.mg_none_of X G Lm
 have gY:=PySem.W.mg_none_of X G wR
 have wD:=PySem.W.mg_none_of X G Ln
 have KS:=PySem.W.mg_none_of X G Lo
 have KU:=PySem.W.mg_none_of X G Lp
 refine⟨PySem.W.fnOf "law" "law" (gZ qT) (fL qT) (aC qT) .none La Lb Lc KZ Ep Ld,[bO,bT,bI,aO,aF],[bC],λs v=> .of_eq rfl,λT hT=> ?_,λT hT hC=> ?_,λbase LK _ bm=> ?_⟩
 ·simp only[List.mem_append,List.mem_cons,List.not_mem_nil,or_false,or_assoc]at hT
  rcases hT with rfl|rfl|rfl|rfl|rfl|rfl
  ·exact⟨Eu,Ew⟩
  ·exact⟨HP,HQ⟩
  ·exact⟨Cv,Cw⟩
  ·exact⟨tH,tK⟩
  ·exact⟨EA,EB⟩
  ·exact⟨Cz,CA⟩
 ·simp only[List.mem_cons,List.not_mem_nil,or_false]at hT hC
  rcases hT with e|e|e|e|e
  ·exact nU ap (by simp) (by simp) Ex jo (e.symm.trans hC)
  ·exact nU ap (by simp) (by simp) HR jo (e.symm.trans hC)
  ·exact nU ap (by simp) (by simp) Cy jo (e.symm.trans hC)
  ·exact nU ap (by simp) (by simp) tL jo (e.symm.trans hC)
  ·exact nU ap (by simp) (by simp) EC jo (e.symm.trans hC)
 have iZ:=DK (P:=l.prog) (w:=w) (mg:=mg) (base:=base) HL bm yG aH
 have gr:=vV (P:=l.prog) (w:=w) (mg:=mg) (base:=base) xX aH
 have kF:=ud (P:=l.prog) (w:=w) (mg:=mg) (base:=base) wU
 have cJ:=vX (P:=l.prog) (w:=w) (mg:=mg) (base:=base) xY
 have zY:=Kl (P:=l.prog) (w:=w) (mg:=mg) (base:=base) Nz aH kF.mono
 have jZ:=DM (P:=l.prog) (w:=w) (mg:=mg) (base:=base) HM iZ.mono gr.mono
 have sf:=DN (P:=l.prog) (w:=w) (mg:=mg) (base:=base) HN cJ.mono zY.mono
 have p9:=BJ (P:=l.prog) (w:=w) (mg:=mg) (base:=base) Ey dU tV DO
 have vY:=Hg (P:=l.prog) (w:=w) (mg:=mg) (base:=base) Lq bm dU r9 kG qU p9.mono
 have qa:=BK (P:=l.prog) (w:=w) (mg:=mg) (base:=base) Ez bm dU r9 kG qU vY.mono
 have jA:=se (P:=l.prog) (w:=w) (mg:=mg) (base:=base) ur bm qU aH qa.mono gr.mono
 have sj:=DP (P:=l.prog) (w:=w) (mg:=mg) (base:=base) HS jA.mono sf.mono
 have Ea:=MX (P:=l.prog) (w:=w) (mg:=mg) (base:=base) QH jC sj.mono cJ.mono
 have cy:=DQ (P:=l.prog) (w:=w) (mg:=mg) (base:=base) HU bm yG ow
 have iI:=Kn (P:=l.prog) (w:=w) (mg:=mg) (base:=base) NC cy.mono
 have fX:=xB (P:=l.prog) (w:=w) (mg:=mg) (base:=base) Av ow
 have su:=DR (P:=l.prog) (w:=w) (mg:=mg) (base:=base) HV
 have mW:=xC (P:=l.prog) (w:=w) (mg:=mg) (base:=base) Aw fX.mono su.mono cy.mono iI.mono
 have ig:=BP (P:=l.prog) (w:=w) (mg:=mg) (base:=base) ED bm gY iI.mono
 have qc:=BQ (P:=l.prog) (w:=w) (mg:=mg) (base:=base) EE cy.mono fX.mono ig.mono
 have mX:=xE (P:=l.prog) (w:=w) (mg:=mg) (base:=base) Ax ig.mono mW.mono qc.mono iI.mono
 have Eb:=MZ (P:=l.prog) (w:=w) (mg:=mg) (base:=base) QI mX.mono jZ.mono
 have qd:=Nb (P:=l.prog) (w:=w) (mg:=mg) (base:=base) QJ
 have we:=Hq (P:=l.prog) (w:=w) (mg:=mg) (base:=base) Lr aH cJ.mono qd.mono
 have oE:=Ab (P:=l.prog) (w:=w) (mg:=mg) (base:=base) CB gY we.mono qd.mono
 have lK:=wm (P:=l.prog) (w:=w) (mg:=mg) (base:=base) xZ aH oE.mono
 have ja:=qY (P:=l.prog) (w:=w) (mg:=mg) (base:=base) tM kG gY cy.mono
 have qh:=Cg (P:=l.prog) (w:=w) (mg:=mg) (base:=base) EF cJ.mono
 have lM:=wo (P:=l.prog) (w:=w) (mg:=mg) (base:=base) x6 lK.mono ja.mono cy.mono qh.mono
 have Ai:=KI (P:=l.prog) (w:=w) (mg:=mg) (base:=base) ND Ea.mono Eb.mono lM.mono jZ.mono iZ.mono
 have qk:=Cm (P:=l.prog) (w:=w) (mg:=mg) (base:=base) EG kG wD
 have bh:=Ag (P:=l.prog) (w:=w) (mg:=mg) (base:=base) CC
 have bW:=pB (P:=l.prog) (w:=w) (mg:=mg) (base:=base) qy
 have kI:=uf (P:=l.prog) (w:=w) (mg:=mg) (base:=base) wV aH
 have iL:=ug (P:=l.prog) (w:=w) (mg:=mg) (base:=base) wW kI.mono
 have iK:=qj (P:=l.prog) (w:=w) (mg:=mg) (base:=base) rf bh.mono
 have jD:=sP (P:=l.prog) (w:=w) (mg:=mg) (base:=base) uv bW.mono
 have kJ:=uh (P:=l.prog) (w:=w) (mg:=mg) (base:=base) wX aH iK.mono jD.mono bW.mono bh.mono
 have jQ:=xP (P:=l.prog) (w:=w) (mg:=mg) (base:=base) Ay aH ow tV bh.mono
 have nh:=xQ (P:=l.prog) (w:=w) (mg:=mg) (base:=base) Az aH
 have jR:=xR (P:=l.prog) (w:=w) (mg:=mg) (base:=base) AA
 have jS:=xS (P:=l.prog) (w:=w) (mg:=mg) (base:=base) AB
 have jE:=sQ (P:=l.prog) (w:=w) (mg:=mg) (base:=base) ux aH wD bW.mono
 exact(Qx (P:=l.prog) (w:=w) (mg:=mg) (base:=base) (tabs:=[bO,bT,bI,aO,aF]) (g9:=[bC]) (bT:=bT) (by simp) (bI:=bI) (by simp) (aO:=aO) (by simp) (bO:=bO) (by simp) (aF:=aF) (by simp) (bC:=bC) (by simp) TQ aH kG KS KU qk.mono bh.mono kJ.mono jQ.mono iL.mono Ai.mono jE.mono nh.mono jR.mono jS.mono).mono (by decide)
theorem walk{l:PySem.W.OpenLaw}{q:Program}{loose:List Str}{XP:(Str->Option Value) ->Heap->Prop}{YP:World->Heap->Prop}{d:DefRec}{K:Params->PySem.W.Frag}(hn:l.most=some 63)(hdf:d.params.defaults=[])
  (hY:∀(w:World)(h:Heap),YP w h->(K w.params).In h)(hcl:∀(w:World),PySem.W.kb_classed (K w.params)=true)
  (F:∀(w:World)(mg mb:Str->Option Value)(mean:ExcName->Option Value)(fa:Addr)(h:Heap),(K w.params).In h->PyProof.Rows.Top q (PySem.W.looseW q loose) mean mg mb h->mg d.name=some (.ref fa) ->
   ∃(fd:FuncData)(tabs g9:List Addr),(∀(s:Shared)(u:Value),BindsTo s fd ⟨[u],[]⟩ [("_law_script",u)])/\(∀T∈tabs++g9,isCodeTable h T/\h.get? T=some {cls:= .none,data:= .fields #[]})/\(∀T∈tabs,T∉g9)/\
    ∀base:Heap,(K w.params).In base->base.Ns mainGlobals mg->BM mg base->pJ l.prog w (K w.params) mg base dz 40 fa fd ["_law_script"] (FW (K w.params) tabs g9)):
  PySem.W.WalkO q loose XP YP l.row.toRowW d [] (λf vs=>PySem.call f vs):=
 L2.Jk (n:=63) (k:=40) (x:= "_law_script") (sp:=FW) hn (by decide) hdf ⟨rfl,by decide,by decide⟩ hY hcl F (λ_ tabs g9 H a ns hl hT hC hS Q hQ=>⟨a,ns,rfl,hS,hl,hT,hC,hQ⟩)
theorem ws:PySem.W.OpenLaw.wellSaid PySem.Challenge.rw_conekin_k28_least_forms_are_small=true:=by kernel_rfl
end CX
namespace PySem.W.Fast
theorem tw3726221343636405389:True:=⟨⟩
theorem tw17528547112735941554:True:=⟨⟩
theorem tw2579682595825674415:True:=⟨⟩
theorem tw1231995160329947204:True:=⟨⟩
theorem tw14160173300012315208:True:=⟨⟩
theorem tw13357140785277291736:True:=⟨⟩
theorem tw11699839075246178163:True:=⟨⟩
theorem tw13930749785917440091:True:=⟨⟩
theorem tw11133656005230688631:True:=⟨⟩
theorem tw5749612962359531002:True:=⟨⟩
theorem tw1352898590671174166:True:=⟨⟩
theorem tw887471299271175776:True:=⟨⟩
theorem tw12429830491546562025:True:=⟨⟩
theorem tw16796288822837786257:True:=⟨⟩
theorem tw3146326661946868686:True:=⟨⟩
theorem tw12815689440769468527:True:=⟨⟩
theorem tw5774213279309523075:True:=⟨⟩
theorem tw1344131483968101358:True:=⟨⟩
theorem tw4396978412637371267:True:=⟨⟩
theorem tw11940374169612094476:True:=⟨⟩
theorem tw10386799615248527271:True:=⟨⟩
theorem tw5385975170737090546:True:=⟨⟩
theorem tw681695565654878496:True:=⟨⟩
theorem tw3050562130218307018:True:=⟨⟩
theorem tw9850682678827847174:True:=⟨⟩
theorem tw16460500241049926880:True:=⟨⟩
theorem tw4193116909399277782:True:=⟨⟩
theorem tw381885566775233336:True:=⟨⟩
theorem tw13644428186859527108:True:=⟨⟩
theorem tw18097720808332252995:True:=⟨⟩
theorem tw12476643606391911499:True:=⟨⟩
theorem tw10503550002702488205:True:=⟨⟩
theorem tw16152849344429130608:True:=⟨⟩
theorem tw5652839834043249483:True:=⟨⟩
theorem tw16085306637176110325:True:=⟨⟩
theorem tw5514222721039635081:True:=⟨⟩
theorem tw734737839815105460:True:=⟨⟩
theorem tw4607270326340071991:True:=⟨⟩
theorem tw18424457234346677749:True:=⟨⟩
theorem tw14519051811280011664:True:=⟨⟩
theorem tw3169029559712751560:True:=⟨⟩
theorem tw7946034767015701101:True:=⟨⟩
theorem tw5900615450899398549:True:=⟨⟩
theorem tw7864477833230138390:True:=⟨⟩
theorem tw14176471166964447331:True:=⟨⟩
theorem tw14518801965555970206:True:=⟨⟩
theorem tw11619748248899256850:True:=⟨⟩
theorem tw2596492943709639519:True:=⟨⟩
theorem tw10282479349048151434:True:=⟨⟩
theorem tw86637796616027280:True:=⟨⟩
theorem tw1179103361742291475:True:=⟨⟩
theorem tw14770066277999916136:True:=⟨⟩
theorem tw17560211679928257897:True:=⟨⟩
theorem tw7603264530813883654:True:=⟨⟩
theorem tw2145034344937252778:True:=⟨⟩
theorem tw418041243878441244:True:=⟨⟩
theorem tw18142366698940051844:True:=⟨⟩
theorem tw16044438714224050720:True:=⟨⟩
theorem tw15948374102036289576:True:=⟨⟩
theorem tw15457258418059089992:True:=⟨⟩
theorem tw9043893105292258772:True:=⟨⟩
theorem tw2997355449299631113:True:=⟨⟩
theorem tw1320489792335683665:True:=⟨⟩
theorem tw1594755138088202607:True:=⟨⟩
theorem tw14544427834908516553:True:=⟨⟩
theorem tw7704735231961325521:True:=⟨⟩
theorem tw9610610591978388821:True:=⟨⟩
theorem tw14888034641905122642:True:=⟨⟩
theorem tw15860961415492460879:True:=⟨⟩
theorem tw12531129877040087708:True:=⟨⟩
theorem tw2134714573687384654:True:=⟨⟩
theorem tw10448686224374639468:True:=⟨⟩
theorem tw15434803912339061283:True:=⟨⟩
theorem tw17160950271525041983:True:=⟨⟩
theorem tw17648647783763714084:True:=⟨⟩
theorem tw18010448904902873145:True:=⟨⟩
theorem tw9015308950405718481:True:=⟨⟩
theorem tw14251293877367375206:True:=⟨⟩
theorem tw5558272473323435063:True:=⟨⟩
theorem tw3689942313150572987:True:=⟨⟩
theorem tw17652041885675067101:True:=⟨⟩
theorem tw307776779844683112:True:=⟨⟩
theorem tw5607698376826469349:True:=⟨⟩
theorem tw7026649354459434450:True:=⟨⟩
theorem tw17966111672142542531:True:=⟨⟩
theorem tw2964307985923251734:True:=⟨⟩
theorem tw10336155369983812760:True:=⟨⟩
theorem tw18278073300930601534:True:=⟨⟩
theorem tw17260949820955776139:True:=⟨⟩
theorem tw16914123979051579098:True:=⟨⟩
theorem tw10523320540051958307:True:=⟨⟩
theorem tw2397992236345665252:True:=⟨⟩
theorem tw4714207048552816076:True:=⟨⟩
theorem tw9844001609491465935:True:=⟨⟩
theorem tw5469483981994793857:True:=⟨⟩
theorem tw16047091885151774111:True:=⟨⟩
theorem tw13134603293619829780:True:=⟨⟩
theorem tw12593598333245497552:True:=⟨⟩
theorem tw8900724519559112359:True:=⟨⟩
theorem tw10629602885851653992:True:=⟨⟩
theorem tw9015840323863329851:True:=⟨⟩
theorem tw4400892904753805585:True:=⟨⟩
theorem tw15812904113863172509:True:=⟨⟩
theorem tw13547107814938667307:True:=⟨⟩
theorem tw17766057830543932372:True:=⟨⟩
theorem tw41222040162362716:True:=⟨⟩
theorem tw4007473830869570261:True:=⟨⟩
theorem tw13138354371052622584:True:=⟨⟩
theorem tw4300245815860830268:True:=⟨⟩
theorem tw6968022058322080330:True:=⟨⟩
theorem tw2021622988224155729:True:=⟨⟩
theorem tw6378378597766910486:True:=⟨⟩
theorem tw12953013415865104640:True:=⟨⟩
theorem tw18385332328092355419:True:=⟨⟩
theorem tw12466621036625692374:True:=⟨⟩
theorem tw1554380222637723269:True:=⟨⟩
theorem tw5179388352150126500:True:=⟨⟩
theorem tw12131727771702593782:True:=⟨⟩
theorem tw2790171111934911272:True:=⟨⟩
theorem tw697249783074334876:True:=⟨⟩
theorem tw3999351844866777756:True:=⟨⟩
theorem tw15984073763287709091:True:=⟨⟩
theorem tw5133882917186238497:True:=⟨⟩
theorem tw11325651984004865321:True:=⟨⟩
theorem tw4821222827594614090:True:=⟨⟩
theorem tw8852132792272432914:True:=⟨⟩
theorem tw7006322479805275256:True:=⟨⟩
theorem tw12063774393513930374:True:=⟨⟩
theorem tw4203980994541003827:True:=⟨⟩
theorem tw2224440410361888155:True:=⟨⟩
theorem tw16142546676096494382:True:=⟨⟩
theorem tw8345399533396608713:True:=⟨⟩
theorem tw5025226504780353103:True:=⟨⟩
theorem tw17935809110768460117:True:=⟨⟩
theorem tw11949415249400174616:True:=⟨⟩
theorem tw3222181520541551817:True:=⟨⟩
theorem tw3195525046310362639:True:=⟨⟩
theorem tw16913420484980433256:True:=⟨⟩
theorem tw1249171560185993063:True:=⟨⟩
theorem tw8531590927771149736:True:=⟨⟩
theorem tw14568843493419514624:True:=⟨⟩
theorem tw39450234962160904:True:=⟨⟩
theorem tw17236031375599634421:True:=⟨⟩
theorem tw15423375796003077308:True:=⟨⟩
theorem tw13029496652133924626:True:=⟨⟩
theorem tw10467653879248692146:True:=⟨⟩
theorem tw9592951123354912993:True:=⟨⟩
theorem tw18087274065797858608:True:=⟨⟩
theorem tw14883542352004638009:True:=⟨⟩
theorem tw13336304349655411935:True:=⟨⟩
theorem tw18210649588861881045:True:=⟨⟩
theorem tw15497749321361413784:True:=⟨⟩
theorem tw10234022294513452471:True:=⟨⟩
theorem tw3771633166646328804:True:=⟨⟩
theorem tw13521922425086916536:True:=⟨⟩
theorem tw18141710767943572464:True:=⟨⟩
theorem tw770758293638646457:True:=⟨⟩
theorem tw2687913443973386530:True:=⟨⟩
theorem tw9050644721039852173:True:=⟨⟩
theorem tw7129216358135754239:True:=⟨⟩
theorem tw5463168465903543554:True:=⟨⟩
theorem tw15232476694871124263:True:=⟨⟩
theorem tw10218686895651071937:True:=⟨⟩
theorem tw11541940692326722207:True:=⟨⟩
theorem tw11524971408241305844:True:=⟨⟩
theorem tw8742593396418307510:True:=⟨⟩
theorem tw4727116066677924849:True:=⟨⟩
theorem tw16028447685562369894:True:=⟨⟩
theorem tw12855102872772785106:True:=⟨⟩
theorem tw1080284311568940337:True:=⟨⟩
theorem tw513527475875006518:True:=⟨⟩
theorem tw2650595500679620574:True:=⟨⟩
theorem tw1990866767358355298:True:=⟨⟩
theorem tw7757670744488697935:True:=⟨⟩
theorem tw997498868514428000:True:=⟨⟩
theorem tw5618055059617068785:True:=⟨⟩
theorem tw13311829881070503432:True:=⟨⟩
theorem tw5774792018749728364:True:=⟨⟩
theorem tw10070449509597441929:True:=⟨⟩
theorem tw18437821621591560392:True:=⟨⟩
theorem tw15151587815185790095:True:=⟨⟩
theorem tw6064257780019667911:True:=⟨⟩
theorem tw3438908904289090038:True:=⟨⟩
theorem tw16492378402959436392:True:=⟨⟩
theorem tw834528899720946648:True:=⟨⟩
theorem tw11521609614336056763:True:=⟨⟩
theorem tw12160786223335512098:True:=⟨⟩
theorem tw1446714065322890679:True:=⟨⟩
theorem tw2486221002156183567:True:=⟨⟩
theorem tw3976876366121608153:True:=⟨⟩
theorem tw3439433024492841834:True:=⟨⟩
theorem tw412669143846906686:True:=⟨⟩
theorem tw14826408275227178049:True:=⟨⟩
theorem tw6150988631734307280:True:=⟨⟩
theorem tw14261728176457605306:True:=⟨⟩
theorem tw454407185482149650:True:=⟨⟩
theorem tw14343838934679321869:True:=⟨⟩
theorem tw2614142674752112463:True:=⟨⟩
theorem tw16109813163422001195:True:=⟨⟩
theorem tw10385258384291494453:True:=⟨⟩
theorem tw10062844049284695818:True:=⟨⟩
theorem tw3017344084170407062:True:=⟨⟩
theorem tw9250496225256633835:True:=⟨⟩
theorem tw4409575529909939822:True:=⟨⟩
theorem tw11440836170520489722:True:=⟨⟩
theorem tw6357189004731510635:True:=⟨⟩
theorem tw8924452122178658542:True:=⟨⟩
theorem tw18091561293574394925:True:=⟨⟩
theorem tw13513099868602720242:True:=⟨⟩
theorem tw12740167936543540875:True:=⟨⟩
theorem tw9371014680734976481:True:=⟨⟩
theorem tw3778917493838427465:True:=⟨⟩
theorem tw3348078616067393001:True:=⟨⟩
theorem tw18159894869877958815:True:=⟨⟩
theorem tw16982837207636111311:True:=⟨⟩
theorem tw15413901650506622113:True:=⟨⟩
theorem tw12426942340693488907:True:=⟨⟩
theorem tw5251658173011847833:True:=⟨⟩
theorem tw6987329032535993630:True:=⟨⟩
theorem tw7366268556045569268:True:=⟨⟩
theorem tw16642297904830087516:True:=⟨⟩
theorem tw16301610371515410856:True:=⟨⟩
theorem tw12737624899537686524:True:=⟨⟩
theorem tw8366687619425769430:True:=⟨⟩
theorem tw13012374974515466703:True:=⟨⟩
theorem tw10466558606939746453:True:=⟨⟩
theorem tw11392994545047819088:True:=⟨⟩
theorem tw8198609943732059776:True:=⟨⟩
theorem tw5313989112993201809:True:=⟨⟩
theorem tw13575014613650167641:True:=⟨⟩
theorem tw4917465331204751776:True:=⟨⟩
theorem tw13535633052670097239:True:=⟨⟩
theorem tw9938949155422528610:True:=⟨⟩
theorem tw9735303685762897158:True:=⟨⟩
theorem tw9595970694820270616:True:=⟨⟩
theorem tw9427929831642216305:True:=⟨⟩
theorem tw9298520713833220100:True:=⟨⟩
theorem tw8966876848911382507:True:=⟨⟩
theorem tw8867439187026614145:True:=⟨⟩
theorem tw8763117499184602009:True:=⟨⟩
theorem tw8416162224727311607:True:=⟨⟩
theorem tw8330444735866901069:True:=⟨⟩
theorem tw7838914297894158536:True:=⟨⟩
theorem tw7730585828002344139:True:=⟨⟩
theorem tw7477011148658347740:True:=⟨⟩
theorem tw7205633496150368280:True:=⟨⟩
theorem tw7040024670136170196:True:=⟨⟩
theorem tw6938266020221097578:True:=⟨⟩
theorem tw6863790577329349060:True:=⟨⟩
theorem tw6182876789358208958:True:=⟨⟩
theorem tw6121781229079115044:True:=⟨⟩
theorem tw6113968649053303786:True:=⟨⟩
theorem tw5758740838570310899:True:=⟨⟩
theorem tw561965648202493338:True:=⟨⟩
theorem tw5515624488227225191:True:=⟨⟩
theorem tw5270191285551632265:True:=⟨⟩
theorem tw5179894628929676456:True:=⟨⟩
theorem tw5165621232387331434:True:=⟨⟩
theorem tw5142120640890189715:True:=⟨⟩
theorem tw5037408716663556373:True:=⟨⟩
theorem tw464220063758268511:True:=⟨⟩
theorem tw4475049161188481940:True:=⟨⟩
theorem tw4086693560873304859:True:=⟨⟩
theorem tw404277873166526480:True:=⟨⟩
theorem tw3945035636622954311:True:=⟨⟩
theorem tw3889456190327909434:True:=⟨⟩
theorem tw3687382824793486342:True:=⟨⟩
theorem tw3435893204232799218:True:=⟨⟩
theorem tw3289085883049453760:True:=⟨⟩
theorem tw318727554278438491:True:=⟨⟩
theorem tw3145146272965962479:True:=⟨⟩
theorem tw2663464328832333377:True:=⟨⟩
theorem tw2646949964678687949:True:=⟨⟩
theorem tw2606713160073776527:True:=⟨⟩
theorem tw2232865349275413244:True:=⟨⟩
theorem tw2120337317988945420:True:=⟨⟩
theorem tw18036497763381164946:True:=⟨⟩
theorem tw17942376218497381616:True:=⟨⟩
theorem tw17214348048950068121:True:=⟨⟩
theorem tw17005594792925914180:True:=⟨⟩
theorem tw16961840424536042113:True:=⟨⟩
theorem tw16944276147797555585:True:=⟨⟩
theorem tw16486256606051065557:True:=⟨⟩
theorem tw16461457809877846400:True:=⟨⟩
theorem tw16252869022458395698:True:=⟨⟩
theorem tw16131663115174274101:True:=⟨⟩
theorem tw15615655600647456780:True:=⟨⟩
theorem tw15362396043275601346:True:=⟨⟩
theorem tw15205963319950174107:True:=⟨⟩
theorem tw15111031862226942222:True:=⟨⟩
theorem tw14956157114736971453:True:=⟨⟩
theorem tw14892577150783499296:True:=⟨⟩
theorem tw14763545220622665573:True:=⟨⟩
theorem tw14743556223537423674:True:=⟨⟩
theorem tw142464248029372779:True:=⟨⟩
theorem tw1419844601985921596:True:=⟨⟩
theorem tw14156024613980990166:True:=⟨⟩
theorem tw14123293477190053130:True:=⟨⟩
theorem tw13892691685035016020:True:=⟨⟩
theorem tw13663007619162331076:True:=⟨⟩
theorem tw13654060196499446671:True:=⟨⟩
theorem tw13533047969192536854:True:=⟨⟩
theorem tw13390523849404743893:True:=⟨⟩
theorem tw1306067398110684984:True:=⟨⟩
theorem tw1305682185334706804:True:=⟨⟩
theorem tw12360164767108970336:True:=⟨⟩
theorem tw10858713196914383849:True:=⟨⟩
theorem tw10692115859780248651:True:=⟨⟩
theorem tw10675767492055858447:True:=⟨⟩
theorem tw10674568159832315946:True:=⟨⟩
theorem tw10660518764304127546:True:=⟨⟩
theorem tw10614609430308691685:True:=⟨⟩
theorem tw10450933973470862704:True:=⟨⟩
theorem tw1036792688068212979:True:=⟨⟩
theorem tw10236849176194536416:True:=⟨⟩
theorem tw10165110013655092259:True:=⟨⟩
end PySem.W.Fast
end
open PySem PySem.W PyProof.Rows
set_option maxRecDepth 100000 in
set_option maxHeartbeats 0 in
theorem PySem.Challenge.cw_conekin_k28_least_forms_are_small_holds : PySem.Challenge.rw_conekin_k28_least_forms_are_small.Holds := by
 w_on;refine PySem.W.holds_law CX.ws λsaid=> ?_;k_head;(case hw=>w_witness2)
 k_fill
 refine CX.walk (l:=PySem.Challenge.rw_conekin_k28_least_forms_are_small) rfl rfl (λw h Y=>by first|exact PySem.W.kIn_of Y|exact PySem.W.km_in_of Y) ?cl ?F
 case cl=>
  intro w
  first|kernel_rfl|(trace_state;k_is)
 case F=>
  intro w mg mb mean fa h KX Tp hmg
  refine' CX.all_mk KX Tp hmg ?sW ?lN ?kK ?lO ?Ar ?sX ?sY ?qm ?wM ?qo ?jF ?sZ ?Em ?tD ?As ?ni ?tE ?nj ?qp ?qt ?nv ?En ?Eo ?wN ?oG ?lP ?jb ?qu ?lQ ?Au ?qv ?oH ?iu ?kL ?kM ?iM ?jG ?kN ?nA ?nC ?nE ?nF ?jH ?FY ?Le ?Lf ?Lg ?tF ?wQ ?qw ?jI ?tG ?qx ?Li ?oU ?nG ?Lj ?y_bool ?Et ?Lk ?Ll ?jJ ?Lm ?wR ?Ln ?Lo ?Lp ?ap
  (case sW=>exact L2.fnAt)
  (case lN=>exact L2.fnAt)
  (case kK=>exact L2.fnAt)
  (case lO=>exact L2.fnAt)
  (case Ar=>exact L2.fnAt)
  (case sX=>exact L2.fnAt)
  (case sY=>exact L2.fnAt)
  (case qm=>exact L2.fnAt)
  (case wM=>exact L2.fnAt)
  (case qo=>exact L2.fnAt)
  (case jF=>exact L2.fnAt)
  (case sZ=>exact L2.fnAt)
  (case Em=>exact L2.fnAt)
  (case tD=>exact L2.fnAt)
  (case As=>exact L2.fnAt)
  (case ni=>exact L2.fnAt)
  (case tE=>exact L2.fnAt)
  (case nj=>exact L2.fnAt)
  (case qp=>exact L2.fnAt)
  (case qt=>exact L2.fnAt)
  (case nv=>exact L2.fnAt)
  (case En=>exact L2.fnAt)
  (case Eo=>exact L2.fnAt)
  (case wN=>exact L2.fnAt)
  (case oG=>exact L2.fnAt)
  (case lP=>exact L2.fnAt)
  (case jb=>exact L2.fnAt)
  (case qu=>exact L2.fnAt)
  (case lQ=>exact L2.fnAt)
  (case Au=>exact L2.fnAt)
  (case qv=>exact L2.fnAt)
  (case oH=>exact L2.fnAt)
  (case iu=>exact L2.fnAt)
  (case kL=>exact L2.fnAt)
  (case kM=>exact L2.fnAt)
  (case iM=>exact L2.fnAt)
  (case jG=>exact L2.fnAt)
  (case kN=>exact L2.fnAt)
  (case nA=>exact L2.fnAt)
  (case nC=>exact L2.fnAt)
  (case nE=>exact L2.fnAt)
  (case nF=>exact L2.fnAt)
  (case jH=>exact L2.fnAt)
  (case FY=>k_is);(case Le=>k_is);(case Lf=>k_is);(case Lg=>k_is)
  (case tF=>rfl)
  (case wQ=>rfl)
  (case qw=>rfl)
  (case jI=>rfl)
  (case tG=>rfl)
  (case qx=>rfl)
  (case Li=>k_is)
  (case oU=>k_is)
  (case nG=>k_is)
  (case Lj=>k_is)
  (case y_bool=>k_is)
  (case Et=>k_is)
  (case Lk=>k_is)
  (case Ll=>k_is)
  (case jJ=>k_is)
  (case Lm=>k_is)
  (case wR=>k_is)
  (case Ln=>k_is)
  (case Lo=>k_is)
  (case Lp=>k_is)
  (case ap=>kernel_rfl)
