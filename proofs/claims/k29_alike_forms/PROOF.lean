import PyProof.Rows.All
import Wide.All
import Wide.FinOn
import PyProof.EqAt
import PyProof.EqKinds
import PyProof.TupleCall
import KE.KIsAll
import KE.KTryMore
import KE.KEqDeep
import KE.KEqSeq
import KE.KRegrown
import KE.KSortKey
import KE.KItem
import KE.KNestM
import OpenK.KOwn
import OpenK.KRaise
import OpenK.KWalk
import OpenK.KFacts
import OpenK.KMake
import OpenK.KExp
import OpenK.KDescr
import KE.KLam
import KE.KSortTup
import PyProof.Rows.SortRuns
import PyProof.Rows.RuleM_int
import PyProof.FactsAll.int_0
import PySem.Challenge.RW_conekin_k29_alike_forms
set_option Elab.async false
set_option linter.all false
set_option maxRecDepth 100000
set_option genSizeOf false
set_option maxHeartbeats 4000000
local macro_rules | `(tactic| omega) => `(tactic| first | lia | omega +splitNatAbs)
open Array renaming toList_push→aax, length_toList→aaK, toList_append→aa0, getElem?_setIfInBounds_ne→aa6, perm_iff_toList_perm→abu, getElem?_setIfInBounds_self_of_lt→abB, getElem?_toList→acI, eq_empty_of_size_eq_zero→acJ, ext_getElem?→ac1, getElem?_eq_getElem→ada, size_setIfInBounds→ade, getElem?_eq_none→ads, toArray_toList→adJ, getElem?_push→adS, append_assoc→adY
open Bool renaming false_ne_true→aaw, false_eq_true→aaz, and_eq_true→aa5, eq_iff_iff→acq, or_eq_true→acs, false_and→ac7, true_and→adl, and_false→adN, not_true→ad1
open Int renaming mul_nonneg→Rg, mul_le_mul_of_nonneg_left→aal, mul_le_mul_of_nonneg_right→aan, le_of_lt→aas, le_trans→aaB, mul_le_mul→aaN, le_of_mul_le_mul_left→aaW, le_refl→aaZ, mul_comm→abb, le_total→abc, emod_nonneg→abq, emod_lt_of_pos→abr, lt_or_le→abH, le_ediv_iff_mul_le→abN, mul_assoc→abQ, mul_pos→abT, one_mul→abU, le_of_lt_add_one→abV, neg_mul_neg→ab9, emod_add_mul_ediv→acd, mul_neg_of_pos_of_neg→ach, lt_of_not_ge→acj, natAbs_mul_self→acm, mul_nonpos_of_nonneg_of_nonpos→acp, mul_eq_zero→acw, ediv_lt_iff_lt_mul→acA, natAbs_mul→acD, mul_le_mul_of_nonpos_right→acK, sub_mul→acV, fdiv_eq_ediv_of_nonneg→acW, mul_lt_mul_of_pos_left→acX, lt_or_gt_of_ne→ac6, mul_ediv_cancel_left→adf, lt_trichotomy→adh, mul_zero→adE, ediv_nonneg→adG, mul_one→adO, add_mul→adU, pow_pos→adW, neg_mul→adX, add_zero→ad8
open List renaming mem_append_right→aam, mem_singleton→aap, getElem?_eq_getElem→aaq, mem_cons→aar, getElem?_eq_some_iff→aat, length_map→aau, mem_cons_of_mem→aay, mem_of_getElem?→aaA, length_append→aaC, mem_cons_self→aaD, mem_append→aaE, size_toArray→aaG, mem_of_mem_take→aaH, not_mem_nil→aaJ, getElem?_take_of_lt→aaM, getElem?_append_right→aaO, take_of_length_le→aaP, mem_reverse→aaQ, getElem?_append_left→aaR, mem_of_mem_drop→aaS, mem_map→aaU, take_append_drop→aaV, length_take→aaX, mem_append_left→aa1, pairwise_append→aa2, length_cons→aa7, append_nil→aba, take_sublist→abd, nodup_cons→abg, replicate→abh, drop_eq_getElem_cons→abi, pairwise_iff_getElem→abj, drop_drop→abk, mem_or_eq_of_mem_set→abl, nodup_append→abn, append_assoc→abo, map_cons→abp, all_eq_true→abt, range→abx, getElem?_map→aby, take_add_one→abz, lookup_cons→abD, take_length→abE, mem_iff_getElem→abG, take_take→abI, pairwise_map→abK, mem_flatMap→abO, length_replicate→abP, flatMap_cons→abW, filterMap_cons→ab0, nodup_nil→ab3, drop_eq_nil_of_le→ab6, pairwise_cons→ab7, getD_eq_getElem?_getD→ace, length_drop→aci, reverse_append→ack, getElem?_replicate→acr, range_succ→acv, mem_range→acB, forIn_nil→acC, perm_cons→acE, perm_append_comm→acH, flatMap_nil→acO, of_mem_zip→acQ, length_nil→acR, nil_append→acU, zip_cons_cons→ac0, drop_zero→ac8, mem_take_iff_getElem→ac9, reverse_perm→adg, set_comm→adk, pairwise_singleton→adm, getElem_mem→ado, getElem?_set_self→adq, length_pos_of_mem→ady, forIn_cons→adB, contains_iff_mem→adC, pairwise_reverse→adF, getElem?_set_ne→adI, drop_take→adM, length→adP, lookup→adR, map_id→adT, perm_singleton→adV, drop→ad0, map_take→ad2, map_nil→ad5
open Nat renaming lt_of_lt_of_le→aao, le_refl→aav, pow_le_pow_right→aaF, ne_of_lt→aaI, lt_of_le_of_lt→aaL, zero_le→aa3, lt_irrefl→aa4, le_trans→aa8, zero_add→abe, min_eq_left→abC, lt_succ_of_lt→abJ, ne_of_gt→abX, le_of_eq→abZ, lt_succ_self→ab2, le_succ→ab8, mul_le_mul→acg, lt_or_ge→acF, lt_trans→acG, le_add_right→acN, not_lt_zero→acS, log2_lt→acT, add_mul_mod_self_right→acY, le_of_lt→acZ, add_comm→ac4, succ_mul→ac5, reduceEqDiff→adn, max_eq_right→adp, lt_of_succ_lt_succ→adv, le_mul_of_pos_left→adx, add_mul_div_right→adH, mul_le_mul_right→adK, reduceMod→adZ, sub_self→ad6, add_zero→ad7
open Option renaming isSome_iff_exists→acn, map_some→acu, map_eq_some_iff→adz, none→adQ
open PyProof.Rows renaming boot_isinstance→aaT, boot_list→abw, callWith_type1→abL, recsOf→abM, callWith_builtin1→abY, boot_sorted→aco, boot_int→acL, boot_abs→acM, boot_bool→adw
open PySem renaming mem_of_lookup→ab1, boot_len→ab4, preSum→ac3
open PySem.F renaming plain_sum_loop→abv, plain_all_loop→ab5, plainAttrs_list→acy, slot_list_append→adi, type_list_append→adj, entry_sum_loop→adt, entry_all_loop→adu
open PySem.W renaming mg_none_of→aaY, nsIn→aa9, kia_one→abf, fnOf→abm, codeIn→abA, keepIn→abR, kitOne→acf, cellsFrom_some→acz, mg_of→acP, kb_classed→ac2, methodObj→adb, instObj→adA, ke_canLayAll0→adD, lookIn→adL, kitx_list→ad3, kitx_dict→ad4, plainGet→ad9
noncomputable section
namespace L2
open PySem PySem.Spec PyProof.Rows
noncomputable abbrev Key:=Sum Int Str
noncomputable def Oo:Key->Value->Bool
 | .inl k,v=>Value.isInt k v
 | .inr x,v=>Value.isStrOf x v
noncomputable def Vi(w:World):Key->Int
 | .inl k=>hashInt k
 | .inr x=>hashStr w x
theorem fH:∀{k:Key}{v:Value},Oo k v=true->(∃i t,k=Sum.inl i/\v=Value.int i t)∨(∃x t,k=Sum.inr x/\v=Value.str x t)
 | .inl i,v,h=>by
  obtain⟨t,e⟩:=Value.isInt_shape (k:=i) (v:=v) h;exact .inl ⟨i,t,rfl,e⟩
 | .inr x,v,h=>by
  obtain⟨t,e⟩:=Value.isStrOf_shape (x:=x) (v:=v) h;exact .inr ⟨x,t,rfl,e⟩
theorem OT(a b:Int):decide ((Sum.inl a:Key)=Sum.inl b)=(a==b):=by
 by_cases e:a=b
 ·subst e;simp
 ·have h:¬(Sum.inl a:Key)=Sum.inl b:=λq=>e (Sum.inl.inj q)
  rw[decide_eq_false h];exact(beq_eq_false_iff_ne.mpr e).symm
theorem OU(a b:Str):decide ((Sum.inr a:Key)=Sum.inr b)=decide (a=b):=by
 by_cases e:a=b
 ·subst e;simp
 ·have h:¬(Sum.inr a:Key)=Sum.inr b:=λq=>e (Sum.inr.inj q)
  rw[decide_eq_false h,decide_eq_false e]
theorem OV(a:Int)(b:Str):decide ((Sum.inl a:Key)=Sum.inr b)=false:=decide_eq_false (λq=>nomatch q)
theorem OW(a:Str)(b:Int):decide ((Sum.inr a:Key)=Sum.inl b)=false:=decide_eq_false (λq=>nomatch q)
noncomputable def EZ(prog:Program)(w:World):PySem.KeyKind prog w Key where
 is:=Oo
 hash:=Vi w
 inj:=λv a b ha hb=>by
  rcases fH ha with⟨i,t,rfl,rfl⟩|⟨x,t,rfl,rfl⟩
  ·rcases fH hb with⟨j,u,rfl,e⟩|⟨y,u,rfl,e⟩
   ·injection e with e1 _;rw[e1]
   ·exact nomatch e
  ·rcases fH hb with⟨j,u,rfl,e⟩|⟨y,u,rfl,e⟩
   ·exact nomatch e
   ·injection e with e1 _;rw[e1]
 byValue:=λk v h=>by
  rcases fH h with⟨i,t,rfl,rfl⟩|⟨x,t,rfl,rfl⟩<;>rfl
 pyHash:=λhv h=>by
  rcases fH hv with⟨i,t,rfl,rfl⟩|⟨x,t,rfl,rfl⟩
  ·exact wpAny_pyHash_int h
  ·exact wpAny_pyHash_str h
 eqBool:=λhu hv h=>by
  rcases fH hu with⟨i,t,rfl,rfl⟩|⟨x,t,rfl,rfl⟩
  ·rcases fH hv with⟨j,u,rfl,rfl⟩|⟨y,u,rfl,rfl⟩
   ·rw[OT]at h;exact wpAny_eqBool_int h
   ·rw[OV]at h;exact SeqAt.EqAt.int_str i t y u _ _ _ _ h
  ·rcases fH hv with⟨j,u,rfl,rfl⟩|⟨y,u,rfl,rfl⟩
   ·rw[OW]at h;exact SeqAt.EqAt.str_int x t j u _ _ _ _ h
   ·rw[OU]at h;exact wpAny_eqBool_str h
 «strs» :=λk x t v h=>by
  rcases fH h with⟨i,u,rfl,e⟩|⟨y,u,rfl,e⟩
  ·exact nomatch e
  ·injection e with e1 _
   subst e1;cases v<;>rfl
inductive V where
 |gF|bl (b:Bool)|int (i:Int)|str (x:Str)|IQ (b:Array UInt8)|QZ (b:UInt64)|ref (a:Addr)|ty (n:String)
 deriving DecidableEq
noncomputable def RelV:V->Value->Prop
 | .gF,u=>u=Value.none
 | .bl b,u=>u=Value.bool b
 | .int i,u=> ∃t,u=Value.int i t
 | .str x,u=> ∃t,u=Value.str x t
 | .IQ b,u=> ∃t,u=Value.bytes b t
 | .QZ b,u=> ∃t,u=Value.float b t
 | .ref a,u=>u=Value.ref a
 | .ty n,u=>u=Value.type n
noncomputable abbrev Vals:List V->List Value->Prop:=Paired RelV
theorem Vals.length{xs:List V}{us:List Value}(r:Vals xs us):xs.length=us.length:=Paired.length r
theorem Vals.get:∀{xs:List V}{us:List Value}{i:Nat}{x:V},Vals xs us->xs[i]?=some x-> ∃u,us[i]?=some u/\RelV x u
 |_,_,_,_,.nil,e=>by simp at e
 |_,_,0,_,.cons r _,e=>by simp at e;subst e;exact⟨_,rfl,r⟩
 |_,_,i+1,x,.cons _ t,e=>by
  obtain⟨u,h1,h2⟩:=Vals.get (i:=i) (x:=x) t (by simpa using e);exact⟨u,by simpa using h1,h2⟩
theorem Vals.set{x:V}{u:Value}(r:RelV x u):∀{xs:List V}{us:List Value}(i:Nat),Vals xs us->Vals (xs.set i x) (us.set i u)
 |_,_,_,.nil=> .nil
 |_,_,0,.cons _ t=> .cons r t
 |_,_,i+1,.cons q t=> .cons q (Vals.set r i t)
theorem Vals.append:∀{xs ys:List V}{us ws:List Value},Vals xs us->Vals ys ws->Vals (xs++ys) (us++ws)
 |_,_,_,_,.nil,s=>s
 |_,_,_,_,.cons r t,s=> .cons r (Vals.append t s)
theorem Vals.take:∀{xs:List V}{us:List Value}(n:Nat),Vals xs us->Vals (xs.take n) (us.take n)
 |_,_,0,_=> .nil
 |_,_,_+1,.nil=> .nil
 |_,_,n+1,.cons r t=> .cons r (Vals.take n t)
theorem Vals.drop:∀{xs:List V}{us:List Value}(n:Nat),Vals xs us->Vals (xs.drop n) (us.drop n)
 |_,_,0,r=>r
 |_,_,_+1,.nil=> .nil
 |_,_,n+1,.cons _ t=>Vals.drop n t
noncomputable def OX:Option V->Option Value->Prop
 |some v,some u=>RelV v u
 |none,none=>True
 |_,_=>False
noncomputable def KV{κ:Type}:List (κ×V) ->List (κ×Value) ->Prop:=Paired λ(p:κ×V)(q:κ×Value)=>p.1=q.1/\RelV p.2 q.2
noncomputable def kV:Key->V
 | .inl i=> .int i
 | .inr x=> .str x
inductive HO where
 |lst(xs:List V)
 |tup(xs:List V)
 |dK(kvs:List (Key×V))|dT (kvs:List (List Key×V))
 |set(S:Int->Bool)(n:Nat)
 |ins(C dx:Addr)(fs:List (Str×V))
 |own(x:Addr)
 |xd(fs:List (Str×V))
 |met(f x:Addr)
 |Vj(lo hi:Int)
 |zA(o:Obj)(u:HO)
 |OY(ps:Array Value)
 |ext(φ:Heap->Prop)
 |AM
noncomputable abbrev Hp:=Addr->Option HO
noncomputable def upd(H:Hp)(a:Addr)(o:HO):Hp:=λb=>if b=a then some o else H b
theorem ao{H:Hp}{a:Addr}{o:HO}:upd H a o a=some o:=by unfold upd;rw[if_pos rfl]
theorem aH{H:Hp}{a b:Addr}{o:HO}(h:b≠a):upd H a o b=H b:=by unfold upd;rw[if_neg h]
theorem fN{H:Hp}{a b:Addr}{o:HO}(h:H a=some o)(h':H b=none):a≠b:=by
 intro e;subst e;rw[h]at h';cases h'
section
variable(P:Program)(w:World)
noncomputable def f6(H:Hp)(h:Heap)(a:Addr):HO->Prop
 | .lst xs=>xs.length<=sizeLine/\ ∃(its:List Value)(n:Nat),Vals xs its/\h.get? a=some {cls:= .type "list",data:= .seq its.toArray n}
 | .tup xs=>xs.length<=sizeLine/\ ∃its:List Value,Vals xs its/\IsTup h a its.toArray
 | .dK kvs=>kvs.length<=sizeLine/\(a==sysModules)=false/\ ∃vs,KV kvs vs/\h.DictOf (EZ P w) a vs
 | .dT kvs=>kvs.length<=sizeLine/\(a==sysModules)=false/\ ∃xs:List (List Key×Addr×Value),
   Paired (λ(p:List Key×V)(q:List Key×Addr×Value)=>p.1=q.1/\H q.2.1=some (.tup (p.1.map kV))/\RelV p.2 q.2.2) kvs xs/\
   ∃o es ep,h.get? a=some o/\o.ExactDict/\o.data= .dict es ep/\es.toList=xs.map (entryOfKey (tupleKind (EZ P w)))/\(xs.map (·.1)).Nodup
 | .set S n=>h.SetOf (intKind P w) a S n
 | .ins C dx fs=>H dx=some (.own a)/\fs.length<=1000/\dx≠a/\h.get? a=some (adA C dx)/\
   ∃mA,h.Ns1 dx mA/\(∀f,OX (fs.lookup f) (mA f))/\PySem.Within mA (fs.map (·.1))
 | .own _=> ∃o,h.get? a=some o
 | .xd fs=> ∃mA,h.Ns1 a mA/\ ∀f,OX (fs.lookup f) (mA f)
 | .Vj lo hi=> ∃t u v,h.get? a=some {cls:= .type "range",data:= .fields #[.int lo t,.int hi u,.int 1 v]}
 | .zA o u=>h.get? a=some o/\f6 H h a u
 | .OY ps=>h.get? a=some {cls:= .none,data:= .fields ps}
 | .met f x=>h.get? a=some (adb (.ref f) (.ref x))
 | .ext φ=>φ h/\(∃o,h.get? a=some o)/\ ∀h1 h2:Heap,φ h1->(∀o,h1.get? a=some o->h2.get? a=some o) ->φ h2
 | .AM=> ∃ps:Array Value,h.get? a=some {cls:= .none,data:= .fields ps}/\TriplesOk ps.toList/\ ∀(pos:Pos)(cv:Value),codeAmong pos ps.toList=some cv->
   ∃(c:Addr)(oc:Obj)(vs:Array Value)(q:Str)(t:Tok),cv= .ref c/\H c=some (.zA oc (.ext λ_=>True))/\oc.data= .fields vs/\vs[1]?=some (.str q t)
noncomputable def vF(H:Hp)(h:Heap):Prop:=∀a o,H a=some o->f6 P w H h a o
end
section
variable{P:Program}{w:World}{H H':Hp}{h h':Heap}{a:Addr}{o:HO}
theorem f6.lt(x:f6 P w H h a o):a<h.objs.size:=by
 cases o with
 |lst xs=>obtain⟨_,_,_,_,e⟩:=x;exact Heap.lt_size e
 |tup xs=>obtain⟨_,_,_,p⟩:=x;exact p.lt
 |dK kvs=>obtain⟨_,_,_,_,o,_,_,e,_⟩:=x;exact Heap.lt_size e
 |dT kvs=>obtain⟨_,_,_,_,o,_,_,e,_⟩:=x;exact Heap.lt_size e
 |set S n=>obtain⟨o,_,_,_,e,_⟩:=x;exact Heap.lt_size e
 |ins C dx fs=>obtain⟨_,_,_,e,_⟩:=x;exact Heap.lt_size e
 |own y=>obtain⟨_,e⟩:=x;exact Heap.lt_size e
 |xd fs=>obtain⟨_,⟨_,_,_,e,_⟩,_⟩:=x;exact Heap.lt_size e
 |Vj lo hi=>obtain⟨_,_,_,e⟩:=x;exact Heap.lt_size e
 |zA ob u=>obtain⟨e,_⟩:=x;exact Heap.lt_size e
 |OY ps=>exact Heap.lt_size (show h.get? a=some _ from x)
 |met f y=>exact Heap.lt_size (show h.get? a=some _ from x)
 |ext φ=>obtain⟨_,⟨_,e⟩,_⟩:=x;exact Heap.lt_size e
 |AM=>obtain⟨_,e,_⟩:=x;exact Heap.lt_size e
theorem Paired.Rw{α β:Type}{F G:α->β->Prop}:∀{l₁:List α}{l₂:List β},Paired F l₁ l₂->(∀a b,F a b->G a b) ->Paired G l₁ l₂
 |_,_,.nil,_=> .nil
 |_,_,.cons r t,f=> .cons (f _ _ r) (Paired.Rw t f)
theorem f6.stay(x:f6 P w H h a o)(k:∀b u,(b=a∨H b=some (.own a)) ->h.get? b=some u->h'.get? b=some u)
  (ho:∀b,H b=some (.own a) ->H' b=some (.own a))(ht:∀b xs,H b=some (.tup xs) ->H' b=some (.tup xs))(hz:∀b ob u,H b=some (.zA ob u) ->H' b=some (.zA ob u):=by first|exact λ_ _ _ q=>q|assumption):f6 P w H' h' a o:=by
 induction o with
 |lst xs=>obtain⟨z,its,n,r,e⟩:=x;exact⟨z,its,n,r,k _ _ (.inl rfl) e⟩
 |tup xs=>obtain⟨z,its,r,ob,e,c⟩:=x;exact⟨z,its,r,ob,k _ _ (.inl rfl) e,c⟩
 |dK kvs=>obtain⟨z,y,vs,r,ob,es,ep,e,c⟩:=x;exact⟨z,y,vs,r,ob,es,ep,k _ _ (.inl rfl) e,c⟩
 |dT kvs=>
  obtain⟨z,y,xs,r,ob,es,ep,e,c⟩:=x;exact⟨z,y,xs,Paired.Rw r λp q z=>⟨z.1,ht _ _ z.2.1,z.2.2⟩,ob,es,ep,k _ _ (.inl rfl) e,c⟩
 |set S n=>obtain⟨ob,es,ep,t,e,c⟩:=x;exact⟨ob,es,ep,t,k _ _ (.inl rfl) e,c⟩
 |ins C dx fs=>
  obtain⟨d,z,ne,e,mA,⟨od,es,ep,e2,c⟩,r⟩:=x;exact⟨ho _ d,z,ne,k _ _ (.inl rfl) e,mA,⟨od,es,ep,k _ _ (.inr d) e2,c⟩,r⟩
 |own y=>obtain⟨ob,e⟩:=x;exact⟨ob,k _ _ (.inl rfl) e⟩
 |xd fs=>obtain⟨mA,⟨od,es,ep,e,c⟩,r⟩:=x;exact⟨mA,⟨od,es,ep,k _ _ (.inl rfl) e,c⟩,r⟩
 |Vj lo hi=>obtain⟨t,u,v,e⟩:=x;exact⟨t,u,v,k _ _ (.inl rfl) e⟩
 |zA ob u ih=>obtain⟨e,q⟩:=x;exact⟨k _ _ (.inl rfl) e,ih q⟩
 |OY ps=>
  have e:h.get? a=some {cls:= .none,data:= .fields ps}:=x;show h'.get? a=some {cls:= .none,data:= .fields ps};exact k a _ (.inl rfl) e
 |met f y=>
  have e:h.get? a=some (adb (.ref f) (.ref y)):=x;show h'.get? a=some (adb (.ref f) (.ref y));exact k a _ (.inl rfl) e
 |ext φ=>obtain⟨p,⟨o,e⟩,st⟩:=x;exact⟨st _ _ p λo q=>k _ _ (.inl rfl) q,⟨o,k _ _ (.inl rfl) e⟩,st⟩
 |AM=>obtain⟨ps,e,t,r⟩:=x;exact⟨ps,k _ _ (.inl rfl) e,t,λpos cv q=>let⟨c,oc,vs,q2,t2,e1,e2,e3⟩:=r pos cv q;⟨c,oc,vs,q2,t2,e1,hz _ _ _ e2,e3⟩⟩
theorem vF.lt(x:vF P w H h)(e:H a=some o):a<h.objs.size:=(x a o e).lt
theorem vF.fresh(x:vF P w H h)(e:h.objs.size<=a):H a=none:=by
 cases q:H a with
 |none=>rfl
 |some u=>exact absurd (aao (x.lt q) e) (aa4 _)
theorem vF.kept(x:vF P w H h)(k:∀b u,h.get? b=some u->h'.get? b=some u):vF P w H h':=λa o e=>
 (x a o e).stay (λb u _ q=>k b u q) (λ_ q=>q) λ_ _ q=>q
theorem vF.laid(x:vF P w H h)(k:∀b u,h.get? b=some u->h'.get? b=some u)(hp:h.objs.size<=a)(new:f6 P w (upd H a o) h' a o):vF P w (upd H a o) h':=λb u e=>by
 have hn:=x.fresh hp
 by_cases hb:b=a
 ·subst hb;rw[ao]at e;cases e;exact new
 ·rw[aH hb]at e
  exact(x b u e).stay (λc v _ q=>k c v q) (λc q=>by rw[aH (fN q hn)];exact q) (λc xs q=>by rw[aH (fN q hn)];exact q) λc ob xs q=>by rw[aH (fN q hn)];exact q
end
noncomputable def Rd(H:Hp)(a:Addr)(u:HO):Prop:=H a=some u∨ ∃o,H a=some (.zA o u)
theorem Rd.of{H:Hp}{a:Addr}{u:HO}(h:H a=some u):Rd H a u:= .inl h
theorem Rd.ok{P:Program}{w:World}{H:Hp}{h:Heap}{a:Addr}{u:HO}(r:Rd H a u)(x:vF P w H h):f6 P w H h a u:=by
 rcases r with r|⟨o,r⟩
 ·exact x a u r
 ·obtain⟨_,q⟩:=x a _ r
  exact q
noncomputable def Ur:Option HO->Prop
 |some (.lst _)=>True
 |some (.dK _)=>True
 |some (.dT _)=>True
 |some (.set _ _)=>True
 |some (.ins _ _ _)=>True
 |some (.ext _)=>True
 |some .AM=>True
 |_=>False
section
variable{P:Program}{w:World}{H:Hp}{h h':Heap}{x e:Addr}{o':HO}
theorem vF.write(ok:vF P w H h)(mu:Ur (H x))(he:e=x∨H e=some (.own x))(k:∀b u,b≠e->h.get? b=some u->h'.get? b=some u)(Ra:∃u,h'.get? e=some u)
  (new:f6 P w (upd H x o') h' x o'):vF P w (upd H x o') h':=λb u q=>by
 have Rx:∀c y,H c=some (.own y) ->c≠x:=λc y r z=>by subst z;rw[r]at mu;exact mu
 have Vk:∀c xs,H c=some (.tup xs) ->c≠x:=λc xs r z=>by subst z;rw[r]at mu;exact mu
 by_cases hb:b=x
 ·subst hb;rw[ao]at q;cases q;exact new
 ·rw[aH hb]at q
  by_cases OZ:b=e
  ·have q':H b=some (.own x):=by
    rcases he with z|z
    ·exact absurd (OZ.trans z) hb
    ·rw[OZ];exact z
   rw[q]at q';cases q';obtain⟨v,hv⟩:=Ra;exact⟨v,by rw[OZ];exact hv⟩
  ·refine(ok b u q).stay (λc v hc r=>k c v ?_ r) (λc r=>by rw[aH (Rx c b r)];exact r) (λc xs r=>by rw[aH (Vk c xs r)];exact r) λc ob xs r=>by rw[aH (λz=>by subst z;rw[r]at mu;exact mu)];exact r
   rcases hc with rfl|hc
   ·exact OZ
   ·rintro rfl
    rcases he with z|z
    ·exact Rx c b hc z
    ·rw[hc]at z;cases z;exact hb rfl
end
structure Un(fs ex:List Addr)(H H':Hp)(h h':Heap):Prop where
 keep:∀b o,h.get? b=some o->H b=none->b∉fs->b∉ex->h'.get? b=some o
 slot:∀b o,h.get? b=some o->H b=none->b∈fs->b∉ex-> ∃sl,h'.get? b=some {o with slots:=sl}
 free:∀b o,h.get? b=some o->H b=none->b∉ex->H' b=none
 there:∀b o,h.get? b=some o->b∉ex-> ∃o',h'.get? b=some o'
 tups:∀b xs,H b=some (.tup xs) ->H' b=some (.tup xs)
 rZ:∀b o u,H b=some (.zA o u) ->H' b=some (.zA o u)
 uZ:∀b ps,H b=some (.OY ps) -> ∃more,H' b=some (.OY (ps++more))
section
variable{fs fs' ex ex':List Addr}{H H1 H2:Hp}{h h1 h2 h':Heap}{a x e:Addr}{o:HO}
theorem Un.any(u:Un fs ex H H1 h h1){b:Addr}{ob:Obj}(q:h.get? b=some ob)(n:H b=none)(hx:b∉ex):∃sl,h1.get? b=some {ob with slots:=sl}:=by
 by_cases hb:b∈fs
 ·exact u.slot b ob q n hb hx
 ·exact⟨ob.slots,u.keep b ob q n hb hx⟩
theorem Un.trans(a:Un fs ex H H1 h h1)(b:Un fs ex H1 H2 h1 h2):Un fs ex H H2 h h2 where
 keep:=λc ob q n hc hx=>b.keep c ob (a.keep c ob q n hc hx) (a.free c ob q n hx) hc hx
 slot:=λc ob q n hc hx=>by
  obtain⟨sl,e1⟩:=a.slot c ob q n hc hx;obtain⟨Vl,e2⟩:=b.slot c _ e1 (a.free c ob q n hx) hc hx;exact⟨Vl,e2⟩
 free:=λc ob q n hx=>by
  obtain⟨o',e1⟩:=a.there c ob q hx;exact b.free c o' e1 (a.free c ob q n hx) hx
 there:=λc ob q hx=>by
  obtain⟨o',e1⟩:=a.there c ob q hx;exact b.there c o' e1 hx
 tups:=λc xs q=>b.tups c xs (a.tups c xs q)
 rZ:=λc ob xs q=>b.rZ c ob xs (a.rZ c ob xs q)
 uZ:=λc ps q=>by
  obtain⟨m1,e1⟩:=a.uZ c ps q;obtain⟨m2,e2⟩:=b.uZ c _ e1;exact⟨m1++m2,by rw[e2,adY]⟩
theorem Un.kept(k:∀b u,h.get? b=some u->h'.get? b=some u):Un fs ex H H h h':=
 ⟨λb ob q _ _ _=>k b ob q,λb ob q _ _ _=>⟨ob.slots,k b ob q⟩,λ_ _ _ n _=>n,λb ob q _=>⟨ob,k b ob q⟩,λ_ _ q=>q,λ_ _ _ q=>q,λ_ ps q=>⟨#[],by rw[q];simp⟩⟩
theorem Un.refl:Un fs ex H H h h:=Un.kept λ_ _ q=>q
theorem Un.laid(k:∀b u,h.get? b=some u->h'.get? b=some u)(hp:h.objs.size<=a)(hn:H a=none):Un fs ex H (upd H a o) h h' where
 keep:=λb u q _ _ _=>k b u q
 slot:=λb u q _ _ _=>⟨u.slots,k b u q⟩
 free:=λb u q n _=>by rw[aH (aaI (aao (Heap.lt_size q) hp))];exact n
 there:=λb u q _=>⟨u,k b u q⟩
 tups:=λb xs q=>by rw[aH (fN q hn)];exact q
 rZ:=λb u xs q=>by rw[aH (fN q hn)];exact q
 uZ:=λb ps q=>⟨#[],by rw[aH (fN q hn),q];simp⟩
theorem Un.write(mu:Ur (H x))(he:e=x∨H e=some (.own x))(k:∀b u,b≠e->h.get? b=some u->h'.get? b=some u)(Ra:∃u,h'.get? e=some u):Un fs ex H (upd H x o) h h':=by
 have hx:∀b,H b=none->b≠x:=λb n z=>by subst z;rw[n]at mu;exact mu
 have hb:∀b,H b=none->b≠e:=λb n z=>by
  subst z;rcases he with r|r
  ·exact hx b n r
  ·rw[n]at r;cases r
 have hm:∀b u,H b=some u-> ¬Ur (some u) ->b≠x:=λb u q nm z=>by subst z;rw[q]at mu;exact nm mu
 refine⟨λb u q n _ _=>k b u (hb b n) q,λb u q n _ _=>⟨u.slots,k b u (hb b n) q⟩,λb u q n _=>by rw[aH (hx b n)];exact n,λb u q _=> ?_,
  λb xs q=>by rw[aH (hm b _ q λz=>z)];exact q,λb u xs q=>by rw[aH (hm b _ q λz=>z)];exact q,λb ps q=>⟨#[],by rw[aH (hm b _ q λz=>z),q];simp⟩⟩
 by_cases OZ:b=e
 ·subst OZ;exact Ra
 ·exact⟨u,k b u OZ q⟩
theorem Un.mono(u:Un fs ex H H1 h h1)(hs:∀b∈fs,b∈fs')(hx:∀b∈ex,b∈ex'):Un fs' ex' H H1 h h1:=
 ⟨λb ob q n hb he=>u.keep b ob q n (λz=>hb (hs b z)) λz=>he (hx b z),λ_ _ q n _ he=>u.any q n λz=>he (hx _ z),λb ob q n he=>u.free b ob q n λz=>he (hx b z),λb ob q he=>u.there b ob q λz=>he (hx b z),u.tups,u.rZ,u.uZ⟩
end
noncomputable def Us(h:Heap)(H:Hp):List Addr:=(abx h.objs.size).filter λa=>(H a).isSome
noncomputable def xV(h:Heap)(H:Hp):Heap:=PySem.W.hideAll h (Us h H)
theorem GF(h:Heap)(H:Hp):(xV h H).objs.size=h.objs.size:=PySem.W.hideAll_size _ _
theorem IS{h:Heap}{H:Hp}{b:Addr}{o:Obj}(e:h.get? b=some o)(n:H b=none):(xV h H).get? b=some o:=
 PySem.W.hideAll_get _ e λhm=>by
  have q:(H b).isSome=true:=(List.mem_filter.mp hm).2;rw[n]at q;simp at q
theorem Mn{h:Heap}{H:Hp}{b:Addr}{o:Obj}(e:(xV h H).get? b=some o):h.get? b=some o/\H b=none:=by
 have e':h.get? b=some o:=PySem.W.of_hideAll (Us h H) e;refine⟨e',?_⟩
 cases q:H b with
 |none=>rfl
 |some x=>
  have hm:b∈Us h H:=List.mem_filter.mpr ⟨acB.mpr (Heap.lt_size e'),by simp[q]⟩;have z:(xV h H).get? b=none:=PySem.W.hideAll_none (Us h H) hm;rw[z]at e;cases e
noncomputable def Mp(g h:Heap)(L:Addr):List (Addr×Obj):=(abx h.objs.size).filterMap λa=>if a=L∨(g.get? a).isSome=true then none else(h.get? a).map λo=>(a,o)
noncomputable def rest(g h:Heap)(L d:Addr):List (Addr×Obj):=(Mp g h L).filter λp=>decide (p.1≠d)
structure Mod(K:PySem.W.Frag)(mg:Str->Option Value)(base:Heap):Prop where
 GG:K.In base
 glob:base.Ns mainGlobals mg
 blt:∃mb,base.Ns builtinsNs mb/\ ∀x:Str,x≠ "__name__" ->mb x=bootBuiltins x
 nolimit:base.NoLimit
structure Cx where
 prog:Program
 w:World
 K:PySem.W.Frag
 mg:Str->Option Value
 base:Heap
 A:Around
 N:List Str
 s₀:Shared
 H₀:Hp
 env:Env
 outer:List Env
 stack:List Env
 ex:List Addr
 fn:Str->Bool
 calm:Bool
 pn:List (Addr×Obj)
 xe:Value->Shared->Prop
noncomputable def frs(l:List Env):List Addr:=l.filterMap (·.frame)
noncomputable abbrev Cx.fs(X:Cx):List Addr:=frs X.outer
noncomputable def Oq(sc:Scope)(x:Str):Prop:=sc.names.lookup x=some .local∨sc.names.lookup x=some .cell∨sc.names.lookup x=some .free
noncomputable def Loc(sc:Scope)(x:Str):Prop:=sc.names.lookup x=some .local∨sc.names.lookup x=some .cell
noncomputable def Look(env:Env)(h:Heap)(m:Str->Option Value)(x:Str)(u:Value):Prop:=
 (env.kindOf x=some .local/\m x=some u)∨((env.kindOf x=some .cell∨env.kindOf x=some .free)/\ ∃c,env.cells.lookup x=some c/\h.IsCell c (some u))
structure Cx.Ok(X:Cx):Prop where
 mod:Mod X.K X.mg X.base
 kind:X.env.scope.kind= .function
 glob:X.env.globals=mainGlobals
 blt:X.env.builtins=builtinsNs
 above:X.s₀.heap.objs.size<=X.env.locals
 inj:∀x y c,X.env.cells.lookup x=some c->X.env.cells.lookup y=some c->x=y
 has:∀x,(X.env.kindOf x=some .cell∨X.env.kindOf x=some .free) -> ∃c,X.env.cells.lookup x=some c
 Ry:∀x c,X.fn x=true->X.env.cells.lookup x=some c->X.s₀.heap.objs.size<=c
 hd:X.calm=true->X.A.handled=none
 frames:X.A.frames=some X.stack
 stk:X.stack=X.outer∨(X.stack=X.env::X.outer/\X.env.frame=some X.env.locals)
 Mb:∀b∈X.ex,b≠X.env.locals/\ ∀x c,X.env.cells.lookup x=some c->c≠b
 bs:∀b o,X.base.get? b=some o->X.s₀.heap.get? b=some o/\X.H₀ b=none
 Mq:X.base.objs.size<=X.s₀.heap.objs.size
 GH:∀b o,X.base.get? b=some o->b∉X.ex
 AS:∀b∈X.ex,b∉X.fs
 vc:X.s₀.heap.FunFrames X.base X.outer
 Rb:∀b∈X.fs,X.H₀ b=none
structure IT(a b:Array GenState):Prop where
 bare:AllBare b
 size:a.size<=b.size
 old:∀k,k<a.size->b[k]?=a[k]?
theorem IT.refl{a:Array GenState}(h:AllBare a):IT a a:=⟨h,aav _,λ_ _=>rfl⟩
theorem IT.trans{a b c:Array GenState}(x:IT a b)(y:IT b c):IT a c:=⟨y.bare,aa8 x.size y.size,λk h=>(y.old k (aao h x.size)).trans (x.old k h)⟩
structure Inv(X:Cx)(pins:List (Addr×Obj))(σ:List (Option V))(H:Hp)(s:Shared):Prop where
 ok:X.Ok
 os:s.os=X.s₀.os
 bare:IT X.s₀.gens s.gens
 base:Un X.fs X.ex X.H₀ H X.s₀.heap s.heap
 loc:∃m,s.heap.Ns X.env.locals m/\ ∀(i:Nat)(x:Str)(v:V),X.N[i]?=some x->σ[i]?=some (some v) ->Oq X.env.scope x-> ∃u,RelV v u/\Look X.env s.heap m x u
 cell:∀x c,X.env.cells.lookup x=some c-> ∃v,s.heap.IsCell c v
 free:H X.env.locals=none
 nY:∀x c,X.env.cells.lookup x=some c->H c=none
 pin:∀p∈X.pn++pins,s.heap.get? p.1=some p.2/\H p.1=none/\p.1≠X.env.locals/\p.1∉X.fs/\ ∀v,p.2.data≠ .cell v
 hok:vF X.prog X.w H s.heap
 len:σ.length=X.N.length
section
variable{X:Cx}{pins:List (Addr×Obj)}{σ:List (Option V)}{H H':Hp}{s:Shared}{h':Heap}
theorem Cx.Ok.Vm(ok:X.Ok){b:Addr}{o:Obj}(e:X.base.get? b=some o):b∉X.fs:=λhb=>by
 have:=(ok.vc.mem hb).1;rw[e]at this;cases this
theorem Inv.bs(I:Inv X pins σ H s):∀b o,X.base.get? b=some o->s.heap.get? b=some o/\H b=none:=λb o e=>
 ⟨I.base.keep b o (I.ok.bs b o e).1 (I.ok.bs b o e).2 (I.ok.Vm e) (I.ok.GH b o e),I.base.free b o (I.ok.bs b o e).1 (I.ok.bs b o e).2 (I.ok.GH b o e)⟩
theorem Inv.bk(I:Inv X pins σ H s):∀b o,X.base.get? b=some o->s.heap.get? b=some o:=λb o e=>(I.bs b o e).1
theorem Inv.mod(I:Inv X pins σ H s):Mod X.K X.mg X.base:=I.ok.mod
theorem Inv.zB(I:Inv X pins σ H s):X.K.In s.heap:=I.ok.mod.GG.keeps I.bk
theorem Inv.nolimit(I:Inv X pins σ H s):s.heap.NoLimit:=I.ok.mod.nolimit.keeps I.bk
theorem Inv.lt(I:Inv X pins σ H s):X.env.locals<s.heap.objs.size:=let⟨_,hn,_⟩:=I.loc;hn.lt
theorem Inv.sz(I:Inv X pins σ H s):X.s₀.heap.objs.size<=s.heap.objs.size:=aa8 I.ok.above (acZ I.lt)
theorem Inv.Rz(I:Inv X pins σ H s){a:Addr}(h:s.heap.objs.size<=a):a∉X.fs:=λhb=>by
 obtain⟨_,o,ho,_⟩:=I.ok.vc.mem hb;exact absurd (aao (Heap.lt_size ho) (aa8 I.sz h)) (aa4 _)
theorem Inv.Pa(I:Inv X pins σ H s):∀x c,X.env.cells.lookup x=some c->c≠X.env.locals:=λx c e z=>by
 obtain⟨v,o,ho,hd⟩:=I.cell x c e;obtain⟨m,⟨o',es,ep,ho',hd',_⟩,_⟩:=I.loc;rw[z,ho']at ho;cases ho;rw[hd']at hd;cases hd
theorem Inv.vc(I:Inv X pins σ H s):s.heap.FunFrames X.base X.outer:=by
 have all:∀(l:List Env),(∀b∈frs l,b∈X.fs) ->X.s₀.heap.FunFrames X.base l->s.heap.FunFrames X.base l:=by
  intro l
  induction l with
  |nil=>intro _ _;trivial
  |cons env r ih=>
   intro hs hl;obtain⟨hk,⟨L,o,hf,hn,ho,hd⟩,hr⟩:=hl;have hL:L∈X.fs:=hs L (by unfold frs;rw[ab0,hf];exact aaD);obtain⟨sl,e⟩:=I.base.slot L o ho (I.ok.Rb L hL) hL λz=>I.ok.AS L z hL;exact⟨hk,⟨L,_,hf,hn,e,hd⟩,ih (λb hb=>hs b (by unfold frs;rw[ab0,hf];exact aay _ hb)) hr⟩
 exact all X.outer (λ_ hb=>hb) I.ok.vc
theorem Inv.stack(I:Inv X pins σ H s):s.heap.FunFrames X.base X.stack:=by
 rcases I.ok.stk with e|⟨e,hf⟩
 ·rw[e];exact I.vc
 ·rw[e]
  obtain⟨m,hn,_⟩:=I.loc;refine .cons (by rw[I.ok.kind];decide) hf hn ?_ I.vc;exact Heap.get?_none_of_le (aa8 I.ok.Mq I.ok.above)
theorem Inv.vR(I:Inv X pins σ H s):∀b∈frs X.stack,b∈X.env.locals::X.fs:=λb hb=>by
 rcases I.ok.stk with e|⟨e,hf⟩
 ·rw[e]at hb;exact aay _ hb
 ·rw[e]at hb
  unfold frs at hb;rw[ab0,hf]at hb;exact hb
theorem Inv.vG(I:Inv X pins σ H s):∀b∈frs X.stack,H b=none:=λb hb=>by
 rcases aar.mp (I.vR b hb)with e|hb
 ·rw[e];exact I.free
 ·obtain⟨_,o,ho,_⟩:=I.ok.vc.mem hb
  exact I.base.free b o ho (I.ok.Rb b hb) λz=>I.ok.AS b z hb
theorem Inv.step{g':Array GenState}{t':Nat}{d':Drawn}{ch:List Addr}(I:Inv X pins σ H s)
  (hch:∀b∈ch,(b∈X.ex∨X.s₀.heap.objs.size<=b)/\b≠X.env.locals/\(∀x c,X.env.cells.lookup x=some c->c≠b)/\ ∀p∈X.pn++pins,p.1≠b)
  (keep:∀b o,b≠X.env.locals->b∉X.fs->b∉ch->s.heap.get? b=some o->H b=none->h'.get? b=some o)
  (slot:∀b o,b≠X.env.locals->b∈X.fs->b∉ch->s.heap.get? b=some o->H b=none-> ∃sl,h'.get? b=some {o with slots:=sl})(free:∀b o,b∉ch->s.heap.get? b=some o->H b=none->H' b=none)
  (there:∀b o,b∉ch->s.heap.get? b=some o-> ∃o',h'.get? b=some o')
  (tups:∀b xs,H b=some (.tup xs) ->H' b=some (.tup xs))(rZ:∀b o u,H b=some (.zA o u) ->H' b=some (.zA o u))(uZ:∀b ps,H b=some (.OY ps) -> ∃more,H' b=some (.OY (ps++more)))
  (ns:∀m,s.heap.Ns X.env.locals m->h'.Ns X.env.locals m)(hok:vF X.prog X.w H' h')(hg:IT s.gens g'):
  Inv X pins σ H' {s with heap:=h',gens:=g',drawn:=d',toks:=t'}:=by
 have Xd:∀b o,X.s₀.heap.get? b=some o->b≠X.env.locals:=λb o e=>aaI (aao (Heap.lt_size e) I.ok.above);have Ut:∀b o,X.s₀.heap.get? b=some o->b∉X.ex->b∉ch:=λb o e hx hb=>by
  rcases(hch b hb).1 with z|z
  ·exact hx z
  ·exact absurd (aao (Heap.lt_size e) z) (aa4 _)
 have cellK:∀x c,X.env.cells.lookup x=some c-> ∀v,s.heap.IsCell c v->h'.IsCell c v:=λx c e v ⟨o,ho,hd⟩=>by
  have RA:c∉ch:=λz=>(hch c z).2.2.1 x c e rfl
  by_cases hc:c∈X.fs
  ·obtain⟨sl,q⟩:=slot c o (I.Pa x c e) hc RA ho (I.nY x c e)
   exact⟨_,q,hd⟩
  ·exact⟨o,keep c o (I.Pa x c e) hc RA ho (I.nY x c e),hd⟩
 refine⟨I.ok,I.os,I.bare.trans hg,⟨λb o e n hb hx=> ?_,λb o e n hb hx=> ?_,λb o e n hx=> ?_,λb o e hx=> ?_,λb xs e=>tups b xs (I.base.tups b xs e),λb o xs e=>rZ b o xs (I.base.rZ b o xs e),λb ps e=> ?_⟩,?_,λx c e=> ?_,?_,λx c e=> ?_,λp hp=> ?_,hok,I.len⟩
 ·exact keep b o (Xd b o e) hb (Ut b o e hx) (I.base.keep b o e n hb hx) (I.base.free b o e n hx)
 ·obtain⟨sl,e1⟩:=I.base.slot b o e n hb hx
  obtain⟨Vl,e2⟩:=slot b _ (Xd b o e) hb (Ut b o e hx) e1 (I.base.free b o e n hx);exact⟨Vl,e2⟩
 ·obtain⟨o',e1⟩:=I.base.there b o e hx
  exact free b o' (Ut b o e hx) e1 (I.base.free b o e n hx)
 ·obtain⟨o',e1⟩:=I.base.there b o e hx
  exact there b o' (Ut b o e hx) e1
 ·obtain⟨m1,e1⟩:=I.base.uZ b ps e
  obtain⟨m2,e2⟩:=uZ b _ e1;exact⟨m1++m2,by rw[e2,adY]⟩
 ·obtain⟨m,hn,hl⟩:=I.loc
  refine⟨m,ns m hn,λi x v e1 e2 e3=> ?_⟩;obtain⟨u,r,l⟩:=hl i x v e1 e2 e3;refine⟨u,r,?_⟩;rcases l with l|⟨k,c,e,z⟩
  ·exact .inl l
  ·exact .inr ⟨k,c,e,cellK x c e _ z⟩
 ·obtain⟨v,z⟩:=I.cell x c e
  exact⟨v,cellK x c e v z⟩
 ·obtain⟨m,⟨o,_,_,ho,_⟩,_⟩:=I.loc
  exact free _ o (λz=>(hch _ z).2.1 rfl) ho I.free
 ·obtain⟨v,o,ho,hd⟩:=I.cell x c e
  exact free c o (λz=>(hch c z).2.2.1 x c e rfl) ho (I.nY x c e)
 ·obtain⟨e,n,ne,nf,d⟩:=I.pin p hp
  have RA:p.1∉ch:=λz=>(hch p.1 z).2.2.2 p hp rfl;exact⟨keep p.1 p.2 ne nf RA e n,free p.1 p.2 RA e n,ne,nf,d⟩
theorem Inv.un{t':Nat}(I:Inv X pins σ H s)(u:Un X.fs [] H H' s.heap h')(hok:vF X.prog X.w H' h'):Inv X pins σ H' {s with heap:=h',toks:=t'}:=by
 obtain⟨m,⟨o,es,ep,ho,r⟩,_⟩:=id I.loc;obtain⟨sl,hL⟩:=u.any ho I.free (by simp);exact I.step (g':=s.gens) (d':=s.drawn) (ch:=[]) (λ_ z=>nomatch z) (λb o _ hb _ e n=>u.keep b o e n hb (by simp)) (λb o _ hb _ e n=>u.slot b o e n hb (by simp)) (λb o _ e n=>u.free b o e n (by simp)) (λb o _ e=>u.there b o e (by simp)) u.tups u.rZ u.uZ (λm' hm=>by
  obtain⟨o',es',Vn,ho',r'⟩:=hm;rw[ho]at ho';cases ho';exact⟨_,es',Vn,hL,r'⟩) hok (.refl I.bare.bare)
theorem Inv.call{g':Array GenState}{t':Nat}{d':Drawn}{ch:List Addr}(I:Inv X pins σ H s)(u:Un (frs X.stack) ch H H' s.heap h')(hok:vF X.prog X.w H' h')(hg:IT s.gens g')
  (hch:∀b∈ch,(b∈X.ex∨X.s₀.heap.objs.size<=b)/\b≠X.env.locals/\(∀x c,X.env.cells.lookup x=some c->c≠b)/\ ∀p∈X.pn++pins,p.1≠b):
  Inv X pins σ H' {s with heap:=h',gens:=g',drawn:=d',toks:=t'}:=by
 obtain⟨m,⟨o,es,ep,ho,r⟩,_⟩:=id I.loc;obtain⟨sl,hL⟩:=u.any ho I.free λz=>(hch _ z).2.1 rfl;exact I.step (ch:=ch) hch (λb o hL hb hc e n=>u.keep b o e n (λz=>(aar.mp (I.vR b z)).elim hL hb) hc) (λb o _ _ hc e n=>u.any e n hc) (λb o hc e n=>u.free b o e n hc) (λb o hc e=>u.there b o e hc) u.tups u.rZ u.uZ (λm' hm=>by
  obtain⟨o',es',Vn,ho',r'⟩:=hm;rw[ho]at ho';cases ho';exact⟨_,es',Vn,hL,r'⟩) hok hg
theorem Inv.turned{t':Nat}{it:Addr}(I:Inv X pins σ H s)(k:∀b o,b≠it->s.heap.get? b=some o->h'.get? b=some o)(hn:H it=none)(hL:it≠X.env.locals)
  (h1:it∈X.ex∨X.s₀.heap.objs.size<=it)(h2:∀x c,X.env.cells.lookup x=some c->c≠it)(h3:∀p∈X.pn++pins,p.1≠it):Inv X pins σ H {s with heap:=h',toks:=t'}:=by
 have RB:∀b u,H b=some u->b≠it:=λb u e z=>by rw[z,hn]at e;cases e
 refine I.step (g':=s.gens) (d':=s.drawn) (ch:=[it]) (λb hb=> ?_) (λb o _ _ hc e _=>k b o (λz=>hc (by simp[z])) e) (λb o _ _ hc e _=>⟨o.slots,k b o (λz=>hc (by simp[z])) e⟩) (λ_ _ _ _ n=>n)
  (λb o hc e=>⟨o,k b o (λz=>hc (by simp[z])) e⟩) (λ_ _ e=>e) (λ_ _ _ e=>e) (λb ps e=>⟨#[],by rw[e];simp⟩) (λm hm=> ?_) (λb u e=> ?_) (.refl I.bare.bare)
 ·have e:b=it:=by simpa using hb
  subst e;exact⟨h1,hL,h2,h3⟩
 ·obtain⟨o,es,ep,ho,r⟩:=hm
  exact⟨o,es,ep,k _ o (Ne.symm hL) ho,r⟩
 ·refine(I.hok b u e).stay (λc v hc q=>k c v ?_ q) (λ_ q=>q) λ_ _ q=>q
  rcases hc with z|z
  ·rw[z];exact RB b u e
  ·exact RB c _ z
theorem Inv.tok(I:Inv X pins σ H s)(t:Nat):Inv X pins σ H {s with toks:=t}:=I.un (h':=s.heap) (t':=t) Un.refl I.hok
theorem Inv.kept{t':Nat}(I:Inv X pins σ H s)(k:∀b u,s.heap.get? b=some u->h'.get? b=some u):Inv X pins σ H {s with heap:=h',toks:=t'}:=I.un (Un.kept k) (I.hok.kept k)
theorem Inv.laid{a:Addr}{o:HO}{t':Nat}(I:Inv X pins σ H s)(k:∀b u,s.heap.get? b=some u->h'.get? b=some u)(hp:s.heap.objs.size<=a)(new:f6 X.prog X.w (upd H a o) h' a o):
  Inv X pins σ (upd H a o) {s with heap:=h',toks:=t'}:=I.un (Un.laid k hp (I.hok.fresh hp)) (I.hok.laid k hp new)
theorem Inv.write{x e:Addr}{o:HO}{t':Nat}(I:Inv X pins σ H s)(mu:Ur (H x))(he:e=x∨H e=some (.own x))(k:∀b u,b≠e->s.heap.get? b=some u->h'.get? b=some u)(Ra:∃u,h'.get? e=some u)
  (new:f6 X.prog X.w (upd H x o) h' x o):Inv X pins σ (upd H x o) {s with heap:=h',toks:=t'}:=I.un (Un.write mu he k Ra) (I.hok.write mu he k Ra new)
theorem Inv.j3{qU:List (Addr×Obj)}(I:Inv X pins σ H s)(h:∀p∈qU,s.heap.get? p.1=some p.2/\H p.1=none/\p.1≠X.env.locals/\p.1∉X.fs/\ ∀v,p.2.data≠ .cell v):Inv X qU σ H s:=
 ⟨I.ok,I.os,I.bare,I.base,I.loc,I.cell,I.free,I.nY,λp hp=>(aaE.mp hp).elim (λz=>I.pin p (aa1 _ z)) (h p),I.hok,I.len⟩
theorem AU{N:List Str}(hN:N.Nodup){i j:Nat}{x:Str}(a:N[i]?=some x)(b:N[j]?=some x):i=j:=by
 obtain⟨h1,e1⟩:=aat.mp a;obtain⟨h2,e2⟩:=aat.mp b;exact(List.getElem_inj hN).mp (e1.trans e2.symm)
theorem GI{M:Model}{A:Around}{E:Value->Shared->Prop}{i:Nat}{x:Str}{v:V}{u:Value}{Q:Unit->Shared->Prop}(I:Inv X pins σ H s)(hN:X.N.Nodup)(hi:X.N[i]?=some x)(hx:Loc X.env.scope x)(r:RelV v u)
  (h:∀s',Inv X pins (σ.set i (some v)) H s'->(∃a,Heap.SameBut a s.heap s'.heap/\(a=X.env.locals∨X.env.cells.lookup x=some a)) ->Q () s')(hf:X.fn x=true∨X.env.scope.names.lookup x=some .local:=by first|exact .inl rfl|exact .inr rfl|assumption):wpAny M A (storeName X.env x u) Q E s:=by
 obtain⟨m,hn,hl⟩:=id I.loc;have hcls:(X.env.scope.kind== .class||(X.env.scope.kind== .module && X.env.locals !=X.env.globals))=false:=by rw[I.ok.kind];rfl
 have RC:i<σ.length:=by rw[I.len];exact(aat.mp hi).1
 have Pa:=I.Pa;have tracked:∀{a:Addr}{h':Heap},(∃o,s.heap.get? a=some o/\H a=none) ->Heap.SameBut a s.heap h'->vF X.prog X.w H h':=λ {a h'} ha hs b ob e=>by
  obtain⟨_,_,hfree⟩:=ha;refine(I.hok b ob e).stay (λc w' hc q=>(hs.2 c ?_).trans q) (λ_ q=>q) λ_ _ q=>q;rintro rfl;rcases hc with rfl|hc
  ·rw[hfree]at e;cases e
  ·rw[hfree]at hc;cases hc
 rcases hx with hk|hk
 ·refine wpAny_storeName_local hk hn (λh' hn' hs=> ?_) hcls
  obtain⟨oL,_,_,Pb,_⟩:=id hn;refine h _ ⟨I.ok,I.os,I.bare,⟨λb o e n hb hx=> ?_,λb o e n hb hx=> ?_,I.base.free,λb o e hx=> ?_,I.base.tups,I.base.rZ,I.base.uZ⟩,⟨_,hn',λj y v' e1 e2 e3=> ?_⟩,λy c e=> ?_,I.free,I.nY,λp hp=> ?_,tracked ⟨oL,Pb,I.free⟩ hs,by simpa using I.len⟩ ⟨_,hs,.inl rfl⟩
  ·exact(hs.2 b (aaI (aao (Heap.lt_size e) I.ok.above))).trans (I.base.keep b o e n hb hx)
  ·obtain⟨sl,e1⟩:=I.base.slot b o e n hb hx
   exact⟨sl,(hs.2 b (aaI (aao (Heap.lt_size e) I.ok.above))).trans e1⟩
  ·obtain⟨o',e1⟩:=I.base.there b o e hx
   exact⟨o',(hs.2 b (aaI (aao (Heap.lt_size e) I.ok.above))).trans e1⟩
  ·by_cases hj:j=i
   ·subst hj
    rw[hi]at e1;cases e1;rw[adq RC]at e2;cases e2;exact⟨u,r,.inl ⟨hk,by simp⟩⟩
   ·rw[adI (Ne.symm hj)]at e2
    obtain⟨u',r',q⟩:=hl j y v' e1 e2 e3;refine⟨u',r',?_⟩;rcases q with⟨k,e⟩|⟨k,c,e,z⟩
    ·refine .inl ⟨k,?_⟩
     have:y≠x:=λe=>hj (AU hN e1 (e▸hi));simp[this,e]
    ·exact .inr ⟨k,c,e,z.sameBut hs (Pa y c e)⟩
  ·obtain⟨w',z⟩:=I.cell y c e
   exact⟨w',z.sameBut hs (Pa y c e)⟩
  ·obtain⟨e,n,ne,nf,d⟩:=I.pin p hp
   exact⟨(hs.2 p.1 ne).trans e,n,ne,nf,d⟩
 ·have hfn:X.fn x=true:=by
   rcases hf with z|z
   ·exact z
   ·rw[z]at hk;cases hk
  obtain⟨c,hc⟩:=I.ok.has x (.inl hk);obtain⟨w',z⟩:=I.cell x c hc;refine wpAny_storeName_cell I.ok.kind hk hc z (λh' hc' hs=> ?_);obtain⟨oc,hoc,Vo⟩:=id z;refine h {s with heap:=h'} ⟨I.ok,I.os,I.bare,⟨λb o e n hb hx=> ?_,λb o e n hb hx=> ?_,I.base.free,λb o e hx=> ?_,I.base.tups,I.base.rZ,I.base.uZ⟩,⟨m,hn.sameBut hs (Ne.symm (Pa x c hc)),λj y v' e1 e2 e3=> ?_⟩,λy c' e=> ?_,I.free,I.nY,λp hp=> ?_,tracked ⟨oc,hoc,I.nY x c hc⟩ hs,by simpa using I.len⟩ ⟨c,hs,.inr hc⟩
  ·exact(hs.2 b (aaI (aao (Heap.lt_size e) (I.ok.Ry x c hfn hc)))).trans (I.base.keep b o e n hb hx)
  ·obtain⟨sl,e1⟩:=I.base.slot b o e n hb hx
   exact⟨sl,(hs.2 b (aaI (aao (Heap.lt_size e) (I.ok.Ry x c hfn hc)))).trans e1⟩
  ·obtain⟨o',e1⟩:=I.base.there b o e hx
   exact⟨o',(hs.2 b (aaI (aao (Heap.lt_size e) (I.ok.Ry x c hfn hc)))).trans e1⟩
  ·by_cases hj:j=i
   ·subst hj
    rw[hi]at e1;cases e1;rw[adq RC]at e2;cases e2;exact⟨u,r,.inr ⟨.inl hk,c,hc,hc'⟩⟩
   ·rw[adI (Ne.symm hj)]at e2
    obtain⟨u',r',q⟩:=hl j y v' e1 e2 e3;refine⟨u',r',?_⟩;rcases q with q|⟨k,c',e,z'⟩
    ·exact .inl q
    ·refine .inr ⟨k,c',e,z'.sameBut hs ?_⟩
     rintro rfl;exact hj (AU hN e1 (I.ok.inj _ _ _ e hc▸hi))
  ·by_cases hcc:c'=c
   ·subst hcc;exact⟨_,hc'⟩
   ·obtain⟨w2,z2⟩:=I.cell y c' e
    exact⟨w2,z2.sameBut hs hcc⟩
  ·obtain⟨e,n,ne,nf,d⟩:=I.pin p hp
   refine⟨(hs.2 p.1 ?_).trans e,n,ne,nf,d⟩;intro q;rw[q,hoc]at e;have q':oc=p.2:=Option.some.inj e;exact d w' (by rw[<-q'];exact Vo)
theorem kq{M:Model}{A:Around}{E:Value->Shared->Prop}{i:Nat}{x:Str}{v:V}{u:Value}{Q:Unit->Shared->Prop}(I:Inv X pins σ H s)(hN:X.N.Nodup)(hi:X.N[i]?=some x)(hx:Loc X.env.scope x)(r:RelV v u)
  (h:∀s',Inv X pins (σ.set i (some v)) H s'->Q () s')(hf:X.fn x=true∨X.env.scope.names.lookup x=some .local:=by first|exact .inl rfl|exact .inr rfl|assumption):wpAny M A (storeName X.env x u) Q E s:=
 GI I hN hi hx r (λs' I' _=>h s' I') hf
theorem Inv.IU{s':Shared}{ch:List Addr}(I:Inv X pins σ H s)(ho:s'.os=s.os)(u:Un (frs X.stack) ch H H' s.heap s'.heap)(hok:vF X.prog X.w H' s'.heap)(hg:IT s.gens s'.gens)
  (hch:∀b∈ch,(b∈X.ex∨X.s₀.heap.objs.size<=b)/\b≠X.env.locals/\(∀x c,X.env.cells.lookup x=some c->c≠b)/\ ∀p∈X.pn++pins,p.1≠b):Inv X pins σ H' s':=by
 obtain⟨h',g',d',t',o'⟩:=s';have e:o'=s.os:=ho;subst e;exact I.call (g':=g') (t':=t') (d':=d') u hok hg hch
end
noncomputable abbrev XK:=Value->Option Addr->Hp->Prop
noncomputable abbrev St:=List (Option V)
noncomputable abbrev VK:=V->Hp->Prop
noncomputable abbrev TE:=St->Hp->VK->Prop
noncomputable abbrev TT:=St->Hp->(Bool->Hp->Prop) ->Prop
noncomputable abbrev TA:=St->Hp->(List V->Hp->Prop) ->Prop
structure Ends where
 nx:St->Hp->Prop
 rt:VK
 bk:St->Hp->Prop:=λ_ _=>False
 ct:St->Hp->Prop:=λ_ _=>False
noncomputable abbrev TS:=Ends->St->Hp->Prop
noncomputable def EP(X:Cx)(pins:List (Addr×Obj))(σ:St)(Q:VK)(u:Value)(s':Shared):Prop:=∃v H',Inv X pins σ H' s'/\RelV v u/\Q v H'
noncomputable def TP(X:Cx)(pins:List (Addr×Obj))(σ:St)(Q:Bool->Hp->Prop)(b:Bool)(s':Shared):Prop:=∃H',Inv X pins σ H' s'/\Q b H'
noncomputable def AP(X:Cx)(pins:List (Addr×Obj))(σ:St)(Q:List V->Hp->Prop)(us:List Value)(s':Shared):Prop:=∃vs H',Inv X pins σ H' s'/\Vals vs us/\Q vs H'
noncomputable def SP(X:Cx)(pins:List (Addr×Obj))(D:Ends)(f:Flow)(s':Shared):Prop:=
 match f with
 | .next=> ∃σ' H',Inv X pins σ' H' s'/\D.nx σ' H'
 | .brk=> ∃σ' H',Inv X pins σ' H' s'/\D.bk σ' H'
 | .cont=> ∃σ' H',Inv X pins σ' H' s'/\D.ct σ' H'
 | .ret u=> ∃v σ' H',Inv X pins σ' H' s'/\RelV v u/\D.rt v H'
noncomputable def PE(X:Cx)(e:Expr)(t:TE):Prop:=
 ∀(pins:List (Addr×Obj))(s:Shared)(σ:St)(H:Hp)(Q:VK),Inv X pins σ H s->t σ H Q->wpAny (model X.prog X.w) X.A (eval e X.env) (EP X pins σ Q) X.xe s
noncomputable def PT(X:Cx)(e:Expr)(t:TT):Prop:=
 ∀(pins:List (Addr×Obj))(s:Shared)(σ:St)(H:Hp)(Q:Bool->Hp->Prop),Inv X pins σ H s->t σ H Q->wpAny (model X.prog X.w) X.A (isTrue e X.env (eval e X.env)) (TP X pins σ Q) X.xe s
noncomputable def PW(X:Cx)(e:Expr)(t:TT):Prop:=
 ∀(whole:Sem Value)(pins:List (Addr×Obj))(s:Shared)(σ:St)(H:Hp)(Q:Bool->Hp->Prop),Inv X pins σ H s->t σ H Q->wpAny (model X.prog X.w) X.A (isTrue e X.env whole) (TP X pins σ Q) X.xe s
theorem PW.pt{X:Cx}{e:Expr}{t:TT}(h:PW X e t):PT X e t:=h _
noncomputable def PA(X:Cx)(es:List Expr)(t:TA):Prop:=
 ∀(pos:Pos)(pins:List (Addr×Obj))(s:Shared)(σ:St)(H:Hp)(Q:List V->Hp->Prop),Inv X pins σ H s->t σ H Q->wpAny (model X.prog X.w) X.A (spliced (backTo pos (starEach es X.env))) (AP X pins σ Q) X.xe s
noncomputable def PS(X:Cx)(st:Stmt)(t:TS):Prop:=
 ∀(pins:List (Addr×Obj))(s:Shared)(σ:St)(H:Hp)(D:Ends),Inv X pins σ H s->t D σ H->wpAny (model X.prog X.w) X.A (exec st X.env) (SP X pins D) X.xe s
noncomputable def zC(X:Cx)(st:List Stmt)(t:TS):Prop:=
 ∀(pins:List (Addr×Obj))(s:Shared)(σ:St)(H:Hp)(D:Ends),Inv X pins σ H s->t D σ H->wpAny (model X.prog X.w) X.A (execs st X.env) (SP X pins D) X.xe s
theorem gD{α:Type}{t:Sem α}{Q Q':α->Shared->Prop}{M:Model}{A:Around}{E:Value->Shared->Prop}{s:Shared}(h:wpAny M A t Q E s)(hQ:∀a s,Q a s->Q' a s):wpAny M A t Q' E s:=wpAny_mono h hQ λ_ _ x=>x
section
variable{X:Cx}
inductive Vp(σ:St)(i:Nat)(H:Hp)(Q:VK):Prop
 |mk(v:V)(e:σ[i]?=some (some v))(q:Q v H)
noncomputable def bU(i:Nat):TE:=λσ H Q=>Vp σ i H Q
noncomputable def tC(v:V):TE:=λ_ H Q=>Q v H
theorem Pc{i:Nat}{x:Str}{pos:Pos}(hN:X.N[i]?=some x)(hv:Oq X.env.scope x)(hd:(x==("__debug__":Str))=false:=by decide)(hcd:(x==("__classdict__":Str))=false:=by decide):PE X (.Name x pos) (bU i):=by
 intro pins s σ H Q I h;obtain⟨v,e,h⟩:=h;obtain⟨m,hn,hl⟩:=I.loc;obtain⟨u,r,l⟩:=hl i x v hN e hv;have fin:EP X pins σ Q u s:=⟨v,H,I,r,h⟩;rcases l with⟨hk,hm⟩|⟨hk,c,hc,hcell⟩
 ·exact wpAny_Name (wpAny_loadName_local I.ok.kind hk hn hm fin) hd
 ·rcases hk with hk|hk
  ·exact wpAny_Name (wpAny_loadName_cell I.ok.kind hk hc hcell fin) hd
  ·exact wpAny_Name (wpAny_loadName_free I.ok.kind hk hc hcell fin hcd) hd
theorem ak{i j pos}:PE X (.Constant (.int i) j pos) (tC (.int i)):=λ_ _ _ H _ I h=>wpAny_Constant_int ⟨.int i,H,I.tok _,⟨_,rfl⟩,h⟩
theorem ow{b j pos}:PE X (.Constant (.bool b) j pos) (tC (.bl b)):=λ_ _ _ H _ I h=>Constant_bool ⟨.bl b,H,I,rfl,h⟩
theorem pX{j pos}:PE X (.Constant .none j pos) (tC .gF):=λ_ _ _ H _ I h=>Constant_none ⟨.gF,H,I,rfl,h⟩
noncomputable def Gl(X:Cx)(x:Str):Prop:=X.env.kindOf x=some .globalImplicit
theorem Fb{E:Value->Shared->Prop}{pins:List (Addr×Obj)}{s:Shared}{σ:St}{H:Hp}{x:Str}{u:Value}{pos:Pos}{Q:Value->Shared->Prop}(I:Inv X pins σ H s)(hg:Gl X x)(hm:X.mg x=some u)(h:Q u s)
  (hd:(x==("__debug__":Str))=false:=by decide):wpAny (model X.prog X.w) X.A (eval (.Name x pos) X.env) Q E s:=
 Calls.Name_function_global I.ok.kind hg (Calls.loadGlobal_global (by rw[I.ok.glob];exact I.mod.glob.keeps I.bk) hm h) hd
theorem m8{E:Value->Shared->Prop}{pins:List (Addr×Obj)}{s:Shared}{σ:St}{H:Hp}{x:Str}{u:Value}{pos:Pos}{Q:Value->Shared->Prop}(I:Inv X pins σ H s)(hg:Gl X x)(hm:X.mg x=none)(hv:bootBuiltins x=some u)(h:Q u s)
  (hn:x≠ "__name__":=by decide)(hd:(x==("__debug__":Str))=false:=by decide):wpAny (model X.prog X.w) X.A (eval (.Name x pos) X.env) Q E s:=by
 obtain⟨mb,h1,h2⟩:=I.mod.blt;exact Calls.Name_function_global I.ok.kind hg (Calls.loadGlobal_builtin (by rw[I.ok.glob];exact I.mod.glob.keeps I.bk) hm (by rw[I.ok.blt];exact h1.keeps I.bk) ((h2 x hn).trans hv) h) hd
theorem Mr{x:Str}{v:V}{u:Value}{pos:Pos}(hg:Gl X x)(hm:X.mg x=some u)(r:RelV v u)(hd:(x==("__debug__":Str))=false:=by decide):PE X (.Name x pos) (tC v):=
 λ_ _ _ H _ I h=>Fb I hg hm ⟨v,H,I,r,h⟩ hd
theorem lE{x:Str}{v:V}{u:Value}{pos:Pos}(hg:Gl X x)(hm:X.mg x=none)(hv:bootBuiltins x=some u)(r:RelV v u)(hn:x≠ "__name__":=by decide)(hd:(x==("__debug__":Str))=false:=by decide):PE X (.Name x pos) (tC v):=
 λ_ _ _ H _ I h=>m8 I hg hm hv ⟨v,H,I,r,h⟩ hn hd
variable{a b:Expr}{ta tb:TE}{pos:Pos}
inductive Xe(x:V)(Q:Bool->Prop):Prop
 |mk(k:Bool)(e:x= .bl k)(q:Q k)
noncomputable def tB(t:TE):TT:=λσ H Q=>t σ H λx H1=>Xe x λc=>Q c H1
theorem iG{e:Expr}{t:TE}(h:PE X e t)(he:∀whole,isTrue e X.env whole=(do let v<-whole;standAt e.pos;holding [v] (truthy v)):=by intro _;rfl):PT X e (tB t):=by
 intro pins s σ H Q I hw;refine isTrue_plain (gD (h pins s σ H _ I hw) λv s1 ⟨x,H1,I1,r1,q1⟩=> ?_) (he _);obtain⟨d,rfl,q⟩:=q1;cases r1;exact wpAny_truthy_bool ⟨H1,I1,q⟩
variable{tA Uu:TT}{rest:List Expr}
noncomputable def Vq(t u:TT):TT:=λσ H Q=>t σ H λc H1=>if c=true then u σ H1 Q else Q false H1
noncomputable def Xf(t u:TT):TT:=λσ H Q=>t σ H λc H1=>if c=true then Q true H1 else u σ H1 Q
noncomputable def RD(t:TT):TT:=λσ H Q=>t σ H λc H1=>Q (!c) H1
theorem Fc(ha:PT X a tA):PW X (.BoolOp .And [a] pos) tA:=by
 intro wh pins s σ H Q I h;refine isTrue_and (gD (ha pins s σ H Q I h) λc s1 e=> ?_)
 cases c with
 |true=>exact isTrue_and_nil e
 |false=>exact e
theorem pY(ha:PT X a tA):PW X (.BoolOp .Or [a] pos) tA:=by
 intro wh pins s σ H Q I h;refine isTrue_or (gD (ha pins s σ H Q I h) λc s1 e=> ?_)
 cases c with
 |false=>exact isTrue_or_nil e
 |true=>exact e
theorem IV(ha:PT X a tA)(hb:PW X (.BoolOp .And (b::rest) pos) Uu):PW X (.BoolOp .And (a::b::rest) pos) (Vq tA Uu):=by
 intro wh pins s σ H Q I h;refine isTrue_and (gD (ha pins s σ H _ I h) λc s1 ⟨H1,I1,q1⟩=> ?_)
 cases c with
 |true=>exact hb wh pins s1 σ H1 Q I1 q1
 |false=>exact⟨H1,I1,q1⟩
theorem uz(ha:PT X a tA)(hb:PW X (.BoolOp .Or (b::rest) pos) Uu):PW X (.BoolOp .Or (a::b::rest) pos) (Xf tA Uu):=by
 intro wh pins s σ H Q I h;refine isTrue_or (gD (ha pins s σ H _ I h) λc s1 ⟨H1,I1,q1⟩=> ?_)
 cases c with
 |true=>exact⟨H1,I1,q1⟩
 |false=>exact hb wh pins s1 σ H1 Q I1 q1
theorem m9(ha:PT X a tA):PT X (.UnaryOp .Not a pos) (RD tA):=by
 intro pins s σ H Q I h;exact isTrue_not (ha pins s σ H (λc H1=>Q (!c) H1) I h)
noncomputable def RE(ta tb:TE):TE:=λσ H Q=>ta σ H λx H1=> ∃c,x= .bl c/\if c=true then tb σ H1 Q else Q (.bl false) H1
noncomputable def RG(ta:TE):TE:=λσ H Q=>ta σ H λx H1=> ∃c,x= .bl c/\Q (.bl (!c)) H1
theorem vS{op}{t:TE}(h:PE X a t):PE X (.BoolOp op [a] pos) t:=λpins s σ H Q I hw=>BoolOp_one (h pins s σ H Q I hw)
theorem vU(ha:PE X a ta)(hb:PE X (.BoolOp .And (b::rest) pos) tb):PE X (.BoolOp .And (a::b::rest) pos) (RE ta tb):=by
 intro pins s σ H Q I h;refine BoolOp_and (gD (ha pins s σ H _ I h) λv s1 ⟨x,H1,I1,r1,q1⟩=> ?_);obtain⟨c,rfl,q1⟩:=q1;cases r1;refine wpAny_truthy_bool ?_
 cases c with
 |true=>exact hb pins s1 σ H1 Q I1 q1
 |false=>exact⟨.bl false,H1,I1,rfl,q1⟩
theorem Pd(ha:PE X a ta):PE X (.UnaryOp .Not a pos) (RG ta):=by
 intro pins s σ H Q I h;refine UnaryOp_ (gD (ha pins s σ H _ I h) λv s1 ⟨x,H1,I1,r1,q1⟩=> ?_);obtain⟨c,rfl,q1⟩:=q1;cases r1;exact not_of (wpAny_truthy_bool ⟨.bl (!c),H1,I1,rfl,q1⟩)
noncomputable def YQ(t:TT)(ta tb:TE):TE:=λσ H Q=>t σ H λc H1=>if c=true then ta σ H1 Q else tb σ H1 Q
theorem IW{c:Expr}(hc:PT X c tA)(ha:PE X a ta)(hb:PE X b tb):PE X (.IfExp c a b pos) (YQ tA ta tb):=by
 intro pins s σ H Q I h;refine wpAny_IfExp (gD (hc pins s σ H _ I h) λd s1 ⟨H1,I1,q1⟩=> ?_)
 cases d with
 |true=>exact ha pins s1 σ H1 Q I1 q1
 |false=>exact hb pins s1 σ H1 Q I1 q1
end
noncomputable def aZ(K:PySem.W.Frag)(H:Hp)(a:Addr)(xs:List V):Prop:=
 Rd H a (.lst xs)∨
  ∃(o:Obj)(its:Array Value)(n:Nat),K.lookup a=some o/\o.cls= .type "list"/\o.dict=none/\o.data= .seq its n/\its.size<=sizeLine/\Vals xs its.toList
noncomputable def nZ(K:PySem.W.Frag)(H:Hp)(a:Addr)(xs:List V):Prop:=
 Rd H a (.tup xs)∨
  ∃(o:Obj)(its:Array Value)(n:Nat),K.lookup a=some o/\o.cls= .type "tuple"/\o.data= .seq its n/\its.size<=sizeLine/\Vals xs its.toList
noncomputable def Vr:Value->Option V
 | .none=>some .gF
 | .bool b=>some (.bl b)
 | .int i _=>some (.int i)
 | .str x _=>some (.str x)
 | .bytes b _=>some (.IQ b)
 | .float b _=>some (.QZ b)
 | .ref a=>some (.ref a)
 | .type n=>some (.ty n)
 |_=>none
theorem RelV.abs{x:V}{u:Value}(r:RelV x u):Vr u=some x:=by
 cases x with
 |gF=>cases r;rfl
 |bl _=>cases r;rfl
 |int _=>obtain⟨t,rfl⟩:=r;rfl
 |str _=>obtain⟨t,rfl⟩:=r;rfl
 |IQ _=>obtain⟨t,rfl⟩:=r;rfl
 |QZ _=>obtain⟨t,rfl⟩:=r;rfl
 |ref _=>cases r;rfl
 |ty _=>cases r;rfl
theorem RelV.inj{x y:V}{u:Value}(r:RelV x u)(q:RelV y u):x=y:=Option.some.inj (r.abs.symm.trans q.abs)
theorem Vals.inj:∀{xs ys:List V}{us:List Value},Vals xs us->Vals ys us->xs=ys
 |_,_,_,.nil,.nil=>rfl
 |_,_,_,.cons r t,.cons r' t'=>by rw[r.inj r',Vals.inj t t']
section
variable{X:Cx}{pins:List (Addr×Obj)}{σ:St}{H:Hp}{s:Shared}{a:Addr}{xs ys:List V}
theorem aZ.of{K:PySem.W.Frag}(h:H a=some (.lst xs)):aZ K H a xs:= .inl (.inl h)
theorem nZ.of{K:PySem.W.Frag}(h:H a=some (.tup xs)):nZ K H a xs:= .inl (.inl h)
theorem Inv.list(I:Inv X pins σ H s)(h:aZ X.K H a xs):∃its:List Value,Vals xs its/\PlainL s.heap a its.toArray/\xs.length<=sizeLine:=by
 rcases h with h|⟨o,its,n,hk,hc,hd,hs,hz,r⟩
 ·obtain⟨z,its,n,r,e⟩:=h.ok I.hok
  exact⟨its,r,⟨_,n,e,rfl,rfl,rfl⟩,z⟩
 ·refine⟨its.toList,r,⟨o,n,I.zB a o hk,hc,hd,by simpa using hs⟩,?_⟩
  have e:=r.length;simp only[aaK]at e;omega
theorem Inv.tuple(I:Inv X pins σ H s)(h:nZ X.K H a xs):∃its:List Value,Vals xs its/\IsTup s.heap a its.toArray/\xs.length<=sizeLine:=by
 rcases h with h|⟨o,its,n,hk,hc,hs,hz,r⟩
 ·obtain⟨z,its,r,p⟩:=h.ok I.hok
  exact⟨its,r,p,z⟩
 ·refine⟨its.toList,r,⟨o,I.zB a o hk,hc,n,by simpa using hs⟩,?_⟩
  have e:=r.length;simp only[aaK]at e;omega
theorem Inv.vV(I:Inv X pins σ H s)(h:aZ X.K H a xs)(h':aZ X.K H a ys):xs=ys:=by
 obtain⟨its,r,⟨o,n,e,_,_,d⟩,_⟩:=I.list h;obtain⟨its',r',⟨o',n',e',_,_,d'⟩,_⟩:=I.list h';rw[e]at e';cases e';rw[d]at d';injection d' with d1 _;have:its=its':=by simpa using congrArg Array.toList d1
 subst this;exact r.inj r'
end
noncomputable abbrev Cx.xW(X:Cx)(E:Value->Shared->Prop):Cx:={X with xe:=E}
noncomputable abbrev Cx.IM(X:Cx):Cx:=X.xW λ_ _=>False
theorem Cx.Ok.xW{X:Cx}(ok:X.Ok)(E:Value->Shared->Prop):(X.xW E).Ok:=
 ⟨ok.mod,ok.kind,ok.glob,ok.blt,ok.above,ok.inj,ok.has,ok.Ry,ok.hd,ok.frames,ok.stk,ok.Mb,ok.bs,ok.Mq,ok.GH,ok.AS,ok.vc,ok.Rb⟩
theorem Cx.Ok.oA{X:Cx}{E:Value->Shared->Prop}(ok:(X.xW E).Ok):X.Ok:=
 ⟨ok.mod,ok.kind,ok.glob,ok.blt,ok.above,ok.inj,ok.has,ok.Ry,ok.hd,ok.frames,ok.stk,ok.Mb,ok.bs,ok.Mq,ok.GH,ok.AS,ok.vc,ok.Rb⟩
section
variable{X:Cx}{pins:List (Addr×Obj)}{σ:St}{H:Hp}{s:Shared}{E:Value->Shared->Prop}
theorem Inv.xW(I:Inv X pins σ H s)(E:Value->Shared->Prop):Inv (X.xW E) pins σ H s:=⟨I.ok.xW E,I.os,I.bare,I.base,I.loc,I.cell,I.free,I.nY,I.pin,I.hok,I.len⟩
theorem Inv.oA(I:Inv (X.xW E) pins σ H s):Inv X pins σ H s:=⟨I.ok.oA,I.os,I.bare,I.base,I.loc,I.cell,I.free,I.nY,I.pin,I.hok,I.len⟩
theorem SP.oA{D:Ends}{f:Flow}{s':Shared}(h:SP (X.xW E) pins D f s'):SP X pins D f s':=by
 cases f with
 |next=>obtain⟨σ',H',I,q⟩:=h;exact⟨σ',H',I.oA,q⟩
 |brk=>obtain⟨σ',H',I,q⟩:=h;exact⟨σ',H',I.oA,q⟩
 |cont=>obtain⟨σ',H',I,q⟩:=h;exact⟨σ',H',I.oA,q⟩
 |ret u=>obtain⟨v,σ',H',I,r,q⟩:=h;exact⟨v,σ',H',I.oA,r,q⟩
theorem zC.IM{st:List Stmt}{t:TS}(h:zC X.IM st t):zC X st t:=λpins s σ H D I hw=>
 wpAny_mono (h pins s σ H D (I.xW _) hw) (λ_ _ q=>q.oA) λ_ _ z=>False.elim z
end
section
variable{X:Cx}{st:Stmt}{rest:List Stmt}{t u:TS}{e:Expr}{te:TE}{pos:Pos}
noncomputable def Ot:TS:=λD σ H=>D.nx σ H
noncomputable def CT(t u:TS):TS:=λD σ H=>t {D with nx:=u D} σ H
theorem Ms:zC X [] Ot:=λ_ _ σ H _ I h=>wpAny_execs_nil ⟨σ,H,I,h⟩
theorem IX(h1:PS X st t)(h2:zC X rest u):zC X (st::rest) (CT t u):=by
 intro pins s σ H D I h;refine wpAny_execs_cons (gD (h1 pins s σ H {D with nx:=u D} I h) λf s1 q=> ?_)
 cases f with
 |next=>
  obtain⟨σ',H',I',q⟩:=q;exact h2 pins s1 σ' H' D I' q
 |ret v=>exact q
 |brk=>exact q
 |cont=>exact q
theorem dQ(h1:PS X st t):zC X [st] t:=by
 intro pins s σ H D I h;refine wpAny_execs_cons (gD (h1 pins s σ H D I h) λf s1 q=> ?_)
 cases f with
 |next=>exact wpAny_execs_nil q
 |ret v=>exact q
 |brk=>exact q
 |cont=>exact q
noncomputable def Pe:TS:=λD σ H=>D.bk σ H
theorem IY:PS X (.Break pos) Pe:=λ_ _ σ H _ I h=>wpAny_Break ⟨σ,H,I,h⟩
theorem Inv.quiet{pins:List (Addr×Obj)}{σ:St}{H:Hp}{s:Shared}(I:Inv X pins σ H s):interactive X.env=false:=by simp[interactive,I.ok.kind]
noncomputable def RH(te:TE):TS:=λD σ H=>te σ H λ_ H1=>D.nx σ H1
theorem oZ(he:PE X e te)(hs:swapsWith e none pos.line X.env=pure false:=by rfl):PS X (.Expr e pos) (RH te):=by
 intro pins s σ H D I h;exact wpAny_Expr_any (gD (he pins s σ H _ I h) λv s1 ⟨x,H1,I1,r1,q1⟩=>⟨σ,H1,I1,q1⟩) I.quiet hs
noncomputable def RJ(te:TE):TS:=λD σ H=>te σ H D.rt
theorem aU(he:PE X e te):PS X (.Return (some e) pos) (RJ te):=by
 intro pins s σ H D I h;exact wpAny_Return_some (gD (he pins s σ H _ I h) λv s1 ⟨x,H1,I1,r1,q1⟩=>⟨x,σ,H1,I1,r1,q1⟩)
noncomputable def RK(c:TT)(t u:TS):TS:=λD σ H=>c σ H λb H1=>if b=true then t D σ H1 else u D σ H1
theorem RL{c:Expr}{a b:List Stmt}{tc:TT}(hc:PT X c tc)(ha:zC X a t)(hb:zC X b u):PS X (.If c a b pos) (RK tc t u):=by
 intro pins s σ H D I h;refine wpAny_If (gD (hc pins s σ H _ I h) λd s1 ⟨H1,I1,q1⟩=> ?_)
 cases d with
 |true=>exact ha pins s1 σ H1 D I1 q1
 |false=>exact hb pins s1 σ H1 D I1 q1
noncomputable def Pf:TS:=λ_ _ _=>False
theorem vW:PS X st Pf:=λ_ _ _ _ _ _ h=>h.elim
end
noncomputable abbrev TG:=V->St->Hp->(St->Hp->Prop) ->Prop
noncomputable abbrev Mt:=List V->St->Hp->(St->Hp->Prop) ->Prop
noncomputable def PG(X:Cx)(target:Expr)(t:TG):Prop:=
 ∀(pins:List (Addr×Obj))(s:Shared)(σ:St)(H:Hp)(v:V)(u:Value)(Q:St->Hp->Prop),Inv X pins σ H s->RelV v u->t v σ H Q->
  wpAny (model X.prog X.w) X.A (assign target X.env u) (λ_ s'=> ∃σ' H',Inv X pins σ' H' s'/\Q σ' H') X.xe s
noncomputable def RM(X:Cx)(ts:List Expr)(t:Mt):Prop:=
 ∀(pins:List (Addr×Obj))(s:Shared)(σ:St)(H:Hp)(vs:List V)(us:List Value)(Q:St->Hp->Prop),Inv X pins σ H s->Vals vs us->t vs σ H Q->
  wpAny (model X.prog X.w) X.A (assignInOrder ((assignEach ts X.env).map (·.2)) us) (λ_ s'=> ∃σ' H',Inv X pins σ' H' s'/\Q σ' H') X.xe s
noncomputable abbrev Pg:=V->V->V->Hp->(Hp->Prop) ->Prop
noncomputable def RN(X:Cx)(t:Pg):Prop:=
 ∀(pins:List (Addr×Obj))(s:Shared)(σ:St)(H:Hp)(o i v:V)(ov iv u:Value)(Q:Hp->Prop),Inv X pins σ H s->RelV o ov->RelV i iv->RelV v u->t o i v H Q->
  wpAny (model X.prog X.w) X.A (setItem ov iv u) (λ_ s'=> ∃H',Inv X pins σ H' s'/\Q H') X.xe s
section
variable{X:Cx}{pos:Pos}
noncomputable def dP(i:Nat):TG:=λv σ H Q=>Q (σ.set i (some v)) H
theorem aI{i:Nat}{x:Str}(hN:X.N.Nodup)(hi:X.N[i]?=some x)(hx:Loc X.env.scope x)(hf:X.fn x=true∨X.env.scope.names.lookup x=some .local:=by first|exact .inl rfl|exact .inr rfl|assumption):PG X (.Name x pos) (dP i):=by
 intro pins s σ H v u Q I r h;exact wpAny_assign_Name (kq I hN hi hx r (λs' I'=>⟨_,H,I',h⟩) hf)
noncomputable def RO:Mt:=λvs σ H Q=>vs=[]/\Q σ H
inductive RP(vs:List V)(Q:V->List V->Prop):Prop
 |mk(v:V)(r:List V)(e:vs=v::r)(q:Q v r)
noncomputable def IZ(t:TG)(u:Mt):Mt:=λvs σ H Q=>RP vs λv r=>t v σ H λσ1 H1=>u r σ1 H1 Q
theorem dW:RM X [] RO:=by
 intro pins s σ H vs us Q I r h;obtain⟨e,h⟩:=h;subst e;cases r;exact assignInOrder_nil ⟨σ,H,I,h⟩
theorem aG{e:Expr}{es:List Expr}{t:TG}{u:Mt}(h1:PG X e t)(h2:RM X es u)
  (hs:(assignEach (e::es) X.env).map (·.2)=assign e X.env::(assignEach es X.env).map (·.2):=by rfl):RM X (e::es) (IZ t u):=by
 intro pins s σ H vs us Q I r h;obtain⟨v,vr,e1,h⟩:=h;subst e1
 cases r with
 |cons r rr=>
  rw[hs];refine assignInOrder_cons (gD (h1 pins s σ H _ _ _ I r h) λ_ s1 ⟨σ1,H1,I1,q1⟩=> ?_);exact h2 pins s1 σ1 H1 _ _ Q I1 rr q1
inductive Vs(K:PySem.W.Frag)(n:Nat)(v:V)(H:Hp)(Q:List V->Prop):Prop
 |mk(a:Addr)(xs:List V)(e:v= .ref a)(s:nZ K H a xs)(l:xs.length=n)(q:Q xs)
noncomputable def RQ(K:PySem.W.Frag)(n:Nat)(t:Mt):TG:=λv σ H Q=>Vs K n v H λxs=>t xs σ H Q
theorem kr{es:List Expr}{k:Nat}{t:Mt}{n:Nat}(hc:X.calm=true)(h:RM X es t)
  (hn:(assignEach es X.env).length=n:=by rfl)(hst:(assignEach es X.env).findIdx? (·.1)=none:=by rfl):PG X (.Tuple es k pos) (RQ X.K n t):=by
 intro pins s σ H v u Q I r hw;obtain⟨a,xs,e1,hq,hl,hw⟩:=hw;subst e1;cases r;obtain⟨its,rv,ht,hz⟩:=I.tuple hq;refine assign_Tuple_tuple (I.ok.hd hc) ht (by simp[hn,<-hl,rv.length]) hst λh' hx=> ?_;have I1:Inv X pins σ H {s with heap:=h'}:=I.kept (t':=s.toks) λb o e=>hx b o (aaI (Heap.lt_size e)) e;exact h pins _ σ H xs _ Q I1 (by simpa using rv) hw
noncomputable def Vt(to ti:TE)(t:Pg):TG:=λv σ H Q=>to σ H λo H1=>ti σ H1 λi H2=>t o i v H2 λH3=>Q σ H3
theorem vX{o i:Expr}{to ti:TE}{t:Pg}(ho:PE X o to)(hi:PE X i ti)(hs:RN X t)
  (ha:∀v,assign (.Subscript o i pos) X.env v=(do
   let ov<-holding [v] (eval o X.env)
   let iv<-holding [v,ov] (eval i X.env)
   standAt pos
   holding [v,ov,iv] (setItem ov iv v)
   release [v,ov,iv] []):=by intro _;rfl):PG X (.Subscript o i pos) (Vt to ti t):=by
 intro pins s σ H v u Q I r h;rw[ha];refine wpAny_bind (wpAny_holding (gD (ho pins s σ H _ I h) λov s1 ⟨x,H1,I1,r1,q1⟩=> ?_));refine wpAny_bind (wpAny_holding (gD (hi pins s1 σ H1 _ I1 q1) λiv s2 ⟨y,H2,I2,r2,q2⟩=> ?_));refine wpAny_bind (wpAny_standAt (wpAny_bind (wpAny_holding (gD (hs pins s2 σ H2 x y v ov iv u _ I2 r1 r2 r q2) λ_ s3 ⟨H3,I3,q3⟩=> ?_))));exact wpAny_release ⟨σ,H3,I3,q3⟩
noncomputable def Ja(te:TE)(g:TG):TS:=λD σ H=>te σ H λx H1=>g x σ H1 D.nx
theorem iu{tg e:Expr}{te:TE}{g:TG}(he:PE X e te)(hg:PG X tg g)(hs:swapsWithSole [tg] e pos.line X.env=pure false:=by rfl)(hw:swappedStores [tg] e X.env=pure none:=by rfl)
  (h1:(assignEach [tg] X.env).map (·.2)=[assign tg X.env]:=by rfl):PS X (.Assign [tg] e pos) (Ja te g):=by
 intro pins s σ H D I h;refine wpAny_Assign_stores (gD (he pins s σ H _ I h) λv s1 ⟨x,H1,I1,r1,q1⟩=> ?_) hs hw;rw[h1];exact gD (hg pins s1 σ H1 x v _ I1 r1 q1) λ_ s2 q=>q
theorem aV{i:Nat}{x:Str}{e:Expr}{te:TE}{pos':Pos}(hN:X.N.Nodup)(hi:X.N[i]?=some x)(hx:Loc X.env.scope x)(he:PE X e te)(hs:swapsWith e (some (.Name x pos')) pos.line X.env=pure false:=by rfl)(hf:X.fn x=true∨X.env.scope.names.lookup x=some .local:=by first|exact .inl rfl|exact .inr rfl|assumption):
  PS X (.Assign [.Name x pos'] e pos) (Ja te (dP i)):=by
 intro pins s σ H D I h;refine wpAny_Assign_Name (gD (he pins s σ H _ I h) λv s1 ⟨y,H1,I1,r1,q1⟩=> ?_) hs;exact kq I1 hN hi hx r1 (λs2 I2=>⟨_,H1,I2,q1⟩) hf
noncomputable def Vu(i j:Nat)(ta:TA):TS:=λD σ H=>ta σ H λvs H1=> ∃v w,vs=[v,w]/\D.nx ((σ.set i (some v)).set j (some w)) H1
theorem vY{i j:Nat}{x y:Str}{a b:Expr}{ta:TA}{px py pt:Pos}{kt k2 Ph}(hc:X.calm=true)(hN:X.N.Nodup)(hi:X.N[i]?=some x)(hj:X.N[j]?=some y)(hij:i≠j)
  (hx:X.env.scope.names.lookup x=some .local)(hy:X.env.scope.names.lookup y=some .local)(ha:PA X [a,b] ta)
  (hw:swappedStores [.Tuple [.Name x px,.Name y py] kt pt] (.Tuple [a,b] k2 Ph) X.env=pure (some [x,y]))
  (hs:swapsWithSole [.Tuple [.Name x px,.Name y py] kt pt] (.Tuple [a,b] k2 Ph) pos.line X.env=pure false:=by rfl):
  PS X (.Assign [.Tuple [.Name x px,.Name y py] kt pt] (.Tuple [a,b] k2 Ph) pos) (Vu i j ta):=by
 intro pins s σ H D I h;rw[exec_Assign_arm];refine wpAny_bind (wpAny_standAt ?_);rw[hs];refine wpAny_bind (wpAny_pure ?_);rw[if_neg (by decide)];refine wpAny_bind (Tuple_ (gD (ha _ pins s σ H _ I h) λus s1 ⟨vs,H1,I1,r1,q1⟩=> ?_));obtain⟨v,w,e1,q1⟩:=q1;subst e1;obtain⟨u1,u2,rfl,rv,rw'⟩:∃u1 u2,us=[u1,u2]/\RelV v u1/\RelV w u2:=by
  cases r1 with
  |cons p q=>
   cases q with
   |cons p' q'=>
    cases q';exact⟨_,_,rfl,p,p'⟩
 refine wpAny_newObj_type ?_ (by show 2<=sizeLine;decide);have I2:Inv X pins σ H1 {s1 with heap:=s1.heap.push {cls:= .type "tuple",data:= .seq [u1,u2].toArray}}:=I1.kept (t':=s1.toks) λb o e=>Heap.get?_push_of_some _ e;rw[hw];refine wpAny_bind (wpAny_pure ?_);show wpAny (model X.prog X.w) X.A (do rule "assign.swapped-stores";let items<-unpackItems (.ref s1.heap.objs.size) 2 none;assignInOrder [λv=>bindName X.env y v,λv=>bindName X.env x v] items.reverse;pure Flow.next) _ _ _;refine wpAny_bind (wpAny_rule (wpAny_bind (unpackItems_tuple (items:= #[u1,u2]) (I.ok.hd hc) (IsTup.new s1.heap _) λh' hx'=> ?_)));have I3:=I2.kept (h':=h') (t':=s1.toks) λb o e=>hx' b o (aaI (Heap.lt_size e)) e;show wpAny _ _ (assignInOrder [λv=>bindName X.env y v,λv=>bindName X.env x v] [u2,u1]>>=λ_=>pure Flow.next) _ _ _;refine wpAny_bind (assignInOrder_cons (wpAny_bindName (kq I3 hN hj (.inl hy) rw' (λs2 I4=> ?_) (.inr hy))));refine assignInOrder_cons (wpAny_bindName (kq I4 hN hi (.inl hx) rv (λs3 I5=>assignInOrder_nil (wpAny_pure ?_)) (.inr hx)));rw[adk _ _ (Ne.symm hij)]at I5;exact⟨_,H1,I5,q1⟩
end
section
variable{X:Cx}{pos:Pos}
noncomputable def Jb(c:TT)(tb:TS):TS:=λD σ H=> ∃W:Nat->St->Hp->Prop,(∃m,W m σ H)/\ ∀m σ H,W m σ H->
 c σ H λb H1=>if b=true then ∃N:St->Hp->Prop,(∀σ' H',N σ' H'-> ∃m',m'<m/\W m' σ' H')/\tb {D with nx:=N,ct:=N,bk:=D.nx} σ H1 else D.nx σ H1
theorem vZ{c:Expr}{body:List Stmt}{tc:TT}{tb:TS}(hp:PassesOwn (model X.prog X.w) X.A X.env X.xe)(hc:PT X c tc)(hb:zC X body tb):PS X (.While c body [] pos) (Jb tc tb):=by
 intro pins s σ H D I h;obtain⟨W,⟨m0,w0⟩,turn⟩:=h;refine wpAny_While (codeAny_whileLoop (λn s'=> ∃σ' H',Inv X pins σ' H' s'/\W n σ' H') ?_ m0 ⟨σ,H,I,w0⟩);rintro n s1 ⟨σ1,H1,I1,w1⟩;refine wpAny_passesOwn hp (gD (hc pins s1 σ1 H1 _ I1 (turn n σ1 H1 w1)) λb s2 ⟨H2,I2,q2⟩=> ?_)
 cases b with
 |true=>
  obtain⟨N,hN,q2⟩:=q2;rw[if_pos rfl];refine wpAny_passesOwn hp (gD (hb pins s2 σ1 H2 _ I2 q2) λf s3 q3=> ?_)
  cases f with
  |next=>
   obtain⟨σ3,H3,I3,n3⟩:=q3;obtain⟨m',hm,w3⟩:=hN σ3 H3 n3;exact⟨m',hm,σ3,H3,I3,w3⟩
  |cont=>
   obtain⟨σ3,H3,I3,n3⟩:=q3;obtain⟨m',hm,w3⟩:=hN σ3 H3 n3;exact⟨m',hm,σ3,H3,I3,w3⟩
  |brk=>exact q3
  |ret v=>exact q3
 |false=>
  rw[if_neg aaw];exact wpAny_execs_nil ⟨σ1,H2,I2,q2⟩
end
structure It where
 go:Nat->Hp->Prop
 AN:Nat->Hp->V->Hp->Prop
 stop:Nat->Hp->Prop
noncomputable def gb(X:Cx)(pins:List (Addr×Obj))(H:Hp)(b:Addr):Prop:=
 H b=none/\b≠X.env.locals/\b∉X.fs/\(b∈X.ex∨X.s₀.heap.objs.size<=b)/\(∀x c,X.env.cells.lookup x=some c->c≠b)/\ ∀p∈X.pn++pins,p.1≠b
theorem Inv.GJ{X:Cx}{pins:List (Addr×Obj)}{σ:St}{H H':Hp}{s:Shared}{b:Addr}(I:Inv X pins σ H s)(hb:s.heap.objs.size<=b)(hn:H' b=none):gb X pins H' b:=by
 refine⟨hn,abX (aao I.lt hb),I.Rz hb,.inr (aa8 I.sz hb),λx c e z=> ?_,λp hp z=> ?_⟩
 ·obtain⟨v,q⟩:=I.cell x c e
  exact absurd (aao q.lt (by rw[z];exact hb)) (aa4 _)
 ·exact absurd (aao (Heap.lt_size (I.pin p hp).1) (by rw[z];exact hb)) (aa4 _)
structure Turn(P:Program)(w:World)(K:PySem.W.Frag)(tg:Expr)(J:It)(fp:List Addr)(it:Addr)(tn:Nat->Heap->Prop):Prop where
 mem:it∈fp
 obj:∀i h,tn i h-> ∀b∈fp,∃o,h.get? b=some o/\ ∀v,o.data≠ .cell v
 keep:∀i h h',tn i h->(∀b∈fp,∀o,h.get? b=some o->h'.get? b=some o) ->tn i h'
 item:∀(X:Cx),X.prog=P->X.w=w->X.K=K->X.calm=true-> ∀(i:Nat)(pins:List (Addr×Obj))(s:Shared)(σ:St)(H:Hp)(E:Value->Shared->Prop),Inv X pins σ H s->(∀b∈fp,gb X pins H b) ->tn i s.heap->J.go i H->
  wpAny (model P w) X.A (pyNext (.ref it)) (λr s1=> ∃u,r=some u/\
   wpAny (model P w) X.A (letOwnedTupleGo tg (.ref it) u) (λ_ s2=> ∃x H',Inv X pins σ H' s2/\RelV x u/\J.AN i H x H'/\tn (i+1) s2.heap/\ ∀b∈fp,H' b=none) E s1) E s
 done:∀(X:Cx),X.prog=P->X.w=w->X.K=K->X.calm=true-> ∀(i:Nat)(pins:List (Addr×Obj))(s:Shared)(σ:St)(H:Hp)(E:Value->Shared->Prop),Inv X pins σ H s->(∀b∈fp,gb X pins H b) ->tn i s.heap->J.stop i H->
  wpAny (model P w) X.A (pyNext (.ref it)) (λr s1=>r=none/\Inv X pins σ H s1) E s
 self:∀(A:Around)(i:Nat)(s:Shared)(Q:Value->Shared->Prop)(E:Value->Shared->Prop),tn i s.heap->Q (.ref it) s->wpAny (model P w) A (pyIter (.ref it)) Q E s
noncomputable abbrev TI:=St->Hp->(It->Hp->Prop) ->Prop
noncomputable def Xg(X:Cx)(pins:List (Addr×Obj))(σ:St)(tg:Expr)(R:It->Hp->Prop)(itv:Value)(s2:Shared):Prop:=
 ∃(it:Addr)(fp:List Addr)(tn:Nat->Heap->Prop)(J:It)(H':Hp),itv= .ref it/\Inv X pins σ H' s2/\Turn X.prog X.w X.K tg J fp it tn/\tn 0 s2.heap/\(∀b∈fp,gb X pins H' b)/\R J H'
noncomputable def PI(X:Cx)(tg iter:Expr)(wi:TI):Prop:=
 ∀(pins:List (Addr×Obj))(s:Shared)(σ:St)(H:Hp)(R:It->Hp->Prop),Inv X pins σ H s->wi σ H R->
  wpAny (model X.prog X.w) X.A (eval iter X.env) (λv s1=>wpAny (model X.prog X.w) X.A (pyIter v) (Xg X pins σ tg R) X.xe s1) X.xe s
theorem Ou{M:Model}{A:Around}{E:Value->Shared->Prop}{s:Shared}{tg:Expr}{it:Addr}{u:Value}{o:Obj}{n:String}{vs:Array Value}{Q:Unit->Shared->Prop}(ho:s.heap.get? it=some o)(hc:o.cls= .type n)(hd:o.data= .fields vs)
  (hn: ["enumerate","zip","dict_itemiterator","dict_reverseitemiterator","odict_iterator","itertools.zip_longest","itertools.pairwise"].contains n=false)(hQ:Q () s):wpAny M A (letOwnedTupleGo tg (.ref it) u) Q E s:=by
 unfold letOwnedTupleGo;cases tg<;>first
  |exact wpAny_pure hQ
  |(cases u<;>first
    |exact wpAny_pure hQ
    |(refine wpAny_bind (wpAny_load ho ?_)
      rw[hc,hd];show wpAny M A (if(["enumerate","zip","dict_itemiterator","dict_reverseitemiterator","odict_iterator","itertools.zip_longest","itertools.pairwise"].contains n && vs[0]?==some (rawInt _))=true then _ else _) Q E s;rw[if_neg (by intro h;rw[hn,ac7]at h;cases h)];exact wpAny_pure hQ))
noncomputable def Mu(K:PySem.W.Frag)(a:Addr):It:=
 ⟨λi H=> ∃xs x,aZ K H a xs/\xs[i]?=some x,λi H x H'=>H'=H/\ ∀xs,aZ K H a xs->xs[i]?=some x,λi H=> ∃xs,aZ K H a xs/\xs.length<=i⟩
noncomputable def Mc(lo:Int)(n:Nat):It:=⟨λi _=>i<n,λi H x H'=>H'=H/\x= .int (lo+i),λi _=>n<=i⟩
theorem GK{P:Program}{w:World}{K:PySem.W.Frag}{tg:Expr}(a it:Addr):Turn P w K tg (Mu K a) [it] it (λi h=>h.IsListIter it a i) where
 mem:=by simp
 obj:=λi h st b hb=>by
  have e:b=it:=by simpa using hb
  subst e;obtain⟨o,e,c,d⟩:=st;exact⟨o,e,λv z=>by rw[d]at z;cases z⟩
 keep:=λi h h' st k=>st.at λo e=>k it (by simp) o e
 item:=by
  intro X hP hw hK hc i pins s σ H E I hf st hg;subst hP hw hK;obtain⟨xs,x,hq,hx⟩:=hg;obtain⟨its,rv,p,hz⟩:=I.list hq;obtain⟨u,hu,ru⟩:=rv.get hx;obtain⟨f0,f1,f2,f3,f4,f5⟩:=hf it (by simp);refine wpAny_pyNext_list_item st p.isList (x:=u) (by simpa using hu) λh' st' sb=> ?_;have I1:Inv X pins σ H {s with heap:=h'}:=I.turned (t':=s.toks) (λb o hb e=>(sb.2 b hb).trans e) f0 f1 f3 f4 f5;obtain⟨o,e,c,d⟩:=id st';exact⟨u,rfl,Ou (s:={s with heap:=h'}) e c d (by decide) ⟨x,H,I1,ru,⟨rfl,λys hy=>by rw[I.vV hy hq];exact hx⟩,st',λb hb=>(hf b hb).1⟩⟩
 done:=by
  intro X hP hw hK hc i pins s σ H E I hf st hg;subst hP hw hK;obtain⟨xs,hq,hx⟩:=hg;obtain⟨its,rv,p,hz⟩:=I.list hq;obtain⟨f0,f1,f2,f3,f4,f5⟩:=hf it (by simp);have hl:=rv.length;exact wpAny_pyNext_list_end (I.ok.hd hc) st p.isList (by simp;omega) λh' eb=>⟨rfl,I.turned (t':=s.toks) (λb o hb e=>eb b o hb e) f0 f1 f3 f4 f5⟩
 self:=λ_ _ _ _ _ st h=>wpAny_pyIter_listiter st h
theorem CU{P:Program}{w:World}{K:PySem.W.Frag}{tg:Expr}(it:Addr)(lo:Int)(n:Nat):Turn P w K tg (Mc lo n) [it] it (λi h=>IsRangeIter h it (lo+(i:Nat)*1) ((n:Int) - (i:Nat)) 1) where
 mem:=by simp
 obj:=λi h st b hb=>by
  have e:b=it:=by simpa using hb
  subst e;exact⟨_,st,λv z=>by
   have z':Data.fields _=Data.cell v:=z;cases z'⟩
 keep:=λi h h' st k=>k it (by simp) _ st
 item:=by
  intro X hP hw hK hc i pins s σ H E I hf st hg;subst hP hw hK;obtain⟨f0,f1,f2,f3,f4,f5⟩:=hf it (by simp);have W:=Walks.range (prog:=X.prog) (w:=X.w) (I.ok.hd hc) it lo 1 n;refine W.item i s _ _ hg st λv h' tk hv st' kk=> ?_;obtain⟨t,rfl⟩:=hv;have I1:Inv X pins σ H {s with heap:=h',toks:=tk}:=I.turned (λb o hb e=>kk b o (by simpa using hb) e) f0 f1 f3 f4 f5;refine⟨_,rfl,Ou (s:={s with heap:=h',toks:=tk}) (n:= "range_iterator") st' rfl rfl (by decide) ⟨.int (lo+i),H,I1,⟨t,?_⟩,⟨rfl,rfl⟩,st',λb hb=>(hf b hb).1⟩⟩;rw[adO]
 done:=by
  intro X hP hw hK hc i pins s σ H E I hf st hg;subst hP hw hK;obtain⟨f0,f1,f2,f3,f4,f5⟩:=hf it (by simp);exact wpAny_pyNext_range_end (I.ok.hd hc) st (by have:n<=i:=hg;omega) λh' eb=>⟨rfl,I.turned (t':=s.toks) (λb o hb e=>eb b o hb e) f0 f1 f3 f4 f5⟩
 self:=λ_ _ _ _ _ st h=>wpAny_pyIter_rangeiter st h
section
variable{X:Cx}{tg:Expr}
noncomputable def Fd(K:PySem.W.Frag)(tl:TE):TI:=λσ H R=>tl σ H λx H1=> ∃a,x= .ref a/\(∃xs,aZ K H1 a xs)/\R (Mu K a) H1
theorem eT{l:Expr}{tl:TE}(hl:PE X l tl):PI X tg l (Fd X.K tl):=by
 intro pins s σ H R I h;refine gD (hl pins s σ H _ I h) λv s1 ⟨x,H1,I1,r1,q1⟩=> ?_;obtain⟨a,e,⟨xs,hq⟩,q⟩:=q1;subst e;cases r1;obtain⟨its,rv,p,hz⟩:=I1.list hq;refine wpAny_pyIter_list p.isList ?_;refine⟨s1.heap.objs.size,[s1.heap.objs.size],_,_,H1,rfl,I1.kept (t':=s1.toks) λb o e=>Heap.get?_push_of_some _ e,GK a _,⟨_,Heap.get?_push_size _ rfl,rfl,rfl⟩,λb hb=> ?_,q⟩;have e:b=s1.heap.objs.size:=by simpa using hb
 subst e;exact I1.GJ (aav _) (I1.hok.fresh (aav _))
theorem AV{pins:List (Addr×Obj)}{σ:St}{H:Hp}{s:Shared}{R:It->Hp->Prop}{E:Value->Shared->Prop}{lo hi:Int}{t u v:Tok}{tk:Nat}(I:Inv X pins σ H s)(h1: -(2^62)<=lo)(h2:lo<2^62)(h3: -(2^62)<=hi)(h4:hi<2^62)
  (q:R (Mc lo (hi-lo).toNat) H):wpAny (model X.prog X.w) X.A (pyIter (.ref s.heap.objs.size)) (Xg X pins σ tg R) E {s with heap:=s.heap.push {cls:= .type "range",data:= .fields #[.int lo t,.int hi u,.int 1 v]},toks:=tk}:=by
 refine wpAny_pyIter_range (IsRange.new ..) (small_one h1 h2 h3 h4) ?_;have I1:Inv X pins σ H {s with heap:=s.heap.push {cls:= .type "range",data:= .fields #[.int lo t,.int hi u,.int 1 v]},toks:=tk}:=I.kept λb o e=>Heap.get?_push_of_some _ e;refine⟨(s.heap.push {cls:= .type "range",data:= .fields #[.int lo t,.int hi u,.int 1 v]}).objs.size,[(s.heap.push {cls:= .type "range",data:= .fields #[.int lo t,.int hi u,.int 1 v]}).objs.size],_,_,H,rfl,
  I1.kept (t':=tk) λb o e=>Heap.get?_push_of_some _ e,CU _ lo (hi-lo).toNat,?_,λb hb=> ?_,q⟩
 ·have e1:lo+((0:Nat):Int)*1=lo:=by simp
  have e2:(((hi-lo).toNat:Nat):Int) - ((0:Nat):Int)=Builtin.Range.rangeSize lo hi 1:=by rw[rangeSize_one];split<;>omega
  show IsRangeIter _ _ (lo+((0:Nat):Int)*1) ((((hi-lo).toNat:Nat):Int) - ((0:Nat):Int)) 1;rw[e1,e2];exact Heap.get?_push_size _ rfl
 ·have e:b=(s.heap.push {cls:= .type "range",data:= .fields #[.int lo t,.int hi u,.int 1 v]}).objs.size:=by simpa using hb
  subst e;exact I1.GJ (aav _) (I1.hok.fresh (aav _))
noncomputable def yz(ta:TA):TI:=λσ H R=>ta σ H λvs H1=> ∃j:Int,vs=[.int j]/\ -(2^62)<=j/\j<2^62/\R (Mc 0 j.toNat) H1
noncomputable def RS(ta:TA):TI:=λσ H R=>ta σ H λvs H1=> ∃i j:Int,vs=[.int i,.int j]/\(-(2^62)<=i/\i<2^62/\ -(2^62)<=j/\j<2^62)/\R (Mc i (j-i).toNat) H1
theorem dU{a:Expr}{ta:TA}{p pos:Pos}(hg:Gl X "range")(hm:X.mg "range"=none)(ha:PA X [a] ta)(hs:starEach [a] X.env=[(false,eval a X.env)]:=by rfl):PI X tg (.Call (.Name "range" p) [a] [] pos) (yz ta):=by
 intro pins s σ H R I h;refine Call_ (m8 I hg hm boot_range (abL (gD (ha pos pins s σ H _ I h) λus s1 ⟨vs,H1,I1,r1,q1⟩=> ?_) hs rfl));obtain⟨j,e,q1,q2,q⟩:=q1;subst e
 cases r1 with
 |cons r rr=>
  cases rr;obtain⟨t,rfl⟩:=r;exact call_range_1 (AV I1 (by omega) (by omega) q1 q2 (by simpa using q))
theorem yC{a b:Expr}{ta:TA}{p pos:Pos}(hg:Gl X "range")(hm:X.mg "range"=none)(ha:PA X [a,b] ta)(hs:starEach [a,b] X.env=[(false,eval a X.env),(false,eval b X.env)]:=by rfl)(hs2:starEach [b] X.env=[(false,eval b X.env)]:=by rfl):
  PI X tg (.Call (.Name "range" p) [a,b] [] pos) (RS ta):=by
 intro pins s σ H R I h;refine Call_ (m8 I hg hm boot_range (abL (gD (ha pos pins s σ H _ I h) λus s1 ⟨vs,H1,I1,r1,q1⟩=> ?_) (by rw[hs,hs2]) (by rw[hs2];rfl)));obtain⟨i,j,e,⟨q1,q2,q3,q4⟩,q⟩:=q1;subst e
 cases r1 with
 |cons r rr=>
  cases rr with
  |cons r' rr=>
   cases rr;obtain⟨t,rfl⟩:=r;obtain⟨t',rfl⟩:=r';exact call_range_2 (AV I1 q1 q2 q3 q4 q)
noncomputable def Vv(wi:TI)(g:TG)(tb:TS):TS:=λD σ H=>wi σ H λJ H1=> ∃W:Nat->Nat->St->Hp->Prop,(∃m,W 0 m σ H1)/\ ∀i m σ H,W i m σ H->
 (J.stop i H/\D.nx σ H)∨(J.go i H/\ ∃N:St->Hp->Prop,(∀σ' H',N σ' H'-> ∃m',m'<m/\W (i+1) m' σ' H')/\ ∀x H',J.AN i H x H'->g x σ H' λσ2 H2=>tb {D with nx:=N,ct:=N,bk:=D.nx} σ2 H2)
noncomputable def dG(fp:List Addr)(h:Heap):List (Addr×Obj):=fp.filterMap λb=>(h.get? b).map λo=>(b,o)
theorem cM{fp:List Addr}{h:Heap}{b:Addr}{o:Obj}(hb:b∈fp)(e:h.get? b=some o):(b,o)∈dG fp h:=List.mem_filterMap.mpr ⟨b,hb,by rw[e];rfl⟩
theorem j9{fp:List Addr}{h:Heap}{p:Addr×Obj}(hp:p∈dG fp h):p.1∈fp/\h.get? p.1=some p.2:=by
 obtain⟨b,hb,e⟩:=List.mem_filterMap.mp hp
 cases q:h.get? b with
 |none=>rw[q]at e;cases e
 |some o=>
  rw[q]at e;have e':(b,o)=p:=Option.some.inj e;subst e';exact⟨hb,q⟩
theorem Inv.pinned{pins:List (Addr×Obj)}{σ:St}{H:Hp}{s:Shared}{fp:List Addr}(I:Inv X pins σ H s)(hf:∀b∈fp,gb X pins H b)(ho:∀b∈fp,∃o,s.heap.get? b=some o/\ ∀v,o.data≠ .cell v):Inv X (pins++dG fp s.heap) σ H s:=
 I.j3 λp hp=>(aaE.mp hp).elim (λz=>I.pin p (aam _ z)) λz=>by
  obtain⟨hb,e⟩:=j9 z;obtain⟨f0,f1,f2,_⟩:=hf p.1 hb;obtain⟨o,e',d⟩:=ho p.1 hb;rw[e]at e';cases e';exact⟨e,f0,f1,f2,d⟩
theorem Inv.jn{pins pl:List (Addr×Obj)}{σ:St}{H:Hp}{s:Shared}(I:Inv X (pins++pl) σ H s):Inv X pins σ H s:=I.j3 λp hp=>I.pin p (aam _ (aa1 _ hp))
theorem iH{iter:Expr}{body:List Stmt}{wi:TI}{g:TG}{tb:TS}{pos:Pos}(hp:PassesOwn (model X.prog X.w) X.A X.env X.xe)(hc:X.calm=true)(hi:PI X tg iter wi)(hg:PG X tg g)(hb:zC X body tb)
  (hs:∀x,foldedSetIterable iter X.env x=pure x:=by intro _;rfl):PS X (.For tg iter body [] pos) (Vv wi g tb):=by
 intro pins s σ H D I h;refine wpAny_For (gD (hi pins s σ H _ I h) λv s1 h1=>gD h1 λitv s2 h2=> ?_) hs;obtain⟨it,fp,tn,J,H2,e,I2,T,st2,f2,W,⟨m0,w0⟩,turn⟩:=h2;subst e;have zD:∀{H':Hp},(∀b∈fp,H' b=none) -> ∀b∈fp,gb X pins H' b:=λhn b hb=>⟨hn b hb,(f2 b hb).2⟩;refine codeAny_forLoop_any (λn s'=> ∃i σ' H',Inv X pins σ' H' s'/\tn i s'.heap/\(∀b∈fp,H' b=none)/\W i n σ' H') ?_ m0 ⟨0,σ,H2,I2,st2,λb hb=>(f2 b hb).1,w0⟩;rintro n s3 ⟨i,σ3,H3,I3,st3,yD,w3⟩;rcases turn i n σ3 H3 w3 with⟨stop,qn⟩|⟨go,N,hN,step⟩
 ·refine wpAny_passesOwn hp (gD (T.done X rfl rfl rfl hc i pins s3 σ3 H3 X.xe I3 (zD yD) st3 stop) λr s4 ⟨hr,I4⟩=> ?_)
  subst hr;exact wpAny_execs_nil ⟨σ3,H3,I4,qn⟩
 ·refine wpAny_passesOwn hp (gD (T.item X rfl rfl rfl hc i pins s3 σ3 H3 X.xe I3 (zD yD) st3 go) λr s4 ⟨u,hr,h4⟩=> ?_)
  subst hr;refine wpAny_passesOwn hp (gD h4 λ_ s5 ⟨x,H5,I5,r5,y5,AW,Pj⟩=> ?_);have Pk:=I5.pinned (zD Pj) (T.obj _ _ AW);refine wpAny_passesOwn hp (gD (hg _ s5 σ3 H5 x u _ Pk r5 (step x H5 y5)) λ_ s6 ⟨Fe,H6,I6,q6⟩=> ?_);refine wpAny_passesOwn hp (gD (hb _ s6 Fe H6 _ I6 q6) λf s7 q7=> ?_);have again:∀{AO:St}{H7:Hp},Inv X (pins++dG fp s5.heap) AO H7 s7->N AO H7-> ∃m,m<n/\ ∃i σ' H',Inv X pins σ' H' s7/\tn i s7.heap/\(∀b∈fp,H' b=none)/\W i m σ' H':=λ {AO H7} I7 n7=>by
   obtain⟨m',hm,w7⟩:=hN AO H7 n7;refine⟨m',hm,i+1,AO,H7,I7.jn,T.keep _ _ _ AW λb hb o e=>(I7.pin (b,o) (aam _ (aam _ (cM hb e)))).1,λb hb=> ?_,w7⟩;obtain⟨o,e,d⟩:=T.obj _ _ AW b hb;exact(I7.pin (b,o) (aam _ (aam _ (cM hb e)))).2.1
  cases f with
  |next=>obtain⟨AO,H7,I7,n7⟩:=q7;exact again I7 n7
  |cont=>obtain⟨AO,H7,I7,n7⟩:=q7;exact again I7 n7
  |brk=>obtain⟨AO,H7,I7,q7⟩:=q7;exact⟨AO,H7,I7.jn,q7⟩
  |ret v=>obtain⟨x7,AO,H7,I7,r7,q7⟩:=q7;exact⟨x7,AO,H7,I7.jn,r7,q7⟩
end
theorem mD{K:PySem.W.Frag}{a:Addr}{xs:List V}{g:TG}{tb:TS}{D:Ends}{σ:St}{H:Hp}(Pv:Nat->St->Hp->Prop)(h0:Pv 0 σ H)(hl:∀i σ H,i<=xs.length->Pv i σ H->aZ K H a xs)
  (hs:∀i x σ H,xs[i]?=some x->Pv i σ H->g x σ H λσ2 H2=>tb {D with nx:=Pv (i+1),ct:=Pv (i+1),bk:=D.nx} σ2 H2)(hd:∀σ H,Pv xs.length σ H->D.nx σ H):
  ∃W:Nat->Nat->St->Hp->Prop,(∃m,W 0 m σ H)/\ ∀i m σ H,W i m σ H->
   ((Mu K a).stop i H/\D.nx σ H)∨((Mu K a).go i H/\ ∃N:St->Hp->Prop,(∀σ' H',N σ' H'-> ∃m',m'<m/\W (i+1) m' σ' H')/\ ∀x H',(Mu K a).AN i H x H'->g x σ H' λσ2 H2=>tb {D with nx:=N,ct:=N,bk:=D.nx} σ2 H2):=by
 refine⟨λi m σ H=>m=xs.length-i/\i<=xs.length/\Pv i σ H,⟨xs.length,by simp,aa3 _,h0⟩,?_⟩;rintro i m σ H ⟨rfl,hi,p⟩;have q:=hl i σ H hi p
 by_cases hlt:i<xs.length
 ·refine .inr ⟨⟨xs,xs[i],q,by simp[hlt]⟩,Pv (i+1),λσ' H' p'=>⟨xs.length- (i+1),by omega,rfl,hlt,p'⟩,λx H' y=> ?_⟩
  obtain⟨e,y⟩:=y;subst e;exact hs i x σ _ (y xs q) p
 ·have e:i=xs.length:=by omega
  subst e;exact .inl ⟨⟨xs,q,aav _⟩,hd σ H p⟩
theorem iE{lo:Int}{n:Nat}{g:TG}{tb:TS}{D:Ends}{σ:St}{H:Hp}(Pv:Nat->St->Hp->Prop)(h0:Pv 0 σ H)
  (hs:∀i σ H,i<n->Pv i σ H->g (.int (lo+i)) σ H λσ2 H2=>tb {D with nx:=Pv (i+1),ct:=Pv (i+1),bk:=D.nx} σ2 H2)(hd:∀σ H,Pv n σ H->D.nx σ H):
  ∃W:Nat->Nat->St->Hp->Prop,(∃m,W 0 m σ H)/\ ∀i m σ H,W i m σ H->
   ((Mc lo n).stop i H/\D.nx σ H)∨((Mc lo n).go i H/\ ∃N:St->Hp->Prop,(∀σ' H',N σ' H'-> ∃m',m'<m/\W (i+1) m' σ' H')/\ ∀x H',(Mc lo n).AN i H x H'->g x σ H' λσ2 H2=>tb {D with nx:=N,ct:=N,bk:=D.nx} σ2 H2):=by
 refine⟨λi m σ H=>m=n-i/\i<=n/\Pv i σ H,⟨n,by simp,aa3 _,h0⟩,?_⟩;rintro i m σ H ⟨rfl,hi,p⟩
 by_cases hlt:i<n
 ·refine .inr ⟨hlt,Pv (i+1),λσ' H' p'=>⟨n- (i+1),by omega,rfl,hlt,p'⟩,λx H' y=> ?_⟩
  obtain⟨e,y⟩:=y;subst e y;exact hs i σ _ hlt p
 ·have e:i=n:=by omega
  subst e;exact .inl ⟨aav _,hd σ H p⟩
theorem v5{c:TT}{tb:TS}{D:Ends}{σ:St}{H:Hp}(Pv:St->Hp->Prop)(μ:St->Hp->Nat)(h0:Pv σ H)
  (hs:∀σ H,Pv σ H->c σ H λb H1=>if b=true then tb {D with nx:=λσ' H'=>Pv σ' H'/\μ σ' H'<μ σ H,ct:=λσ' H'=>Pv σ' H'/\μ σ' H'<μ σ H,bk:=D.nx} σ H1 else D.nx σ H1)
  (mono:∀σ H Q Q',(∀b H1,Q b H1->Q' b H1) ->c σ H Q->c σ H Q'):Jb c tb D σ H:=by
 refine⟨λm σ H=>m=μ σ H/\Pv σ H,⟨_,rfl,h0⟩,?_⟩;rintro m σ H ⟨rfl,p⟩;refine mono σ H _ _ (λb H1 q=> ?_) (hs σ H p)
 cases b with
 |true=>exact⟨_,λσ' H' ⟨p',l⟩=>⟨_,l,rfl,p'⟩,q⟩
 |false=>exact q
noncomputable abbrev R2:=V->V->Hp->VK->Prop
noncomputable def r6(X:Cx)(f:Value->Value->Sem Value)(r:R2):Prop:=
 ∀(pins:List (Addr×Obj))(s:Shared)(σ:St)(H:Hp)(x y:V)(v u:Value)(Q:VK),Inv X pins σ H s->RelV x v->RelV y u->r x y H Q->
  wpAny (model X.prog X.w) X.A (f v u) (EP X pins σ Q) X.xe s
noncomputable def Vw(X:Cx)(f:Value->Sem Value)(r:V->Hp->VK->Prop):Prop:=
 ∀(pins:List (Addr×Obj))(s:Shared)(σ:St)(H:Hp)(x:V)(v:Value)(Q:VK),Inv X pins σ H s->RelV x v->r x H Q->
  wpAny (model X.prog X.w) X.A (f v) (EP X pins σ Q) X.xe s
noncomputable def pQ(X:Cx)(f:Value)(r:List V->Hp->VK->Prop):Prop:=
 ∀(pins:List (Addr×Obj))(s:Shared)(σ:St)(H:Hp)(xs:List V)(us:List Value)(Q:VK),Inv X pins σ H s->Vals xs us->r xs H Q->
  wpAny (model X.prog X.w) X.A (call f us) (EP X pins σ Q) X.xe s
noncomputable def ku(r:R2)(ta tb:TE):TE:=λσ H Q=>ta σ H λx H1=>tb σ H1 λy H2=>r x y H2 Q
noncomputable def YR(r:V->Hp->VK->Prop)(ta:TE):TE:=λσ H Q=>ta σ H λx H1=>r x H1 Q
inductive ZI(C:Int->Int->Prop)(g:Int->Int->V)(x y:V)(H:Hp)(Q:VK):Prop
 |mk(i j:Int)(ex:x= .int i)(ey:y= .int j)(c:C i j)(q:Q (g i j) H)
noncomputable def rI(C:Int->Int->Prop)(g:Int->Int->V):R2:=ZI C g
inductive YS(g:Int->Int->V)(x y:V)(H:Hp)(Q:VK):Prop
 |mk(i j:Int)(ex:x= .int i)(ey:y= .int j)(q:Q (g i j) H)
noncomputable def GL(g:Int->Int->V):R2:=YS g
inductive ZU(g:Int->V)(x:V)(H:Hp)(Q:VK):Prop
 |mk(i:Int)(ex:x= .int i)(q:Q (g i) H)
noncomputable def rU(g:Int->V):V->Hp->VK->Prop:=ZU g
section
variable{X:Cx}{a b c:Expr}{ta tb tc:TE}{pos:Pos}
theorem Pn(ha:PE X a ta)(hb:PE X b tb){pins:List (Addr×Obj)}{s:Shared}{σ:St}{H:Hp}{R:V->V->Hp->Prop}(I:Inv X pins σ H s)
  (h:ta σ H λx H1=>tb σ H1 λy H2=>R x y H2){Q:Value->Shared->Prop}{f:Value->Value->Sem Value}
  (hf:∀v u s2 x y H2,Inv X pins σ H2 s2->RelV x v->RelV y u->R x y H2->wpAny (model X.prog X.w) X.A (f v u) Q X.xe s2):
  wpAny (model X.prog X.w) X.A (eval a X.env) (λv s₁=>wpAny (model X.prog X.w) X.A (eval b X.env) (λu s₂=>wpAny (model X.prog X.w) X.A (f v u) Q X.xe s₂) X.xe s₁) X.xe s:=by
 refine gD (ha pins s σ H _ I h) λv s1 ⟨x,H1,I1,r1,q1⟩=> ?_;refine gD (hb pins s1 σ H1 _ I1 q1) λu s2 ⟨y,H2,I2,r2,q2⟩=> ?_;exact hf v u s2 x y H2 I2 r1 r2 q2
theorem av{op:Operator}{r:R2}(ho:r6 X (binaryOp op) r)(ha:PE X a ta)(hb:PE X b tb):PE X (.BinOp a op b pos) (ku r ta tb):=by
 intro pins s σ H Q I h;exact wpAny_BinOp (Pn ha hb I h λv u s2 x y H2 I2 rx ry q=>ho pins s2 σ H2 x y v u Q I2 rx ry q)
theorem AX{op:UnaryOp}{r:V->Hp->VK->Prop}(ho:Vw X (unaryOp op) r)(ha:PE X a ta):PE X (.UnaryOp op a pos) (YR r ta):=by
 intro pins s σ H Q I h;exact UnaryOp_ (gD (ha pins s σ H _ I h) λv s1 ⟨x,H1,I1,r1,q1⟩=>ho pins s1 σ H1 x v Q I1 r1 q1)
theorem Pq{f:Value->Value->Sem Value}{C:Int->Int->Prop}{g:Int->Int->Int}
  (rule:∀(i j:Int)(t u:Tok)(s:Shared)(Q:Value->Shared->Prop)(E:Value->Shared->Prop),C i j->Q (.int (g i j) s.toks) {s with toks:=s.toks+1} ->wpAny (model X.prog X.w) X.A (f (.int i t) (.int j u)) Q E s):
  r6 X f (rI C λi j=> .int (g i j)):=by
 intro pins s σ H x y v u Q I rx ry h;obtain⟨i,j,rfl,rfl,hc,q⟩:=h;obtain⟨t,rfl⟩:=rx;obtain⟨t',rfl⟩:=ry;exact rule i j t t' s _ _ hc ⟨.int (g i j),H,I.tok _,⟨_,rfl⟩,q⟩
theorem RT{f:Value->Value->Sem Value}{g:Int->Int->Int}
  (rule:∀(i j:Int)(t u:Tok)(s:Shared)(Q:Value->Shared->Prop)(E:Value->Shared->Prop),Q (.int (g i j) s.toks) {s with toks:=s.toks+1} ->wpAny (model X.prog X.w) X.A (f (.int i t) (.int j u)) Q E s):
  r6 X f (GL λi j=> .int (g i j)):=by
 intro pins s σ H x y v u Q I rx ry h;obtain⟨i,j,rfl,rfl,q⟩:=h;obtain⟨t,rfl⟩:=rx;obtain⟨t',rfl⟩:=ry;exact rule i j t t' s _ _ ⟨.int (g i j),H,I.tok _,⟨_,rfl⟩,q⟩
theorem Mv{f:Value->Value->Sem Value}{g:Int->Int->Bool}
  (rule:∀(i j:Int)(t u:Tok)(s:Shared)(Q:Value->Shared->Prop)(E:Value->Shared->Prop),Q (.bool (g i j)) s->wpAny (model X.prog X.w) X.A (f (.int i t) (.int j u)) Q E s):
  r6 X f (GL λi j=> .bl (g i j)):=by
 intro pins s σ H x y v u Q I rx ry h;obtain⟨i,j,rfl,rfl,q⟩:=h;obtain⟨t,rfl⟩:=rx;obtain⟨t',rfl⟩:=ry;exact rule i j t t' s _ _ ⟨.bl (g i j),H,I,rfl,q⟩
noncomputable def RU(i j:Int):Prop:=0<j/\j<1073741824
noncomputable def RV(i j:Int):Prop:=0<=j/\j<=1000000/\i.natAbs<2^64
noncomputable def Pr(i j:Int):Prop:=(-(2^64)<i/\i<2^64)∨(-(2^64)<j/\j<2^64)
theorem Pr.ok{i j:Int}(h:Pr i j):IntMulOk i j:=by
 rcases h with⟨h1,h2⟩|⟨h1,h2⟩
 ·exact .of_left (intBits_le_64 h1 h2)
 ·exact .of_right (intBits_le_64 h1 h2)
theorem ck:r6 X (binaryOp .Add) (GL λi j=> .int (i+j)):=RT λ_ _ _ _ _ _ _ q=>add_int q
theorem d9:r6 X (binaryOp .Sub) (GL λi j=> .int (i-j)):=RT λ_ _ _ _ _ _ _ q=>sub_int q
theorem jA:r6 X (binaryOp .Mult) (rI Pr λi j=> .int (i*j)):=Pq λ_ _ _ _ _ _ _ hc q=>mul_int q hc.ok
theorem fP:r6 X (binaryOp .FloorDiv) (rI RU λi j=> .int (i/j)):=Pq λi j _ _ _ _ _ hc q=>by
 have h1:(0:Int)<j:=hc.1;have h2:j<1073741824:=hc.2;exact floordiv_int (by omega) (by rw[acW i (by omega)];exact q) (.inl (PyProof.noPylong_small (by omega)))
theorem iY:r6 X (binaryOp .Mod) (rI (λ_ j=>0<j) λi j=> .int (i%j)):=Pq λi j _ _ _ _ _ hc q=>by
 have h1:(0:Int)<j:=hc;exact mod_int' (by omega) (by rw[Int.fmod_eq_emod_of_nonneg i (by omega)];exact q)
theorem Jc:r6 X (binaryOp .Pow) (rI RV λi j=> .int (i^j.toNat)):=Pq λ_ _ _ _ _ _ _ hc q=>pow_int_small hc.1 hc.2.1 hc.2.2 q
theorem Pu:r6 X (binaryOp .LShift) (rI RV λi j=> .int (i*2^j.toNat)):=Pq λ_ _ _ _ _ _ _ hc q=>lshift_int_small hc.1 hc.2.1 hc.2.2 q
theorem YT{f:Value->Sem Value}{g:Int->Int}
  (rule:∀(i:Int)(t:Tok)(s:Shared)(Q:Value->Shared->Prop)(E:Value->Shared->Prop),Q (.int (g i) s.toks) {s with toks:=s.toks+1} ->wpAny (model X.prog X.w) X.A (f (.int i t)) Q E s):
  Vw X f (rU λi=> .int (g i)):=by
 intro pins s σ H x v Q I rx h;obtain⟨i,rfl,q⟩:=h;obtain⟨t,rfl⟩:=rx;exact rule i t s _ _ ⟨.int (g i),H,I.tok _,⟨_,rfl⟩,q⟩
theorem v7:Vw X (unaryOp .USub) (rU λi=> .int (-i)):=YT λ_ _ _ _ _ q=>neg_int q
end
noncomputable def RW:V->V->Bool
 | .gF,.gF=>true| .gF,.int _=>true| .int _,.gF=>true| .gF,.bl _=>true| .bl _,.gF=>true| .gF,.str _=>true| .str _,.gF=>true
 | .int _,.int _=>true| .bl _,.bl _=>true| .str _,.str _=>true| .IQ _,.IQ _=>true
 | .int _,.str _=>true| .str _,.int _=>true| .bl _,.str _=>true| .str _,.bl _=>true
 |_,_=>false
noncomputable def Xh:R2:=λx y H Q=>RW x y=true/\Q (.bl (decide (x=y))) H
noncomputable def YU:R2:=λx y H Q=>RW x y=true/\Q (.bl (!decide (x=y))) H
theorem Ff{i j:Int}:decide (V.int i=V.int j)=(i==j):=by
 rw[acq];simp
theorem Jd{i j:Bool}:decide (V.bl i=V.bl j)=(i==j):=by
 rw[acq];simp
theorem Fg{i j:Str}:decide (V.str i=V.str j)=(i==j):=by
 rw[acq];simp
theorem Fi{i j:Array UInt8}:decide (V.IQ i=V.IQ j)=(i.toList==j.toList):=by
 rw[acq];cases i;cases j;simp
section
variable{X:Cx}{a b c:Expr}{ta tb tc:TE}{pos:Pos}
theorem cW{pins:List (Addr×Obj)}{σ:St}{H:Hp}{s:Shared}{Q:VK}{k k':Bool}(I:Inv X pins σ H s)(q:Q (.bl k) H)(e:k=k'):EP X pins σ Q (.bool k') s:=by
 subst e;exact⟨.bl k,H,I,rfl,q⟩
theorem AY:r6 X (compareOp .Eq) Xh:=by
 intro pins s σ H x y v u Q I rx ry h;obtain⟨hs,q⟩:=h
 cases x with
 |gF=>
  cases rx
  cases y with
  |gF=>cases ry;exact PySem.EqNone.eq_none_none (cW I q (by simp))
  |bl j=>cases ry;exact PySem.EqNone.eq_none_bool (cW I q (by simp))
  |int j=>obtain⟨t',rfl⟩:=ry;exact PySem.EqNone.eq_none_int (cW I q (by simp))
  |str j=>obtain⟨t',rfl⟩:=ry;exact PySem.EqNone.eq_none_str (cW I q (by simp))
  |_=>exact absurd (show false=true from hs) aaw
 |bl i=>
  cases rx
  cases y with
  |gF=>cases ry;exact PySem.EqNone.eq_bool_none (cW I q (by simp))
  |bl j=>cases ry;exact eq_bool (cW I q Jd)
  |str j=>obtain⟨t',rfl⟩:=ry;exact PySem.EqMixed.eq_bool_str (cW I q (by simp))
  |_=>exact absurd (show false=true from hs) aaw
 |int i=>
  obtain⟨t,rfl⟩:=rx
  cases y with
  |gF=>cases ry;exact PySem.EqNone.eq_int_none (cW I q (by simp))
  |int j=>obtain⟨t',rfl⟩:=ry;exact eq_int (cW I q Ff)
  |str j=>obtain⟨t',rfl⟩:=ry;exact PySem.EqMixed.eq_int_str (cW I q (by simp))
  |_=>exact absurd (show false=true from hs) aaw
 |str i=>
  obtain⟨t,rfl⟩:=rx
  cases y with
  |gF=>cases ry;exact PySem.EqNone.eq_str_none (cW I q (by simp))
  |bl j=>cases ry;exact PySem.EqMixed.eq_str_bool (cW I q (by simp))
  |int j=>obtain⟨t',rfl⟩:=ry;exact PySem.EqMixed.eq_str_int (cW I q (by simp))
  |str j=>obtain⟨t',rfl⟩:=ry;exact eq_str (cW I q Fg)
  |_=>exact absurd (show false=true from hs) aaw
 |IQ i=>
  obtain⟨t,rfl⟩:=rx
  cases y with
  |IQ j=>obtain⟨t',rfl⟩:=ry;exact PySem.W.eq_bytes (cW I q Fi)
  |_=>exact absurd (show false=true from hs) aaw
 |_=>cases y<;>exact absurd (show false=true from hs) aaw
theorem Fj:r6 X (compareOp .NotEq) YU:=by
 intro pins s σ H x y v u Q I rx ry h;obtain⟨hs,q⟩:=h
 cases x with
 |gF=>
  cases rx
  cases y with
  |gF=>cases ry;exact PySem.EqNone.ne_none_none (cW I q (by simp))
  |bl j=>cases ry;exact PySem.EqNone.ne_none_bool (cW I q (by simp))
  |int j=>obtain⟨t',rfl⟩:=ry;exact PySem.EqNone.ne_none_int (cW I q (by simp))
  |str j=>obtain⟨t',rfl⟩:=ry;exact PySem.EqNone.ne_none_str (cW I q (by simp))
  |_=>exact absurd (show false=true from hs) aaw
 |bl i=>
  cases rx
  cases y with
  |gF=>cases ry;exact PySem.EqNone.ne_bool_none (cW I q (by simp))
  |bl j=>cases ry;exact ne_bool (cW I q (congrArg not Jd))
  |str j=>obtain⟨t',rfl⟩:=ry;exact PySem.EqMixed.ne_bool_str (cW I q (by simp))
  |_=>exact absurd (show false=true from hs) aaw
 |int i=>
  obtain⟨t,rfl⟩:=rx
  cases y with
  |gF=>cases ry;exact PySem.EqNone.ne_int_none (cW I q (by simp))
  |int j=>obtain⟨t',rfl⟩:=ry;exact ne_int (cW I q (congrArg not Ff))
  |str j=>obtain⟨t',rfl⟩:=ry;exact PySem.EqMixed.ne_int_str (cW I q (by simp))
  |_=>exact absurd (show false=true from hs) aaw
 |str i=>
  obtain⟨t,rfl⟩:=rx
  cases y with
  |gF=>cases ry;exact PySem.EqNone.ne_str_none (cW I q (by simp))
  |bl j=>cases ry;exact PySem.EqMixed.ne_str_bool (cW I q (by simp))
  |int j=>obtain⟨t',rfl⟩:=ry;exact PySem.EqMixed.ne_str_int (cW I q (by simp))
  |str j=>obtain⟨t',rfl⟩:=ry;exact ne_str (cW I q (congrArg not Fg))
  |_=>exact absurd (show false=true from hs) aaw
 |IQ i=>
  obtain⟨t,rfl⟩:=rx
  cases y with
  |IQ j=>obtain⟨t',rfl⟩:=ry;exact PySem.W.ne_bytes (cW I q (congrArg not Fi))
  |_=>exact absurd (show false=true from hs) aaw
 |_=>cases y<;>exact absurd (show false=true from hs) aaw
theorem RX:r6 X (compareOp .Lt) (GL λi j=> .bl (decide (i<j))):=Mv λ_ _ _ _ _ _ _ q=>lt_int q
theorem Fl:r6 X (compareOp .LtE) (GL λi j=> .bl (decide (i<=j))):=Mv λ_ _ _ _ _ _ _ q=>le_int q
theorem uA:r6 X (compareOp .Gt) (GL λi j=> .bl (decide (j<i))):=Mv λ_ _ _ _ _ _ _ q=>gt_int q
theorem Je:r6 X (compareOp .GtE) (GL λi j=> .bl (decide (j<=i))):=Mv λ_ _ _ _ _ _ _ q=>ge_int q
theorem Jf:r6 X (compareOp .Is) (λx y H Q=>y= .gF/\Q (.bl (decide (x= .gF))) H):=by
 intro pins s σ H x y v u Q I rx ry h;obtain⟨rfl,q⟩:=h;cases ry;refine is_none_gen (cW I q ?_);cases x<;>first
  |(cases rx;rfl)
  |(obtain⟨t,rfl⟩:=rx;rfl)
theorem Mw:r6 X (compareOp .IsNot) (λx y H Q=>y= .gF/\Q (.bl (!decide (x= .gF))) H):=by
 intro pins s σ H x y v u Q I rx ry h;obtain⟨rfl,q⟩:=h;cases ry;refine isnot_none_gen (cW I q ?_);cases x<;>first
  |(cases rx;rfl)
  |(obtain⟨t,rfl⟩:=rx;rfl)
theorem cP(b:Expr){op:CmpOp}(h:op≠ .In:=by decide)(h2:op≠ .NotIn:=by decide):behindInMarks op b=false:=by
 have e1:(op==CmpOp.In)=false:=by cases op<;>first|rfl|exact absurd rfl h
 have e2:(op==CmpOp.NotIn)=false:=by cases op<;>first|rfl|exact absurd rfl h2
 cases b<;>simp[behindInMarks,e1,e2]
theorem lF{op:CmpOp}{r:R2}(ho:r6 X (compareOp op) r)(ha:PE X a ta)(hb:PE X b tb)(hm:behindInMarks op b=false):PE X (.Compare a [op] [b] pos) (ku r ta tb):=by
 intro pins s σ H Q I h;exact wpAny_Compare1 (Pn ha hb I h λv u s2 x y H2 I2 rx ry q=>ho pins s2 σ H2 x y v u Q I2 rx ry q) hm
noncomputable def RY(t:TE):TT:=λσ H Q=>t σ H λx H1=>Xe x λc=>Q c H1
theorem cQ{op:CmpOp}{r:R2}(ho:r6 X (compareOp op) r)(ha:PE X a ta)(hb:PE X b tb)(hm:behindInMarks op b=false):PT X (.Compare a [op] [b] pos) (RY (ku r ta tb)):=by
 intro pins s σ H Q I h;refine wpAny_isTrue_Compare1 (gD (ha pins s σ H _ I h) λv s1 ⟨x,H1,I1,r1,q1⟩=>gD (hb pins s1 σ H1 _ I1 q1) λu s2 ⟨y,H2,I2,r2,q2⟩=>
  gD (ho pins s2 σ H2 x y v u _ I2 r1 r2 q2) λc s3 ⟨z,H3,I3,r3,k,e,q3⟩=> ?_) hm
 subst e;cases r3;exact wpAny_truthy_bool ⟨H3,I3,q3⟩
theorem zE:(sizeLine:Nat)<2^63:=by rw[sizeLine_eq];decide
theorem vals1{x:V}{us:List Value}(r:Vals [x] us):∃u,us=[u]/\RelV x u:=by
 cases r with
 |cons r1 r2=>cases r2;exact⟨_,rfl,r1⟩
theorem vals2{x y:V}{us:List Value}(r:Vals [x,y] us):∃u w',us=[u,w']/\RelV x u/\RelV y w':=by
 cases r with
 |cons r1 r2=>
  cases r2 with
  |cons r3 r4=>cases r4;exact⟨_,_,rfl,r1,r3⟩
theorem v8:pQ X (.builtin "abs") (λxs H Q=> ∃i,xs=[.int i]/\Q (.int (if i<0 then-i else i)) H):=by
 intro pins s σ H xs us Q I r h;obtain⟨i,rfl,q⟩:=h;obtain⟨u,rfl,t,rfl⟩:=vals1 r;exact call_abs_int λu tk=>⟨.int (if i<0 then-i else i),H,I.tok _,⟨_,rfl⟩,q⟩
theorem GN(hc:X.calm=true):pQ X (.builtin "max") (λxs H Q=> ∃i j,xs=[.int i,.int j]/\Q (.int (if j>i then j else i)) H):=by
 intro pins s σ H xs us Q I r h;obtain⟨i,j,rfl,q⟩:=h;obtain⟨u,w',rfl,⟨t,rfl⟩,⟨t',rfl⟩⟩:=vals2 r;refine max_two_ints (I.ok.hd hc) λh' tk k=>⟨_,H,I.kept k,?_,q⟩
 by_cases hj:j>i
 ·rw[if_pos hj,if_pos hj];exact⟨_,rfl⟩
 ·rw[if_neg hj,if_neg hj];exact⟨_,rfl⟩
theorem GO(hc:X.calm=true):pQ X (.builtin "min") (λxs H Q=> ∃i j,xs=[.int i,.int j]/\Q (.int (if j<i then j else i)) H):=by
 intro pins s σ H xs us Q I r h;obtain⟨i,j,rfl,q⟩:=h;obtain⟨u,w',rfl,⟨t,rfl⟩,⟨t',rfl⟩⟩:=vals2 r;refine min_two_ints (I.ok.hd hc) λh' tk k=>⟨_,H,I.kept k,?_,q⟩
 by_cases hj:j<i
 ·rw[if_pos hj,if_pos hj];exact⟨_,rfl⟩
 ·rw[if_neg hj,if_neg hj];exact⟨_,rfl⟩
theorem GP:pQ X (.type "int") (λxs H Q=>(∃i,xs=[.int i]/\Q (.int i) H)∨ ∃k,xs=[.bl k]/\Q (.int (if k then 1 else 0)) H):=by
 intro pins s σ H xs us Q I r h;rcases h with⟨i,rfl,q⟩|⟨k,rfl,q⟩
 ·obtain⟨u,rfl,t,rfl⟩:=vals1 r
  exact call_int_int ⟨.int i,H,I,⟨_,rfl⟩,q⟩
 ·obtain⟨u,rfl,r1⟩:=vals1 r
  cases r1;exact call_int_bool ⟨.int (if k then 1 else 0),H,I.tok _,⟨_,rfl⟩,q⟩
end
structure Pw(h:Heap)(x dx C:Addr)(mA:Str->Option Value):Prop where
 obj:h.get? x=some (adA C dx)
 ns:h.Ns1 dx mA
 ne:dx≠x
theorem GQ{h:Heap}{dx:Addr}{mA:Str->Option Value}(n:h.Ns1 dx mA):∃od,h.get? dx=some od/\ ∀name,adL name od=some (mA name):=by
 obtain⟨o,es,ep,ho,hd,hk,_,hm⟩:=n;refine⟨o,ho,λname=> ?_⟩;have e:=hm name;unfold nsFind findBy at e;rw[<-Array.find?_toList]at e;unfold adL;rw[hd];dsimp only
 split
 ·rename_i y q
  rw[q]at e;exact congrArg some e
 ·rename_i q
  rw[q]at e;have a:es.toList.any (·.refKey)=false:=by
   rw[List.any_eq_false];intro y hy;obtain⟨z,t,hkey⟩:=hk y (Array.mem_toList_iff.mp hy);simp[DictEntry.refKey,hkey]
  have a':¬es.toList.any (·.refKey)=true:=by rw[a];exact aaw
  rw[if_neg a'];exact congrArg some e
theorem Pw.look{h:Heap}{x dx C:Addr}{mA:Str->Option Value}(I:Pw h x dx C mA):∃od,PySem.W.InstAt h x (adA C dx) C (some od)/\ ∀name,adL name od=some (mA name):=
 let⟨od,ho,hl⟩:=GQ I.ns
 ⟨od,⟨I.obj,rfl,rfl,ho⟩,hl⟩
section
variable{prog:Program}{w:World}{A:Around}{E:Value->Shared->Prop}{s:Shared}{K:PySem.W.Frag}{x dx C f:Addr}{mA:Str->Option Value}{name:Str}{v:Value}
end
section
variable{P:Program}{w:World}{H H':Hp}{h h':Heap}{a C dx:Addr}{fs fs':List (Str×V)}
theorem Mx(hok:vF P w H h)(e:H a=some (.ins C dx fs)):∃mA,Pw h a dx C mA/\(∀f,OX (fs.lookup f) (mA f))/\PySem.Within mA (fs.map (·.1))/\fs.length<=1000/\H dx=some (.own a):=by
 obtain⟨d,z,ne,ob,mA,n,r,q⟩:=(show f6 P w H h a (.ins C dx fs)from hok a _ e);exact⟨mA,⟨ob,n,ne⟩,r,q,z,d⟩
end
structure Vx(K:PySem.W.Frag)(C:Addr):Prop where
 pg:ad9 K C Str.empty=true
 hd:PySem.W.hasDictIn K C=true
 po:PySem.W.plainOver K C=true
 sa:PySem.W.findIn K (.ref C) "__setattr__"=some (some (.builtin "object.__setattr__"))
theorem Vx.get{K:PySem.W.Frag}{C:Addr}(c:Vx K C)(f:Str):ad9 K C f=true:=c.pg
section
variable{X:Cx}{pins:List (Addr×Obj)}{σ:St}{H:Hp}{s:Shared}{a C dx:Addr}{fs:List (Str×V)}{f:Str}{v:V}{A:Around}{E:Value->Shared->Prop}
end
section
variable{X:Cx}{o e value:Expr}{f:Str}{pos pos' tpos:Pos}{ta tv:TE}
end
section
variable{X:Cx}{pins:List (Addr×Obj)}{σ:St}{H:Hp}{s:Shared}{A:Around}{E:Value->Shared->Prop}{Q:Value->Shared->Prop}{c:Value}{b:Bool}
inductive qV(K:PySem.W.Frag)(H:Hp):V->Value->Prop where
 |gF:qV K H .gF (.type "NoneType")
 |bl(x:Bool):qV K H (.bl x) (.type "bool")
 |int(i:Int):qV K H (.int i) (.type "int")
 |str(x:Str):qV K H (.str x) (.type "str")
 |QZ(x:UInt64):qV K H (.QZ x) (.type "float")
 |lst{a:Addr}{xs:List V}(e:H a=some (.lst xs)):qV K H (.ref a) (.type "list")
 |zA{a:Addr}{o:Obj}{xs:List V}(e:H a=some (.zA o (.lst xs))):qV K H (.ref a) (.type "list")
 |tup{a:Addr}{xs:List V}(e:H a=some (.tup xs)):qV K H (.ref a) (.type "tuple")
 |dK{a:Addr}{kvs:List (Key×V)}(e:H a=some (.dK kvs)):qV K H (.ref a) (.type "dict")
 |dT{a:Addr}{kvs:List (List Key×V)}(e:H a=some (.dT kvs)):qV K H (.ref a) (.type "dict")
 |ins{a C dx:Addr}{fs:List (Str×V)}(e:H a=some (.ins C dx fs))(cl:Vx K C)(ha:PySem.W.findIn K (.ref C) "__class__"=some (some (.builtin "object.__class__")))
   (hn:PySem.W.specialIn K (.builtin "object.__class__") "__get__"=some (some (.builtin "getset_descriptor.__get__"))) (htk:PySem.W.takesIn K (.builtin "object.__class__")=some true)
   (hm:PySem.W.mroIn K C (.type "object")=some true):qV K H (.ref a) (.ref C)
theorem GR{x:V}{u t:Value}(I:Inv X pins σ H s)(rx:RelV x u)(ty:qV X.K H x t)(e:acf X.K t c=some b)(h:∀tk,Q (.bool b) {s with toks:=tk}):
  wpAny (model X.prog X.w) A (call (.builtin "isinstance") [u,c]) Q E s:=by
 cases ty with
 |gF=>cases(show u=Value.none from rx);exact abf PySem.W.kitx_none I.zB True.intro e (λz=>nomatch z) h
 |bl y=>cases(show u=Value.bool y from rx);exact abf PySem.W.kitx_bool I.zB True.intro e (λz=>nomatch z) h
 |int i=>obtain⟨t,q⟩:=(show ∃t,u=Value.int i t from rx);cases q;exact abf PySem.W.kitx_int I.zB True.intro e (λz=>nomatch z) h
 |str y=>obtain⟨t,q⟩:=(show ∃t,u=Value.str y t from rx);cases q;exact abf PySem.W.kitx_str I.zB True.intro e (λz=>nomatch z) h
 |QZ y=>obtain⟨t,q⟩:=(show ∃t,u=Value.float y t from rx);cases q;exact abf PySem.W.kitx_float I.zB True.intro e (λz=>nomatch z) h
 | @lst a xs ea=>
  cases(show u=Value.ref a from rx);obtain⟨_,_,n,_,h1⟩:=(show f6 X.prog X.w H s.heap a (.lst xs)from I.hok a _ ea);exact abf ad3 I.zB ⟨_,h1,rfl⟩ e (λz=>nomatch z) h
 | @zA a ob xs ea=>
  cases(show u=Value.ref a from rx);obtain⟨_,_,_,n,_,h1⟩:=(show f6 X.prog X.w H s.heap a (.zA ob (.lst xs))from I.hok a _ ea);exact abf ad3 I.zB ⟨_,h1,rfl⟩ e (λz=>nomatch z) h
 | @tup a xs ea=>
  cases(show u=Value.ref a from rx);obtain⟨_,_,_,p⟩:=(show f6 X.prog X.w H s.heap a (.tup xs)from I.hok a _ ea);obtain⟨o,h1,h2,_⟩:=p;exact abf PySem.W.kitx_tuple I.zB ⟨o,h1,h2⟩ e (λz=>nomatch z) h
 | @dK a kvs ea=>
  cases(show u=Value.ref a from rx);obtain⟨_,_,vs,_,p⟩:=(show f6 X.prog X.w H s.heap a (.dK kvs)from I.hok a _ ea);obtain⟨o,es,ep,h1,h2,_⟩:=p;exact abf ad4 I.zB ⟨o,h1,h2.1⟩ e (λz=>nomatch z) h
 | @dT a kvs ea=>
  cases(show u=Value.ref a from rx);obtain⟨_,_,xs,_,o,es,ep,h1,h2,_⟩:=(show f6 X.prog X.w H s.heap a (.dT kvs)from I.hok a _ ea);exact abf ad4 I.zB ⟨o,h1,h2.1⟩ e (λz=>nomatch z) h
 | @ins a C dx fs ea cl ha hn htk hm=>
  cases(show u=Value.ref a from rx);obtain⟨mA,O,_⟩:=Mx I.hok ea;obtain⟨od,J,_⟩:=O.look;exact abf (PySem.W.kitx_own (cl.get _) cl.hd ha hn htk hm) I.zB J e (λz=>nomatch z) h
end
structure gk(k:Nat)(A:Around):Prop where
 hd:A.handled=none
 dp:A.depth+3*k+5<recursionLimit
 un:A.units+16*k+200<cLine
theorem gk.mono{j k:Nat}{A:Around}(r:gk k A)(h:j<=k):gk j A:=⟨r.hd,by have:=r.dp;omega,by have:=r.un;omega⟩
theorem gk.deeper{k:Nat}{A:Around}(r:gk (k+1) A)(env:Env):gk k (A.deeper env):=
 ⟨r.hd,by have:=r.dp;show A.depth+1+3*k+5<_;omega,by have:=r.un;show A.units+3+16*k+200<_;omega⟩
theorem gk.in1{k:Nat}{A:Around}(r:gk (k+1) A):gk k A.in1:=
 ⟨r.hd,by have:=r.dp;show A.depth+3*k+5<_;omega,by have:=r.un;show A.units+1+16*k+200<_;omega⟩
theorem gk.depth{k:Nat}{A:Around}(r:gk k A):A.depth<recursionLimit:=by have:=r.dp;omega
theorem gk.units{k:Nat}{A:Around}(r:gk k A):A.units+64<cLine:=by have:=r.un;omega
noncomputable def jB:TA:=λ_ H Q=>Q [] H
noncomputable def cV(ta:TE)(tr:TA):TA:=λσ H Q=>ta σ H λx H1=>tr σ H1 λxs H2=>Q (x::xs) H2
section
variable{X:Cx}{e:Expr}{es:List Expr}{te:TE}{t:TA}{pos:Pos}
theorem ah:PA X [] jB:=λ_ _ _ _ H Q I h=>Calls.spliced_nil ⟨[],H,I,.nil,h⟩
theorem af(ha:PE X e te)(hr:PA X es t)(hs:starEach (e::es) X.env=(false,eval e X.env)::starEach es X.env:=by rfl):PA X (e::es) (cV te t):=by
 intro pos pins s σ H Q I h;rw[hs];show wpAny _ _ (spliced ((false,eval e X.env)::backTo pos (starEach es X.env))) _ _ s;refine Calls.spliced_cons (gD (ha pins s σ H _ I h) λu s1 ⟨x,H1,I1,r1,q1⟩=> ?_);exact gD (hr pos pins s1 σ H1 _ I1 q1) λus s2 ⟨xs,H2,I2,r2,q2⟩=>⟨x::xs,H2,I2,.cons r1 r2,q2⟩
noncomputable def RZ(t:TA):TE:=λσ H Q=>t σ H λxs H1=>xs.length<=sizeLine/\ ∀p,H1 p=none->Q (.ref p) (upd H1 p (.tup xs))
noncomputable def Sa(t:TA):TE:=λσ H Q=>t σ H λxs H1=>xs.length<=sizeLine/\ ∀p,H1 p=none->Q (.ref p) (upd H1 p (.lst xs))
theorem gz{x1}(h:PA X es t):PE X (.Tuple es x1 pos) (RZ t):=by
 intro pins s σ H Q I hq;refine wpAny_Tuple_spliced (gD (h pos pins s σ H _ I hq) λus s1 ⟨xs,H1,I1,r,z,q⟩=>⟨by rw[<-r.length];exact z,?_⟩);have hf:H1 s1.heap.objs.size=none:=I1.hok.fresh (aav _);refine⟨.ref s1.heap.objs.size,upd H1 s1.heap.objs.size (.tup xs),I1.laid (t':=s1.toks) (λb u e=>Heap.get?_push_of_some _ e) (aav _) ?_,rfl,q _ hf⟩;exact⟨z,us,r,⟨_,Heap.get?_push_size _ rfl,rfl,_,rfl⟩⟩
theorem eU(h:PA X es t):PE X (.List es pos) (Sa t):=by
 intro pins s σ H Q I hq;refine wpAny_List_spliced (gD (h pos pins s σ H _ I hq) λus s1 ⟨xs,H1,I1,r,z,q⟩=>⟨by rw[<-r.length];exact z,?_⟩);have hf:H1 s1.heap.objs.size=none:=I1.hok.fresh (aav _);refine⟨.ref s1.heap.objs.size,upd H1 s1.heap.objs.size (.lst xs),I1.laid (t':=s1.toks) (λb u e=>Heap.get?_push_of_some _ e) (aav _) ?_,rfl,q _ hf⟩;exact⟨z,us,0,r,Heap.get?_push_size _ rfl⟩
end
noncomputable abbrev Sp:=List V->Hp->VK->XK->Prop
noncomputable abbrev GU:=List Env->Hp->Shared->XK->Value->Shared->Prop
structure My(P:Program)(w:World)(K:PySem.W.Frag)(mg:Str->Option Value)(base:Heap)(A:Around)(outer:List Env)(s:Shared)(H:Hp):Prop where
 frames:A.frames=some outer
 mod:Mod K mg base
 bs:∀b o,base.get? b=some o->s.heap.get? b=some o/\H b=none
 Mq:base.objs.size<=s.heap.objs.size
 vc:s.heap.FunFrames base outer
 Rb:∀b∈frs outer,H b=none
 hok:vF P w H s.heap
 bare:AllBare s.gens
noncomputable def CE(outer:List Env)(P:Program)(w:World)(H:Hp)(s:Shared)(Q:VK)(u:Value)(s':Shared):Prop:=
 ∃v H',s'.os=s.os/\IT s.gens s'.gens/\Un (frs outer) [] H H' s.heap s'.heap/\vF P w H' s'.heap/\RelV v u/\Q v H'
noncomputable def CR(CX:GU)(outer:List Env)(P:Program)(w:World)(H:Hp)(s:Shared)(Q:VK)(E:XK)(r:Result)(s':Shared):Prop:=
 match r with
 | .ok (.ret u)=>CE outer P w H s Q u s'
 | .ok _=>False
 | .error e=>CX outer H s E e s'
structure qW(P:Program)(w:World)(K:PySem.W.Frag)(mg:Str->Option Value)(base:Heap)(CX:GU)(k:Nat)(f:Addr)(fd:FuncData)(ps:List Str)(sp:Sp):Prop where
 len:∀vs H Q E,sp vs H Q E->vs.length=ps.length
 run:∀(A:Around)(outer:List Env)(s:Shared)(H:Hp)(args:Args)(us:List Value)(vs:List V)(Q:VK)(E:XK),gk k A->My P w K mg base A outer s H->BindsTo s fd args (ps.zip us) ->Vals vs us->sp vs H Q E->
  codeAny (model P w) A (.call (.ref f) args) (CR CX outer P w H s Q E) s
theorem qW.mono{P:Program}{w:World}{K:PySem.W.Frag}{mg:Str->Option Value}{base:Heap}{CX:GU}{j k:Nat}{f:Addr}{fd:FuncData}{ps:List Str}{sp:Sp}(F:qW P w K mg base CX j f fd ps sp)(h:j<=k):
  qW P w K mg base CX k f fd ps sp:=⟨F.len,λA outer s H args us vs Q E hr=>F.run A outer s H args us vs Q E (hr.mono h)⟩
section
variable{X:Cx}{pins:List (Addr×Obj)}{σ:St}{H:Hp}{s s':Shared}
theorem Inv.Vy(I:Inv X pins σ H s):My X.prog X.w X.K X.mg X.base X.A X.stack s H:=
 ⟨I.ok.frames,I.ok.mod,I.bs,aa8 I.ok.Mq I.sz,I.stack,I.vG,I.hok,I.bare.bare⟩
theorem Inv.after{Q:VK}{u:Value}(I:Inv X pins σ H s)(h:CE X.stack X.prog X.w H s Q u s'):EP X pins σ Q u s':=by
 obtain⟨v,H',os,bare,un,hok,r,q⟩:=h;obtain⟨hh,g,d,t,os'⟩:=s';obtain rfl:os'=s.os:=os;exact⟨v,H',I.call (h':=hh) (g':=g) (d':=d) (t':=t) (ch:=[]) un hok bare (λb z=>absurd z (by simp)),r,q⟩
end
noncomputable def mE(sp:Sp)(Ov:List V)(E:XK)(t:TA):TE:=λσ H Q=>t σ H λvs H1=>sp (vs++Ov) H1 Q E
noncomputable def Binds(K:PySem.W.Frag)(fd:FuncData)(ps:List Str)(ds:List Value):Prop:=
 ∀(s:Shared)(us:List Value),K.In s.heap->(us++ds).length=ps.length->BindsTo s fd ⟨us,[]⟩ (ps.zip (us++ds))
theorem Binds.all{K:PySem.W.Frag}{fd:FuncData}{ps:List Str}(h:∀us:List Value,us.length=ps.length->bindArgs fd ⟨us,[]⟩=pure (ps.zip us)):Binds K fd ps []:=λs us _ hl=>by
 rw[aba]at hl ⊢;exact .of_eq (h us hl)
noncomputable def Passes(CX:GU)(X:Cx)(E:XK):Prop:=∀(pins:List (Addr×Obj))(σ:St)(H:Hp)(s:Shared)(e:Value)(s':Shared),Inv X pins σ H s->CX X.stack H s E e s'->X.xe e s'
section
variable{X:Cx}{CX:GU}{k:Nat}{f C:Addr}{fd:FuncData}{ps:List Str}{sp:Sp}{Ov:List V}{ds:List Value}{E:XK}{x m:Str}{p pos apos:Pos}{e o:Expr}{es:List Expr}{ta:TE}{t:TA}
theorem Px{pins:List (Addr×Obj)}{σ:St}{H:Hp}{s:Shared}{Q:VK}{us:List Value}{vs:List V}(F:qW X.prog X.w X.K X.mg X.base CX k f fd ps sp)(hr:gk k X.A)(hb:Binds X.K fd ps ds)(hd:Vals Ov ds)(hx:Passes CX X E)
  (I:Inv X pins σ H s)(r:Vals vs us)(h:sp (vs++Ov) H Q E):wpAny (model X.prog X.w) X.A (call (.ref f) us) (EP X pins σ Q) X.xe s:=by
 have r2:Vals (vs++Ov) (us++ds):=r.append hd;have hl:(us++ds).length=ps.length:=by rw[<-r2.length];exact F.len _ _ _ _ h
 refine wpAny_call (codeAny_mono (F.run X.A X.stack s H ⟨us,[]⟩ (us++ds) (vs++Ov) Q E hr I.Vy (hb s us I.zB hl) r2 h) λr s' hq=> ?_)
 cases r with
 |error e=>exact hx pins σ H s e s' I hq
 |ok fl=>
  cases fl with
  |ret u=>exact I.after hq
  |next=>exact False.elim hq
  |brk=>exact False.elim hq
  |cont=>exact False.elim hq
theorem Mz(F:qW X.prog X.w X.K X.mg X.base CX k f fd ps sp)(hr:gk k X.A)(hg:Gl X x)(hm:X.mg x=some (.ref f))(hk:abR X.K (.ref f)=true)(hb:Binds X.K fd ps ds)(hd:Vals Ov ds)(hx:Passes CX X E)
  (ha:PA X (e::es) t)(hdb:(x==("__debug__":Str))=false:=by decide)(he:starEach (e::es) X.env=(false,eval e X.env)::starEach es X.env:=by rfl)(hpl:(backTo pos (starEach es X.env)).any (·.1)=false:=by rfl):
  PE X (.Call (.Name x p) (e::es) [] pos) (mE sp Ov E t):=by
 intro pins s σ H Q I h;refine wpAny_Call_Name_kw (Fb I hg hm ?_ hdb);refine PySem.W.callWith_K (h₀:=X.base) I.ok.mod.GG hk (gD (ha pos pins s σ H _ I h) λus s1 ⟨vs,H1,I1,r,q⟩=>⟨I1.zB,?_⟩) he hpl;exact Px F hr hb hd hx I1 r q
end
section
variable{X:Cx}{CX:GU}{k:Nat}{f C:Addr}{fd:FuncData}{ps ks:List Str}{sp:Sp}{E:XK}{x m:Str}{p pos apos kpos:Pos}{e o:Expr}{es:List Expr}{kws:List Keyword}{te ta:TE}{t tk:TA}{nm:Option Str}
variable{g:List Value->List Value->List Value}{gV:List V->List V->List V}
end
structure aR(N P:List Str)(sc:Scope):Prop where
 kind:sc.kind= .function
 co:sc.isCoroutine=false
 gen:sc.isGenerator=false
 nd:N.Nodup
 pre:N.take P.length=P
 par:∀x∈P,sc.names.lookup x=some .local∨sc.names.lookup x=some .cell
 Py:∀y∈sc.names,y.2≠ .free
theorem yE{kindOf:Str->Option NameKind}{x:Str}:∀{binds:List (Str×Value)}{m:Str->Option Value},(∀v,(x,v)∉binds) ->bindL kindOf binds m x=m x
 | [],_,_=>rfl
 |(n,v)::r,m,h=>by
  unfold bindL;rw[yE λw hw=>h w (aay _ hw)]
  split
  ·have:x≠n:=by rintro rfl;exact h v aaD
   simp[this]
  ·rfl
theorem yF{kindOf:Str->Option NameKind}{x:Str}:∀{binds:List (Str×Value)}{m:Str->Option Value},(∀v,(x,v)∉binds) ->bindC kindOf binds m x=m x
 | [],_,_=>rfl
 |(n,v)::r,m,h=>by
  unfold bindC;rw[yF λw hw=>h w (aay _ hw)]
  split
  ·rfl
  ·have:x≠n:=by rintro rfl;exact h v aaD
   simp[this]
theorem yG{kindOf:Str->Option NameKind}{x:Str}{v:Value}:∀{P:List Str}{vs:List Value}{i:Nat}{m:Str->Option Value},P.Nodup->P[i]?=some x->vs[i]?=some v->kindOf x=some .local->
  bindL kindOf (P.zip vs) m x=some v
 | [],_,_,_,_,h,_,_=>by simp at h
 |_::_,[],_,_,_,_,h,_=>by simp at h
 |p::P,w::vs,0,m,nd,h1,h2,hk=>by
  simp at h1 h2;subst h1;subst h2;show bindL kindOf ((p,w)::P.zip vs) m p=_;unfold bindL;rw[yE λv hv=>(abg.mp nd).1 (acQ hv).1,if_pos hk];simp
 |p::P,w::vs,i+1,m,nd,h1,h2,hk=>by
  show bindL kindOf ((p,w)::P.zip vs) m x=_;unfold bindL;exact yG (i:=i) (abg.mp nd).2 (by simpa using h1) (by simpa using h2) hk
theorem yH{kindOf:Str->Option NameKind}{x:Str}{v:Value}:∀{P:List Str}{vs:List Value}{i:Nat}{m:Str->Option Value},P.Nodup->P[i]?=some x->vs[i]?=some v->kindOf x≠some .local->
  bindC kindOf (P.zip vs) m x=some v
 | [],_,_,_,_,h,_,_=>by simp at h
 |_::_,[],_,_,_,_,h,_=>by simp at h
 |p::P,w::vs,0,m,nd,h1,h2,hk=>by
  simp at h1 h2;subst h1;subst h2;show bindC kindOf ((p,w)::P.zip vs) m p=_;unfold bindC;rw[yF λv hv=>(abg.mp nd).1 (acQ hv).1,if_neg hk];simp
 |p::P,w::vs,i+1,m,nd,h1,h2,hk=>by
  show bindC kindOf ((p,w)::P.zip vs) m x=_;unfold bindC;exact yH (i:=i) (abg.mp nd).2 (by simpa using h1) (by simpa using h2) hk
noncomputable def start(N:List Str)(vs:List V):St:=vs.map some++abh (N.length-vs.length) none
noncomputable def zF(CX:GU)(P:Program)(w:World)(K:PySem.W.Frag)(mg:Str->Option Value)(base:Heap)(N:List Str)(qual:Str)(scope:Scope)(f:Addr)(cd:Value)(A:Around)(outer:List Env)(s:Shared)(H:Hp)(E:XK):Cx where
 prog:=P
 w:=w
 K:=K
 mg:=mg
 base:=base
 A:=A.deeper (envOfC qual scope s.heap.objs.size f cd)
 N:=N
 s₀:=s
 H₀:=H
 env:=envOfC qual scope s.heap.objs.size f cd
 outer:=outer
 stack:=envOfC qual scope s.heap.objs.size f cd::outer
 ex:=[]
 calm:=true
 fn:=λ_=>true
 pn:=[]
 xe:=λe s'=>wpAny (model P w) (A.deeper (envOfC qual scope s.heap.objs.size f cd)) (leaving (envOfC qual scope s.heap.objs.size f cd) e) (λ_ s''=>CX outer H s E e s'') (λe' s''=>CX outer H s E e' s'') s'
theorem AZ{sc:Scope}{n:Nat}{x:Str}(h:sc.names.lookup x=some .cell):∃c,(cellsFrom n sc.names []).lookup x=some c:=by
 have q:=acz sc.names n [] (.inl h);exact acn.mp q
theorem GV{CX:GU}{P:Program}{w:World}{K:PySem.W.Frag}{mg:Str->Option Value}{base:Heap}{N ps:List Str}{qual:Str}{scope:Scope}{f:Addr}{cd:Value}{A:Around}{outer:List Env}{s s1:Shared}{H:Hp}{E:XK}{us:List Value}{vs:List V}
  (S:aR N ps scope)(hd:A.handled=none)(e0:My P w K mg base A outer s H)(hl:vs.length=ps.length)(r:Vals vs us)
  (x:InCallC s s.heap.objs.size (bindL (envOfC qual scope s.heap.objs.size f cd).kindOf (ps.zip us) λ_=>none) (cellsFrom (s.heap.objs.size+1) scope.names []) (bindC (envOfC qual scope s.heap.objs.size f cd).kindOf (ps.zip us) λ_=>none) s1):
  Inv (zF CX P w K mg base N qual scope f cd A outer s H E) [] (start N vs) H s1:=by
 have hpl:ps.length<=N.length:=by have:=congrArg adP S.pre;rw[aaX]at this;omega
 obtain⟨h1,tk,rfl,hk⟩:=x.done;have Vz:∀b:Addr,b∉(zF CX P w K mg base N qual scope f cd A outer s H E).ex:=λb z=>absurd (show b∈([]:List Addr)from z) (by simp);refine⟨⟨e0.mod,S.kind,rfl,rfl,aav _,λy z c h1 h2=> ?_,λy hy=> ?_,λy c _ h=> ?_,λ_=>hd,Around.frames_deeper e0.frames,.inr ⟨rfl,rfl⟩,λb z=>absurd z (Vz b),e0.bs,e0.Mq,λb _ _=>Vz b,λb z=>absurd z (Vz b),e0.vc,e0.Rb⟩,
  rfl,.refl e0.bare,Un.kept hk,⟨_,x.toInCall.ns,λi y v h1 h2 h3=> ?_⟩,λy c h=>⟨_,x.cell y c h⟩,e0.hok.fresh (aav _),λy c h=> ?_,λp hp=>absurd (show p∈([]:List (Addr×Obj))from hp) (by simp),e0.hok.kept hk,?_⟩
 ·exact name_of_addr x.apart (ab1 h1) (ab1 h2)
 ·have hy:scope.names.lookup y=some .cell∨scope.names.lookup y=some .free:=hy
  rcases hy with hy|hy
  ·exact AZ hy
  ·exact absurd rfl (S.Py _ (ab1 hy))
 ·exact acZ (x.above y c (ab1 h))
 ·have hi:i<vs.length:=by
   unfold start at h2
   by_cases hi:i<vs.length
   ·exact hi
   ·rw[aaO (by simpa using hi)]at h2
    rw[acr]at h2
    split at h2<;>cases h2
  have ha:vs[i]?=some v:=by
   unfold start at h2;rw[aaR (by simpa using hi),aby]at h2
   cases e:vs[i]? with
   |none=>rw[e]at h2;cases h2
   |some a=>rw[e]at h2;cases h2;rfl
  obtain⟨u,hu,rv⟩:=r.get ha;have hp:ps[i]?=some y:=by
   rw[<-S.pre,aaM (by omega)];exact h1
  have Xi:ps.Nodup:=by rw[<-S.pre];exact S.nd.sublist (abd _ _)
  refine⟨u,rv,?_⟩;rcases S.par y (aaA hp)with k|k
  ·exact .inl ⟨k,yG Xi hp hu k⟩
  ·obtain⟨c,e⟩:=AZ (n:=s.heap.objs.size+1) k
   refine .inr ⟨.inl k,c,e,?_⟩;have q:=x.cell y c e;rw[yH Xi hp hu (by show scope.names.lookup y≠_;rw[k];decide)]at q;exact q
 ·exact e0.hok.fresh (acZ (x.above y c (ab1 h)))
 ·unfold start
  show _=N.length;rw[aaC,aau,abP];omega
theorem Ow{CX:GU}{P:Program}{w:World}{K:PySem.W.Frag}{mg:Str->Option Value}{base:Heap}{k:Nat}{f:Addr}{name qual:Str}{params:Arguments}{body:List Stmt}{scope:Scope}{dV kV doc pm cdv ct oc:Value}{an od:Option Addr}
  {osl:Array (Option Value)}{N ps:List Str}{sp:Sp}(lk:K.lookup f=some ⟨oc,od,.func (abm name qual params body scope dV kV doc pm an cdv ct),osl⟩)(hcd:abA K cdv qual=true)(S:aR N ps scope)
  (len:∀vs H Q E,sp vs H Q E->vs.length=ps.length)
  (hbody:∀(A:Around)(outer:List Env)(s:Shared)(H:Hp)(vs:List V)(Q:VK)(E:XK),gk k (A.deeper (envOfC qual scope s.heap.objs.size f cdv)) ->sp vs H Q E->
   ∃t,zC (zF CX P w K mg base N qual scope f cdv A outer s H E) body t/\t {nx:=λ_ H'=>Q .gF H',rt:=Q} (start N vs) H):
  qW P w K mg base CX (k+1) f (abm name qual params body scope dV kV doc pm an cdv ct) ps sp:=by
 refine⟨len,λA outer s H args us vs Q E hr e0 hb r Me=> ?_⟩;have hl:=len _ _ _ _ Me;have KX:K.In s.heap:=e0.mod.GG.keeps λb o e=>(e0.bs b o e).1;have lim:s.heap.NoLimit:=e0.mod.nolimit.keeps λb o e=>(e0.bs b o e).1;have hkind:∀y∈ps.zip us,scope.names.lookup y.1=some .local∨(scope.names.lookup y.1=some .cell/\((cellsFrom (s.heap.objs.size+1) scope.names []).lookup y.1).isSome=true):=λ ⟨n,v⟩ hy=>by
  rcases S.par n (acQ hy).1 with q|q
  ·exact .inl q
  ·exact .inr ⟨q,acz _ _ _ (.inl q)⟩
 refine codeAny_call_function hr.depth (KX _ _ lk) rfl S.co S.gen rfl (PySem.W.codeRec_of KX hcd) (hb _ _ _ _ ?_);refine wpAny_newFunctionEnv_cells S.kind hkind λenv he s1 x=> ?_;subst he;refine⟨lim.keeps x.toInCall.keep,codeAny_func ?_⟩;obtain⟨t,ht,hq⟩:=hbody A outer s H vs Q E (hr.deeper _) Me;have I:Inv (zF CX P w K mg base N qual scope f cdv A outer s H E) [] (start N vs) H s1:=GV S hr.hd e0 hl r x;refine wpAny_mono (ht [] s1 (start N vs) H _ I hq) (λfl s' hs=> ?_) λe s' hs=>hs;have fin:∀{σ':St}{H':Hp}{v:V}{u:Value},Inv (zF CX P w K mg base N qual scope f cdv A outer s H E) [] σ' H' s'->RelV v u->Q v H'->CE outer P w H s Q u s':=
  λ {σ' H' v u} J rv q=>⟨v,H',J.os,J.bare,J.base,J.hok,rv,q⟩
 cases fl with
 |ret u=>
  obtain⟨v,σ',H',J,rv,q⟩:=hs;exact fin J rv q
 |next=>
  obtain⟨σ',H',J,q⟩:=hs;exact fin (v:=V.gF) (u:=Value.none) J rfl q
 |brk=>
  obtain⟨_,_,_,q⟩:=hs;exact False.elim q
 |cont=>
  obtain⟨_,_,_,q⟩:=hs;exact False.elim q
section
variable{X:Cx}{x:Str}{p pos:Pos}{e:Expr}{es:List Expr}{t:TA}{id T:String}{r:List V->Hp->VK->Prop}
noncomputable def Pz(r:List V->Hp->VK->Prop)(t:TA):TE:=λσ H Q=>t σ H λvs H1=>r vs H1 Q
theorem cR(hc:pQ X (.builtin id) r)(hg:Gl X x)(hm:X.mg x=none)(hv:bootBuiltins x=some (.builtin id))(ha:PA X (e::es) t)(hn:x≠ "__name__":=by decide)(hdb:(x==("__debug__":Str))=false:=by decide)
  (he:starEach (e::es) X.env=(false,eval e X.env)::starEach es X.env:=by rfl)(hpl:(backTo pos (starEach es X.env)).any (·.1)=false:=by rfl):PE X (.Call (.Name x p) (e::es) [] pos) (Pz r t):=by
 intro pins s σ H Q I h;refine wpAny_Call_Name_kw (m8 I hg hm hv ?_ hn hdb);exact abY (gD (ha pos pins s σ H _ I h) λus s1 ⟨vs,H1,I1,r1,q1⟩=>hc pins s1 σ H1 vs us Q I1 r1 q1) he hpl
theorem r8(hc:pQ X (.type T) r)(hg:Gl X x)(hm:X.mg x=none)(hv:bootBuiltins x=some (.type T))(ha:PA X (e::es) t)(hn:x≠ "__name__":=by decide)(hdb:(x==("__debug__":Str))=false:=by decide)
  (he:starEach (e::es) X.env=(false,eval e X.env)::starEach es X.env:=by rfl)(hpl:(backTo pos (starEach es X.env)).any (·.1)=false:=by rfl):PE X (.Call (.Name x p) (e::es) [] pos) (Pz r t):=by
 intro pins s σ H Q I h;refine wpAny_Call_Name_kw (m8 I hg hm hv ?_ hn hdb);exact abL (gD (ha pos pins s σ H _ I h) λus s1 ⟨vs,H1,I1,r1,q1⟩=>hc pins s1 σ H1 vs us Q I1 r1 q1) he hpl
end
end L2
namespace HT
open PySem PyProof.Rows
noncomputable def lexLt:List Int->List Int->Bool
 | [],[]=>false
 | [],_::_=>true
 |_::_,[]=>false
 |x::xs,y::ys=>if x=y then lexLt xs ys else decide (x<y)
theorem ng(x y:Int)(xs ys:List Int):lexLt (x::xs) (y::ys)=if x=y then lexLt xs ys else decide (x<y):=rfl
theorem pR:lexLt [] []=false:=rfl
theorem v9(y:Int)(ys:List Int):lexLt [] (y::ys)=true:=rfl
theorem wc(x:Int)(xs:List Int):lexLt (x::xs) []=false:=rfl
theorem Jg(A:Around)(s:Shared)(a:Int)(t:Tok)(c:Int)(u:Tok):∃e,SeqAt.EqAt A s (.int a t) (.int c u) e/\(e=true↔a=c):=
 ⟨(a==c),SeqAt.EqAt.int_int a t c u,by simp⟩
theorem Jh(A:Around)(s:Shared)(a:Int)(t:Tok)(c:Int)(u:Tok)(prog:Program)(w:World)(E:Value->Shared->Prop)(Q:Value->Shared->Prop)(h:Q (.bool (decide (a<c))) s):
  wpAny (model prog w) A (richCompare .Lt (.int a t) (.int c u)) Q E s:=
 (PyProof.Rows.lt_int h:wpAny (model prog w) A (compareOp .Lt (.int a t) (.int c u)) Q E s)
section
open PySem.SeqAt
open PySem.AutoSeq1 (wpAny_loadPart')
open PySem.MeetsSeq PySem.MeetsSeq2 PySem.MeetsSeq3
theorem xX(l b:Addr)(items items2:Array Value)(n n2:Nat)(dd dd2:Option Addr)(sl sl2:Array (Option Value))(ns ms:List Int)(hi:IntsAre items.toList ns)(hj:IntsAre items2.toList ms):
  Meets (Builtin.«tuple.__lt__» ⟨[.ref l,.ref b],[]⟩)
   (λ_ R s=>s.heap.get? l=some {cls:= .type "tuple",dict:=dd,data:= .seq items n,slots:=sl}/\s.heap.get? b=some {cls:= .type "tuple",dict:=dd2,data:= .seq items2 n2,slots:=sl2}/\
    R (.ok (.ret (.bool (lexLt ns ms)))) s):=
 .of_wp λprog w A R s h=>by
  obtain⟨hp,g,d,tk,os⟩:=s;obtain⟨hl,hb,h⟩:=h;have f2:=AutoSeq1.sub_tuple_tuple;have z1:items.size=ns.length:=by rw[<-hi.length];simp
  have z2:items2.size=ms.length:=by rw[<-hj.length];simp
  wp_walk using wpAny_loadPart' hl,wpAny_loadPart' hb,wpAny_forIn_list _ (λrest b s'=>b.1=none/\s'=⟨hp,g,d,tk,os⟩/\ ∃(vs ws:List Value)(ns' ms':List Int),rest=vs.zip ws/\
   IntsAre vs ns'/\IntsAre ws ms'/\ns'.length+items2.size=ms'.length+items.size/\R (.ok (.ret (.bool (lexLt ns' ms')))) ⟨hp,g,d,tk,os⟩) _
  case turn=>
   rintro⟨y,x⟩ rest b s' ⟨hb',rfl,vs,ws,ns',ms',hz,VA,hwi,hlen,hR⟩
   cases VA with
   |nil=>rw[List.zip_nil_left]at hz;cases hz
   |cons a t VB=>
    cases hwi with
    |nil=>rw[List.zip_nil_right]at hz;cases hz
    |cons c u VC=>
     rw[ac0]at hz;injection hz with hyx hrest;injection hyx with hy hx;subst hy hx;rw[ng]at hR;simp only[aa7]at hlen;obtain⟨e,he,hiff⟩:=Jg A.in1 ⟨hp,g,d,tk,os⟩ a t c u;refine wpAny_bind (he prog w _ _ ?_)
     cases e with
     |true=>
      rw[if_pos (hiff.mp rfl)]at hR
      wp_walk
      exact⟨rfl,rfl,_,_,_,_,hrest,VB,VC,by omega,hR⟩
     |false=>
      rw[if_neg (λq=>absurd (hiff.mpr q) aaw)]at hR;have YV:=Jh A.in1 ⟨hp,g,d,tk,os⟩ a t c u prog w
      wp_walk using YV
      exact⟨_,rfl,by simpa using hR⟩
  case fin=>
   rintro⟨b1,b2⟩ s' ⟨hb',rfl,vs,ws,ns',ms',hz,VA,hwi,hlen,hR⟩;simp only at hb';subst hb';have hv:lexLt ns' ms'=decide (items.size<items2.size):=by
    cases VA with
    |nil=>
     cases hwi with
     |nil=>
      simp only[acR]at hlen;rw[pR];exact(decide_eq_false (by omega)).symm
     |cons c u hw=>
      simp only[acR,aa7]at hlen;rw[v9];exact(decide_eq_true (by omega)).symm
    |cons a t hv=>
     cases hwi with
     |nil=>
      simp only[acR,aa7]at hlen;rw[wc];exact(decide_eq_false (by omega)).symm
     |cons c u hw=>
      rw[ac0]at hz;cases hz
   rw[hv]at hR
   wp_walk
   exact⟨_,rfl,by simpa [Builtin.Tuple.tupleCompareSizes]using hR⟩
  case h=>
   exact⟨rfl,rfl,items.toList,items2.toList,ns,ms,rfl,hi,hj,by omega,h⟩
end
section
variable{prog:Program}{w:World}{A:Around}{E:Value->Shared->Prop}{s:Shared}
theorem CW{l b:Addr}{items items2:Array Value}{ns ms:List Int}{Q:Value->Shared->Prop}(hl:IsTup s.heap l items)(hb:IsTup s.heap b items2)(hi:IntsAre items.toList ns)(hj:IntsAre items2.toList ms)
  (hu:A.units<cLine)(h:Q (.bool (lexLt ns ms)) s):wpAny (model prog w) A (compareOp .Lt (.ref l) (.ref b)) Q E s:=by
 obtain⟨⟨cls,dd,data,sl⟩,ho,hc,n,hd⟩:=id hl;obtain⟨⟨Sb,dd2,data2,sl2⟩,ho2,hc2,n2,hd2⟩:=id hb;simp only at hc hd hc2 hd2;subst hc hd hc2 hd2;exact richCompare_meets_room (op:= .Lt) ⟨_,ho,rfl⟩ ⟨_,ho2,rfl⟩ PySem.F.slot_tuple_lt PySem.F.entry_tuple_lt (PySem.F.args_tuple_lt_2 _ _) (xX l b items items2 n n2 dd dd2 sl sl2 ns ms hi hj)
  ⟨ho,ho2,show Value.bool (lexLt ns ms)≠Value.notImplemented/\Q (.bool (lexLt ns ms)) s from⟨(λx=>nomatch x),h⟩⟩ hu
noncomputable def Ba(n d:Nat):Option Int->Nat
 |none=>d
 |some v=>if v<0 then(v+(n:Int)).toNat else min v.toNat n
end
end HT
namespace L2
open PySem PySem.Spec PyProof.Rows
noncomputable abbrev TO:=St->Hp->(Option Int->Hp->Prop) ->Prop
noncomputable def PO(X:Cx)(e:Option Expr)(t:TO):Prop:=
 ∀(pins:List (Addr×Obj))(s:Shared)(σ:St)(H:Hp)(Q:Option Int->Hp->Prop),Inv X pins σ H s->t σ H Q->
  wpAny (model X.prog X.w) X.A (evalPart e X.env) (λu s'=> ∃o H',Inv X pins σ H' s'/\IsPart u o/\Q o H') X.xe s
noncomputable def MA:TO:=λ_ H Q=>Q none H
noncomputable def Sd(t:TE):TO:=λσ H Q=>t σ H λx H1=> ∃i,x= .int i/\Q (some i) H1
theorem intsAre_of{ns:List Int}:∀{us:List Value},Vals (ns.map V.int) us->IntsAre us ns:=by
 induction ns with
 |nil=>intro us r;rw[ad5]at r;cases r;exact .nil
 |cons n ns ih=>
  intro us r;rw[abp]at r
  cases r with
  |cons r1 r2=>
   obtain⟨t,e⟩:=r1;subst e;exact .cons n t (ih r2)
section
variable{X:Cx}{e:Expr}{te:TE}{lo hi:Option Expr}{tl th:TO}{pos p2:Pos}
theorem MB:PO X none MA:=by
 intro pins s σ H Q I h;rw[evalPart_none];exact wpAny_pure ⟨none,H,I,.none,h⟩
theorem MC(h:PE X e te):PO X (some e) (Sd te):=by
 intro pins s σ H Q I hw;rw[evalPart_some];refine gD (h pins s σ H _ I hw) λu s1 ⟨x,H1,I1,r1,q1⟩=> ?_;obtain⟨i,rfl,q⟩:=q1;obtain⟨t,rfl⟩:=r1;exact⟨some i,H1,I1,.int i t,q⟩
noncomputable def Xj(X:Cx)(r:V->Option Int->Option Int->Hp->VK->Prop):Prop:=
 ∀(pins:List (Addr×Obj))(s:Shared)(σ:St)(H:Hp)(x:V)(v vl vu:Value)(lo hi:Option Int)(sl:Addr)(Q:VK),Inv X pins σ H s->RelV x v->s.heap.IsSliceOf sl vl vu .none->IsPart vl lo->IsPart vu hi->r x lo hi H Q->
  ∃T id,typeLookup (.type T) "__getitem__"=pure (some (.builtin id))/\s.TypeIs v T/\wpAny (model X.prog X.w) X.A (getItem v (.ref sl)) (EP X pins σ Q) X.xe s
noncomputable def YW(r:V->Option Int->Option Int->Hp->VK->Prop)(te:TE)(tl th:TO):TE:=λσ H Q=>te σ H λx H1=>tl σ H1 λl H2=>th σ H2 λu H3=>r x l u H3 Q
theorem Ji{r:V->Option Int->Option Int->Hp->VK->Prop}(hr:Xj X r)(he:PE X e te)(hl:PO X lo tl)(hu:PO X hi th):PE X (.Subscript e (.Slice lo hi none p2) pos) (YW r te tl th):=by
 intro pins s σ H Q I h;refine Subscript_ (gD (he pins s σ H _ I h) λv s1 ⟨x,H1,I1,r1,q1⟩=> ?_);refine wpAny_Slice (gD (hl pins s1 σ H1 _ I1 q1) λvl s2 ⟨l,H2,I2,pl,q2⟩=>gD (hu pins s2 σ H2 _ I2 q2) λvu s3 ⟨u,H3,I3,pu,q3⟩=> ?_);rw[evalPart_none];refine wpAny_pure ?_;have I4:Inv X pins σ H3 {s3 with heap:=s3.heap.push {cls:= .type "slice",data:= .fields #[vl,vu,.none]}}:=I3.kept (t':=s3.toks) λb ob q=>Heap.get?_push_of_some _ q;obtain⟨T,id,hT,ht,hg⟩:=hr pins {s3 with heap:=s3.heap.push {cls:= .type "slice",data:= .fields #[vl,vu,.none]}} σ H3 x v vl vu l u s3.heap.objs.size Q I4 r1 (Heap.IsSliceOf.new ..) pl pu q3;show wpAny (model X.prog X.w) X.A (subscriptTail e (.Slice lo hi none p2) v (.ref s3.heap.objs.size)) (EP X pins σ Q) X.xe {s3 with heap:=s3.heap.push {cls:= .type "slice",data:= .fields #[vl,vu,.none]}};exact tail_any (ops:=[.ref s3.heap.objs.size,v]) ht hT hg (by with_unfolding_all rfl)
noncomputable def CZ(xs:List V)(lo hi:Option Int):List V:=(xs.drop (HT.Ba xs.length 0 lo)).take (HT.Ba xs.length xs.length hi-HT.Ba xs.length 0 lo)
theorem Bb(xs:List V)(lo hi:Option Int):(CZ xs lo hi).length<=xs.length:=by
 unfold CZ;rw[aaX,aci];omega
noncomputable def VD(K:PySem.W.Frag):R2:=λx y H Q=> ∃a b ns ms,x= .ref a/\y= .ref b/\nZ K H a (ns.map V.int)/\nZ K H b (ms.map V.int)/\Q (.bl (HT.lexLt ns ms)) H
theorem PB(hu:X.A.units<cLine):r6 X (compareOp .Lt) (VD X.K):=by
 intro pins s σ H x y v u Q I rx ry h;obtain⟨a,b,ns,ms,rfl,rfl,ha,hb,q⟩:=h;cases rx;cases ry;obtain⟨its,r1,p1,_⟩:=I.tuple ha;obtain⟨its2,r2,p2,_⟩:=I.tuple hb;have i1:IntsAre its.toArray.toList ns:=intsAre_of r1;have i2:IntsAre its2.toArray.toList ms:=intsAre_of r2;exact HT.CW p1 p2 i1 i2 hu ⟨.bl (HT.lexLt ns ms),H,I,rfl,q⟩
end
noncomputable def Ox(n:Nat)(i:Int):Option Nat:=if 0<=i then(if i<n then some i.toNat else none)else if-(n:Int)<=i then some (i+n).toNat else none
noncomputable def AQ{α:Type}(xs:List α)(i:Int):Option α:=(Ox xs.length i).bind λj=>xs[j]?
theorem Fo{n:Nat}{i:Int}{j:Nat}(h:Ox n i=some j):seqIndex? i n=some j/\j<n/\ -(n:Int)<=i/\i<n:=by
 unfold Ox at h
 by_cases h0:0<=i
 ·rw[if_pos h0]at h
  by_cases h1:i<n
  ·rw[if_pos h1]at h
   have e:i.toNat=j:=Option.some.inj h;exact⟨by rw[seqIndex_of h0 h1,e],by omega,by omega,h1⟩
  ·rw[if_neg h1]at h;cases h
 ·rw[if_neg h0]at h
  by_cases h1: -(n:Int)<=i
  ·rw[if_pos h1]at h
   have e:(i+n).toNat=j:=Option.some.inj h;exact⟨by rw[seqIndex_neg (by omega) h1,e],by omega,h1,by omega⟩
  ·rw[if_neg h1]at h;cases h
theorem Fp{α:Type}{xs:List α}{i:Int}{v:α}(h:AQ xs i=some v):∃j,seqIndex? i xs.length=some j/\xs[j]?=some v/\j<xs.length/\ -(xs.length:Int)<=i/\i<xs.length:=by
 unfold AQ at h
 cases e:Ox xs.length i with
 |none=>rw[e]at h;cases h
 |some j=>
  rw[e]at h;obtain⟨h1,h2,h3,h4⟩:=Fo e;exact⟨j,h1,h,h2,h3,h4⟩
theorem Fq{α:Type}{xs:List α}{j:Nat}{v:α}(h:xs[j]?=some v):AQ xs (j:Int)=some v:=by
 have hj:j<xs.length:=(aat.mp h).1;have e:Ox xs.length (j:Int)=some j:=by
  unfold Ox;rw[if_pos (by omega),if_pos (by omega)];simp
 unfold AQ;rw[e];exact h
noncomputable def MD(b:Expr):Prop:=∀o i,subscripted b false o i=operate [o,i] (getItem o i)
noncomputable def Uv(X:Cx)(r:R2):Prop:=
 ∀(value slice:Expr)(pins:List (Addr×Obj))(s:Shared)(σ:St)(H:Hp)(x y:V)(v u:Value)(Q:VK),Inv X pins σ H s->RelV x v->RelV y u->r x y H Q->
  subscripted slice false v u=operate [v,u] (getItem v u) ->wpAny (model X.prog X.w) X.A (subscriptTail value slice v u) (EP X pins σ Q) X.xe s
noncomputable def VE(X:Cx)(id:String)(r:V->List V->Hp->VK->Prop):Prop:=
 ∀(pins:List (Addr×Obj))(s:Shared)(σ:St)(H:Hp)(x:V)(xs:List V)(v:Value)(us:List Value)(Q:VK),Inv X pins σ H s->RelV x v->Vals xs us->r x xs H Q->
  wpAny (model X.prog X.w) X.A (call (.builtin id) (v::us)) (EP X pins σ Q) X.xe s
section
variable{X:Cx}{a b:Expr}{ta tb:TE}{pos:Pos}
theorem aO{r:R2}(hr:Uv X r)(ha:PE X a ta)(hb:PE X b tb)(hs:MD b):PE X (.Subscript a b pos) (ku r ta tb):=by
 intro pins s σ H Q I h;exact Subscript_ (Pn ha hb I h λv u s2 x y H2 I2 rx ry q=>hr a b pins s2 σ H2 x y v u Q I2 rx ry q (hs _ _))
inductive VF(K:PySem.W.Frag)(x y:V)(H:Hp)(Q:VK):Prop
 |mk(p:Addr)(xs:List V)(i:Int)(v:V)(ex:x= .ref p)(ey:y= .int i)(s:aZ K H p xs)(a:AQ xs i=some v)(q:Q v H)
noncomputable def j4(K:PySem.W.Frag):R2:=VF K
inductive VG(K:PySem.W.Frag)(x y:V)(H:Hp)(Q:VK):Prop
 |mk(p:Addr)(xs:List V)(i:Int)(v:V)(ex:x= .ref p)(ey:y= .int i)(s:nZ K H p xs)(a:AQ xs i=some v)(q:Q v H)
noncomputable def VH(K:PySem.W.Frag):R2:=VG K
theorem aC:Uv X (j4 X.K):=by
 intro value slice pins s σ H x y v u Q I rx ry h hs;obtain⟨p,xs,i,z,rfl,rfl,hq,he,q⟩:=h;cases rx;obtain⟨t,rfl⟩:=ry;obtain⟨its,r,pl,hz⟩:=I.list hq;obtain⟨j,h1,h2,h3,h4,h5⟩:=Fp he;obtain⟨w,ew,rw'⟩:=r.get h2;have hl:=r.length;have hn:=zE;have fin:EP X pins σ Q w s:=⟨z,H,I,rw',q⟩
 by_cases h0:0<=i
 ·have hj:i.toNat=j:=by
   rw[seqIndex_of h0 h5]at h1;exact Option.some.inj h1
  exact item_listR pl.isList h0 (by omega) (by rw[hj];simpa using ew) fin hs
 ·have hj:(i+(its.toArray.size:Int)).toNat=j:=by
   rw[seqIndex_neg (by omega) h4]at h1;rw[aaG,<-hl];exact Option.some.inj h1
  exact subscriptTail_builtinR (x:=w) pl.isList.typeIs slot_list_getitem.lookup
   (wpAny_getItem_list_neg (Q:=λr s'=>r=w/\EP X pins σ Q r s') pl.isList (by omega) (by rw[aaG]<;>omega) (by omega) (by rw[hj];simpa using ew) ⟨rfl,fin⟩) hs
theorem Dc:Uv X (VH X.K):=by
 intro value slice pins s σ H x y v u Q I rx ry h hs;obtain⟨p,xs,i,z,rfl,rfl,hq,he,q⟩:=h;cases rx;obtain⟨t,rfl⟩:=ry;obtain⟨its,r,pl,hz⟩:=I.tuple hq;obtain⟨j,h1,h2,h3,h4,h5⟩:=Fp he;obtain⟨w,ew,rw'⟩:=r.get h2;have hl:=r.length;have hn:=zE;have fin:EP X pins σ Q w s:=⟨z,H,I,rw',q⟩;exact subscriptTail_builtinR (x:=w) pl.typeIs slot_tuple_getitem.lookup
  (getItem_tuple (j:=j) (Q:=λr s'=>r=w/\EP X pins σ Q r s') pl (by omega) (by omega) (by rw[aaG,<-hl];exact h1) (by simpa using ew) ⟨rfl,fin⟩) hs
theorem Dd(its:List Value)(n j:Nat)(u:Value):Obj.mapSeq (·.setIfInBounds j u) {cls:= .type "list",data:= .seq its.toArray n}={cls:= .type "list",data:= .seq (its.set j u).toArray n}:=by
 simp[Obj.mapSeq]
theorem Inv.lst{pins:List (Addr×Obj)}{σ:St}{H:Hp}{s:Shared}{p:Addr}{xs:List V}(I:Inv X pins σ H s)(h:H p=some (.lst xs)):
  ∃(its:List Value)(n:Nat),Vals xs its/\s.heap.get? p=some {cls:= .type "list",data:= .seq its.toArray n}/\xs.length<=sizeLine:=by
 obtain⟨z,its,n,r,e⟩:=I.hok p _ h;exact⟨its,n,r,e,z⟩
theorem Inv.PC{pins:List (Addr×Obj)}{σ:St}{H:Hp}{s:Shared}{p:Addr}{xs ys:List V}{its its':List Value}{n n':Nat}{f:Obj->Obj}(I:Inv X pins σ H s)(h:H p=some (.lst xs))
  (ho:s.heap.get? p=some {cls:= .type "list",data:= .seq its.toArray n})(hf:f {cls:= .type "list",data:= .seq its.toArray n}={cls:= .type "list",data:= .seq its'.toArray n'})(r:Vals ys its')(hz:ys.length<=sizeLine)(t:Nat):
  Inv X pins σ (upd H p (.lst ys)) {s with heap:=s.heap.update p f,toks:=t}:=by
 have e:(s.heap.update p f).get? p=some {cls:= .type "list",data:= .seq its'.toArray n'}:=by
  rw[Heap.get?_update_self f ho (by rw[hf]<;>rfl),hf]
 refine I.write (x:=p) (e:=p) (by rw[h];trivial) (.inl rfl) (λb u hb q=>(Heap.get?_update_other _ _ (Ne.symm hb)).trans q) ⟨_,e⟩ ?_;exact⟨hz,its',n',r,e⟩
noncomputable def Se:V->V->V->Hp->(Hp->Prop) ->Prop:=λo i v H Q=> ∃p xs k j,o= .ref p/\i= .int k/\H p=some (.lst xs)/\Ox xs.length k=some j/\Q (upd H p (.lst (xs.set j v)))
theorem set_list:RN X Se:=by
 intro pins s σ H o i v ov iv u Q I ro ri rv h;obtain⟨p,xs,k,j,rfl,rfl,hp,hj,q⟩:=h;cases ro;obtain⟨t,rfl⟩:=ri;obtain⟨its,n,r,ho,hz⟩:=I.lst hp;obtain⟨h1,h2,h3,h4⟩:=Fo hj;have hl:=r.length;have hn:=zE;have I':Inv X pins σ (upd H p (.lst (xs.set j v))) {s with heap:=s.heap.update p (Obj.mapSeq (·.setIfInBounds j u))}:=
  I.PC hp ho (Dd its n j u) (r.set rv j) (by rw[List.length_set];exact hz) s.toks
 by_cases h0:0<=k
 ·have hk:k.toNat=j:=by
   rw[seqIndex_of h0 h4]at h1;exact Option.some.inj h1
  exact PySem.W.ki_setAt ho h0 (by omega) (by rw[aaG,<-hl];exact h4) (by rw[hk];exact⟨_,I',q⟩)
 ·have hk:(k+(its.toArray.size:Int)).toNat=j:=by
   rw[seqIndex_neg (by omega) h3]at h1;rw[aaG,<-hl];exact Option.some.inj h1
  exact PySem.W.ki_setBack ho (by omega) (by rw[aaG,<-hl];exact h3) (by omega) (by rw[hk];exact⟨_,I',q⟩)
theorem zG(lo hi:Option Int)(n:Nat):(sliceBounds lo hi none n).1=((HT.Ba n 0 lo:Nat):Int)/\(sliceBounds lo hi none n).2.1=((HT.Ba n n hi:Nat):Int)/\(sliceBounds lo hi none n).2.2=1:=by
 refine⟨?_,?_,rfl⟩
 ·cases lo with
  |none=>simp[sliceBounds,HT.Ba]
  |some i=>
   simp only[sliceBounds,HT.Ba,Option.getD_none,show(1:Int)>0 by decide,if_true]
   by_cases h:i<0
   ·simp only[h,if_true]<;>omega
   ·simp only[h,if_false]<;>omega
 ·cases hi with
  |none=>simp[sliceBounds,HT.Ba]
  |some i=>
   simp only[sliceBounds,HT.Ba,Option.getD_none,show(1:Int)>0 by decide,if_true]
   by_cases h:i<0
   ·simp only[h,if_true]<;>omega
   ·simp only[h,if_false]<;>omega
theorem xY(its:List Value)(lo hi:Option Int):slicePick its.toArray lo hi none=((its.drop (HT.Ba its.length 0 lo)).take (HT.Ba its.length its.length hi-HT.Ba its.length 0 lo)).toArray:=by
 obtain⟨h1,h2,h3⟩:=zG lo hi its.toArray.size;unfold slicePick;rw[h1,h2,h3];simp only[sliceRange_one,pick_run,aaG]<;>rfl
noncomputable def VI(K:PySem.W.Frag):V->Option Int->Option Int->Hp->VK->Prop:=λx lo hi H Q=> ∃a xs,x= .ref a/\aZ K H a xs/\ ∀p,H p=none->Q (.ref p) (upd H p (.lst (CZ xs lo hi)))
theorem ME:Xj X (VI X.K):=by
 intro pins s σ H x v vl vu lo hi sl Q I rx hs pl pu h;obtain⟨a,xs,rfl,hx,q⟩:=h;cases rx;obtain⟨its,r,ht,hz⟩:=I.list hx;have hlen:=r.length;refine⟨"list",_,slot_list_getitem.lookup,ht.isList.typeIs,?_⟩;refine wpAny_getItem_list_slice ht.isList hs pl pu .none (by simp) ?_ (by rw[aaG]<;>omega);rw[xY,<-hlen];refine⟨.ref s.heap.objs.size,_,I.laid (t':=s.toks) (o:= .lst (CZ xs lo hi)) (λb ob q=>Heap.get?_push_of_some _ q) (aav _) ?_,rfl,q _ (I.hok.fresh (aav _))⟩;exact⟨aa8 (Bb xs lo hi) hz,_,0,(r.drop (HT.Ba xs.length 0 lo)).take (HT.Ba xs.length xs.length hi-HT.Ba xs.length 0 lo),Heap.get?_push_size _ rfl⟩
noncomputable def uF:V->Bool
 | .gF=>true
 | .bl _=>true
 | .int _=>true
 | .str _=>true
 |_=>false
noncomputable def MF:V->V->Bool
 | .gF,.gF=>true
 | .bl a,.bl b=>a==b
 | .bl a,.int b=>(if a then 1 else 0)==b
 | .int a,.bl b=>a==(if b then 1 else 0)
 | .int a,.int b=>a==b
 | .str a,.str b=>a==b
 |_,_=>false
theorem PD{A:Around}{s:Shared}{y x:V}{u v:Value}(ry:RelV y u)(rx:RelV x v)(fy:uF y=true)(fx:uF x=true):SeqAt.EqAt A s u v (MF y x):=by
 cases y with
 |gF=>
  cases ry
  cases x with
  |gF=>cases rx;exact SeqAt.EqAt.same _
  |bl b=>cases rx;exact SeqAt.EqAt.none_bool b
  |int b=>obtain⟨t,rfl⟩:=rx;exact SeqAt.EqAt.none_int b t
  |str b=>obtain⟨t,rfl⟩:=rx;exact SeqAt.EqAt.none_str b t
  |_=>exact absurd (show false=true from fx) aaw
 |bl a=>
  cases ry
  cases x with
  |gF=>cases rx;exact SeqAt.EqAt.bool_none a
  |bl b=>cases rx;exact SeqAt.EqAt.bool_bool a b
  |int b=>obtain⟨t,rfl⟩:=rx;exact SeqAt.EqAt.bool_int a b t
  |str b=>obtain⟨t,rfl⟩:=rx;exact SeqAt.EqAt.bool_str a b t
  |_=>exact absurd (show false=true from fx) aaw
 |int a=>
  obtain⟨t',rfl⟩:=ry
  cases x with
  |gF=>cases rx;exact SeqAt.EqAt.int_none a t'
  |bl b=>cases rx;exact SeqAt.EqAt.int_bool a t' b
  |int b=>obtain⟨t,rfl⟩:=rx;exact SeqAt.EqAt.int_int a t' b t
  |str b=>obtain⟨t,rfl⟩:=rx;exact SeqAt.EqAt.int_str a t' b t
  |_=>exact absurd (show false=true from fx) aaw
 |str a=>
  obtain⟨t',rfl⟩:=ry
  cases x with
  |gF=>cases rx;exact SeqAt.EqAt.str_none a t'
  |bl b=>cases rx;exact SeqAt.EqAt.str_bool a t' b
  |int b=>obtain⟨t,rfl⟩:=rx;exact SeqAt.EqAt.str_int a t' b t
  |str b=>obtain⟨t,rfl⟩:=rx;exact SeqAt.EqAt.str_str a t' b t
  |_=>exact absurd (show false=true from fx) aaw
 |_=>exact absurd (show false=true from fy) aaw
noncomputable def MI(x:V)(u:Value):Bool:=match u with
 | .none=>MF .gF x
 | .bool b=>MF (.bl b) x
 | .int i _=>MF (.int i) x
 | .str z _=>MF (.str z) x
 |_=>false
theorem Jj{x y:V}{u:Value}(r:RelV y u)(f:uF y=true):MI x u=MF y x:=by
 cases y with
 |gF=>cases r;rfl
 |bl b=>cases r;rfl
 |int i=>obtain⟨t,rfl⟩:=r;rfl
 |str z=>obtain⟨t,rfl⟩:=r;rfl
 |_=>exact absurd (show false=true from f) aaw
theorem zH{x:V}:∀{xs:List V}{us:List Value},Vals xs us->xs.all uF=true->us.any (MI x)=xs.any λy=>MF y x
 |_,_,.nil,_=>rfl
 |y::xs,u::us,.cons r t,f=>by
  rw[List.all_cons,aa5]at f;rw[List.any_cons,List.any_cons,Jj r f.1,zH t f.2]
theorem we{A:Around}{s:Shared}{x:V}{v:Value}(rx:RelV x v)(fx:uF x=true):∀{xs:List V}{us:List Value},Vals xs us->xs.all uF=true-> ∀u∈us,SeqAt.EqAt A s u v (MI x u)
 |_,_,.nil,_=>λu hu=>by cases hu
 |y::xs,u::us,.cons r t,f=>λu' hu=>by
  rw[List.all_cons,aa5]at f;rcases aar.mp hu with rfl|hu
  ·rw[Jj r f.1];exact PD r rx f.1 fx
  ·exact we rx fx t f.2 u' hu
noncomputable def Rc(x:V)(xs:List V):Bool:=xs.any λy=>MF y x
noncomputable def YX(K:PySem.W.Frag)(neg:Bool):R2:=λx y H Q=> ∃p xs,y= .ref p/\(aZ K H p xs∨nZ K H p xs)/\uF x=true/\xs.all uF=true/\Q (.bl (if neg then !Rc x xs else Rc x xs)) H
theorem GW:r6 X (compareOp .In) (YX X.K false):=by
 intro pins s σ H x y v u Q I rx ry h;obtain⟨p,xs,rfl,hq,fx,fs,q⟩:=h;cases ry;rcases hq with hq|hq
 ·obtain⟨its,r,pl,hz⟩:=I.list hq
  refine SeqAt.in_listAt (MI x) pl.isList (λw hw=>we rx fx r fs w (by simpa using hw)) ⟨.bl _,H,I,rfl,?_⟩;rw[show its.toArray.any (MI x)=its.any (MI x)by simp,zH r fs];exact q
 ·obtain⟨its,r,pl,hz⟩:=I.tuple hq
  refine SeqAt.in_tupleAt (MI x) pl (λw hw=>we rx fx r fs w (by simpa using hw)) ⟨.bl _,H,I,rfl,?_⟩;rw[show its.toArray.any (MI x)=its.any (MI x)by simp,zH r fs];exact q
theorem gc:pQ X (.builtin "len") (λxs H Q=> ∃p ys,xs=[.ref p]/\(aZ X.K H p ys∨nZ X.K H p ys)/\Q (.int ys.length) H):=by
 intro pins s σ H xs us Q I r h;obtain⟨p,ys,rfl,hq,q⟩:=h;obtain⟨u,rfl,rx⟩:=vals1 r;cases rx;have hn:=zE;rcases hq with hq|hq
 ·obtain⟨its,r',pl,hz⟩:=I.list hq
  have hlen:=r'.length;exact Calls.call_len_list pl.isList (by simp only[aaG]<;>omega) ⟨.int ys.length,H,I.tok _,⟨s.toks+1,by rw[aaG,hlen]⟩,q⟩
 ·obtain⟨its,r',pl,hz⟩:=I.tuple hq
  have hlen:=r'.length;exact len_tuple pl (by simp only[aaG]<;>omega) ⟨.int ys.length,H,I.tok _,⟨s.toks+1,by rw[aaG,hlen]⟩,q⟩
theorem qX:pQ X (.type "list") (λxs H Q=> ∃p ys,xs=[.ref p]/\(aZ X.K H p ys∨nZ X.K H p ys)/\ ∀l,H l=none->Q (.ref l) (upd H l (.lst ys))):=by
 intro pins s σ H xs us Q I r h;obtain⟨p,ys,rfl,hq,q⟩:=h;obtain⟨u,rfl,rx⟩:=vals1 r;cases rx;have fin:∀(its:List Value),Vals ys its->ys.length<=sizeLine-> ∀(h':Heap)(c':Nat),(∀b o',s.heap.get? b=some o'->h'.get? b=some o') ->
   h'.get? s.heap.objs.size=some {cls:= .type "list",dict:=none,data:= .seq its.toArray c',slots:= #[]} ->EP X pins σ Q (.ref s.heap.objs.size) {s with heap:=h'}:=λits r' hz h' c' kp e=>
  ⟨.ref s.heap.objs.size,_,I.laid (t':=s.toks) kp (aav _) (show f6 X.prog X.w _ h' _ (.lst ys)from⟨hz,its,c',r',e⟩),rfl,q _ (I.hok.fresh (aav _))⟩
 rcases hq with hq|hq
 ·obtain⟨its,r',pl,hz⟩:=I.list hq
  have hlen:=r'.length;obtain⟨o,ho,hc,n,hd⟩:=pl.isList;exact call_list_seq p (.inl rfl) ho hc hd (λh' c' kp e=>fin its r' hz h' c' kp e) (by simp only[aaG]<;>omega)
 ·obtain⟨its,r',pl,hz⟩:=I.tuple hq
  have hlen:=r'.length;obtain⟨o,ho,hc,n,hd⟩:=pl;exact call_list_seq p (.inr rfl) ho hc hd (λh' c' kp e=>fin its r' hz h' c' kp e) (by simp only[aaG]<;>omega)
noncomputable def VJ(K:PySem.W.Frag)(T:String)(x:V)(H:Hp):Prop:=match x with
 | .str _=>T= "str"
 | .int _=>T= "int"
 | .ref p=>(T= "list"/\ ∃xs,aZ K H p xs)∨(T= "tuple"/\ ∃o,K.lookup p=some o/\o.cls= .type "tuple"/\o.dict=none)∨
   (T= "dict"/\((∃kvs,H p=some (.dK kvs))∨ ∃kvs,H p=some (.dT kvs)))∨(T= "set"/\ ∃S n,H p=some (.set S n))
 |_=>False
theorem Jk{pins:List (Addr×Obj)}{σ:St}{H:Hp}{s:Shared}{T:String}{x:V}{v:Value}(I:Inv X pins σ H s)(r:RelV x v)(ty:VJ X.K T x H):
  s.TypeIs v T/\ ∀a,v= .ref a-> ∃ob,s.heap.get? a=some ob/\ob.dict=none:=by
 cases x with
 |str z=>
  obtain⟨t,rfl⟩:=r;cases(show T= "str" from ty);exact⟨typeIs_str s z t,λ_ e=>nomatch e⟩
 |int i=>
  obtain⟨t,rfl⟩:=r;cases(show T= "int" from ty);exact⟨typeIs_int s i t,λ_ e=>nomatch e⟩
 |ref p=>
  cases r;rcases ty with⟨rfl,xs,hq⟩|⟨rfl,o,hk,hc,hd⟩|⟨rfl,hk⟩|⟨rfl,S,n,hk⟩
  ·obtain⟨its,_,pl,_⟩:=I.list hq
   refine⟨pl.isList.typeIs,λa e=> ?_⟩;cases e;obtain⟨o,n,e,c,hd,_⟩:=pl;exact⟨o,e,hd⟩
  ·refine⟨⟨o,I.zB p o hk,hc⟩,λa e=> ?_⟩
   cases e;exact⟨o,I.zB _ o hk,hd⟩
  ·have z:∃o,s.heap.get? p=some o/\o.ExactDict:=by
    rcases hk with⟨kvs,hk⟩|⟨kvs,hk⟩
    ·obtain⟨_,_,_,_,o,_,_,e,ex,_⟩:=I.hok p _ hk
     exact⟨o,e,ex⟩
    ·obtain⟨_,_,_,_,o,_,_,e,ex,_⟩:=I.hok p _ hk
     exact⟨o,e,ex⟩
   obtain⟨o,e,ex⟩:=z;refine⟨⟨o,e,ex.1⟩,λa e2=> ?_⟩;cases e2;exact⟨o,e,ex.2.1⟩
  ·obtain⟨o,_,_,_,e,ex,_⟩:=I.hok p _ hk
   refine⟨⟨o,e,ex.1⟩,λa e2=> ?_⟩;cases e2;exact⟨o,e,ex.2.1⟩
 |_=>exact False.elim ty
noncomputable def VL(K:PySem.W.Frag)(T:String)(r:V->List V->Hp->VK->Prop)(to:TE):TE:=λσ H Q=>to σ H λx H1=>VJ K T x H1/\r x [] H1 Q
noncomputable def YY(K:PySem.W.Frag)(T:String)(r:V->List V->Hp->VK->Prop)(to:TE)(t:TA):TE:=λσ H Q=>to σ H λx H1=>VJ K T x H1/\t σ H1 λxs H2=>r x xs H2 Q
variable{o e:Expr}{es:List Expr}{to:TE}{t:TA}{name:Str}{apos cpos:Pos}{T id:String}{r:V->List V->Hp->VK->Prop}
theorem Jl(pa:PlainAttrs T)(slot:Slot T name id)(hty:typeOf (.builtin id)=pure (.type "method_descriptor"))(hm:VE X id r)(ho:PE X o to)
  (hbase:attributeBase o name X.env (eval o X.env)=eval o X.env:=by rfl)(hline:(apos.endLine==cpos.line)=true:=by rfl):PE X (.Call (.Attribute o name apos) [] [] cpos) (VL X.K T r to):=by
 intro pins s σ H Q I h;refine wpAny_Call_method0_late hbase hline (gD (ho pins s σ H _ I h) λv s1 ⟨x,H1,I1,r1,ty,q1⟩=> ?_);obtain⟨h1,h2⟩:=Jk I1 r1 ty;exact⟨T,id,pa,slot,hty,h1,h2,Calls.callWith_builtin rfl (PySem.evalArgs_none (hm pins s1 σ H1 x [] v [] Q I1 r1 .nil q1))⟩
theorem Oz(pa:PlainAttrs T)(slot:Slot T name id)(hty:typeOf (.builtin id)=pure (.type "method_descriptor"))(hm:VE X id r)(ho:PE X o to)(ha:PA X (e::es) t)
  (hbase:attributeBase o name X.env (eval o X.env)=eval o X.env:=by rfl)
  (hfew:((backTo cpos (starEach (e::es) X.env)).all (λx=> !x.1) && (backToKw cpos (keywordEach [] X.env)).all (λx=>x.1.isSome)
   && decide ((e::es).length+([]:List Keyword).length+(if([]:List Keyword).isEmpty then 0 else 1)<30))=true:=by rfl)
  (hline:(apos.endLine==cpos.line)=true:=by rfl)(hs:starEach (e::es) X.env=(false,eval e X.env)::starEach es X.env:=by rfl)(hplain:(backTo cpos (starEach es X.env)).any (·.1)=false:=by rfl):
  PE X (.Call (.Attribute o name apos) (e::es) [] cpos) (YY X.K T r to t):=by
 intro pins s σ H Q I h;refine wpAny_Call_method_late hbase hfew hline rfl (gD (ho pins s σ H _ I h) λv s1 ⟨x,H1,I1,r1,ty,q1⟩=> ?_);obtain⟨h1,h2⟩:=Jk I1 r1 ty;refine⟨T,id,pa,slot,hty,h1,h2,?_⟩;have hA:=ha cpos pins s1 σ H1 _ I1 q1;rw[hs]at hA ⊢;refine Calls.callWith_builtin (by show(false||(backTo cpos (starEach es X.env)).any (·.1))=false;rw[hplain]<;>rfl) (Calls.evalArgs_plain ?_);exact gD hA λus s2 ⟨vs,H2,I2,r2,q2⟩=>hm pins s2 σ H2 x vs v us Q I2 r1 r2 q2
end
noncomputable def Xk(X:Cx)(id:String)(r:V->List V->Hp->VK->Prop):Prop:=
 ∀(pins:List (Addr×Obj))(s:Shared)(σ:St)(H:Hp)(x:V)(xs:List V)(v:Value)(us:List Value)(Q:VK),Inv X pins σ H s->RelV x v->Vals xs us->r x xs H Q->
  wpAny (model X.prog X.w) X.A (call (.builtin id) (v::us)) (EP X pins σ Q) X.xe s
theorem Vals.one:∀{x:V}{us:List Value},Vals [x] us-> ∃u,us=[u]/\RelV x u
 |_,_,.cons r .nil=>⟨_,rfl,r⟩
theorem Vals.two:∀{x y:V}{us:List Value},Vals [x,y] us-> ∃u v,us=[u,v]/\RelV x u/\RelV y v
 |_,_,_,.cons r (.cons q .nil)=>⟨_,_,rfl,r,q⟩
theorem Vals.zero:∀{us:List Value},Vals [] us->us=[]
 |_,.nil=>rfl
section
variable{X:Cx}{pins:List (Addr×Obj)}{σ:St}{H:Hp}{s:Shared}{l b:Addr}{xs ys zs:List V}
theorem Inv.Sf{its its':List Value}{n:Nat}{f:Array Value->Array Value}{t':Nat}(I:Inv X pins σ H s)(hH:H l=some (.lst xs))
  (e:s.heap.get? l=some {cls:= .type "list",data:= .seq its.toArray n})(hf:f its.toArray=its'.toArray)(hv:Vals ys its')(hz:ys.length<=sizeLine):
  Inv X pins σ (upd H l (.lst ys)) {s with heap:=s.heap.update l (Obj.mapSeq f),toks:=t'}:=by
 have q:=PySem.IsL.update e f;rw[hf]at q;refine I.write (x:=l) (e:=l) (by rw[hH];exact trivial) (.inl rfl) (λb' u hb hu=>(Heap.get?_update_other s.heap (Obj.mapSeq f) (Ne.symm hb)).trans hu) ⟨_,q⟩ ?_;exact⟨hz,its',_,hv,q⟩
theorem Inv.fresh(I:Inv X pins σ H s):H s.heap.objs.size=none:=I.hok.fresh (aav _)
theorem Inv.Sh(I:Inv X pins σ H s)(hH:H l=some (.lst xs)):xs.length<=sizeLine/\ ∃(its:List Value)(n:Nat),Vals xs its/\xs.length=its.length/\s.heap.get? l=some {cls:= .type "list",data:= .seq its.toArray n}:=by
 obtain⟨z,its,n,r,e⟩:=I.hok l _ hH;exact⟨z,its,n,r,r.length,e⟩
end
section
variable{X:Cx}
noncomputable def MJ:V->List V->Hp->VK->Prop:=λx vs H Q=> ∃l xs y,x= .ref l/\vs=[y]/\H l=some (.lst xs)/\xs.length<sizeLine/\Q .gF (upd H l (.lst (xs++ [y])))
theorem mF:Xk X "list.append" MJ:=by
 intro pins s σ H x vs v us Q I rx rv h;obtain⟨l,xs,y,rfl,rfl,hH,hz,q⟩:=h;cases rx;obtain⟨u,rfl,ru⟩:=rv.one;obtain⟨z,its,n,r,hl,e⟩:=I.Sh hH;refine call_meets F.slot_list_append ⟨_,e,rfl⟩ F.entry_list_append (F.args_list_append_2 _ _) (PySem.list_append l its.toArray n u (by rw[aaG];omega)) ⟨e,?_⟩;refine⟨.gF,_,I.Sf (its':=its++ [u]) hH e (by simp) (r.append (.cons ru .nil)) ?_,rfl,q⟩;rw[aaC,List.length_singleton];omega
noncomputable def PF:V->List V->Hp->VK->Prop:=λx vs H Q=> ∃l xs,x= .ref l/\vs=[]/\H l=some (.lst xs)/\Q .gF (upd H l (.lst []))
theorem Jm:Xk X "list.clear" PF:=by
 intro pins s σ H x vs v us Q I rx rv h;obtain⟨l,xs,rfl,rfl,hH,q⟩:=h;cases rx;have VM:=rv.zero;subst VM;obtain⟨z,its,n,r,hl,e⟩:=I.Sh hH;refine call_meets F.slot_list_clear ⟨_,e,rfl⟩ F.entry_list_clear (F.args_list_clear_1 _) (AutoSeq1.list_clear_list_0 l its.toArray n (by rw[aaG];omega)) ⟨e,?_⟩;exact⟨.gF,_,I.Sf (its':=[]) (ys:=[]) hH e rfl .nil (aa3 _),rfl,q⟩
end
section
variable{prog:Program}{w:World}{A:Around}{E:Value->Shared->Prop}{s:Shared}
end
section
variable{X:Cx}
end
end L2
namespace Xl
open PySem PySem.W PySem.Calls PyProof.Rows
theorem vd{P:Params}{h:Heap}:∀(ns:List Int)(vs:List Value),WellAll P h vs (ns.map WData.int) ->IntsAre vs ns:=by
 intro ns
 induction ns with
 |nil=>
  intro vs w;rw[ad5]at w;cases w;exact .nil
 |cons n ns ih=>
  intro vs w;rw[abp]at w
  cases w with
  |cons a b=>
   cases a;exact .cons _ _ (ih _ b)
theorem GX{l:OpenLaw}{n:Nat}(hn:l.most=some n){P:Params}{h:Heap}{args:List WData}{vals:List Value}
  (hpre:l.row.toRowW.claim.pre args=true)(hwl:WellAll P h vals args):
  ∃a vs ns,vals=[Value.ref a]/\args=[WData.list (ns.map WData.int)]/\h.get? a=some {cls:= .type "list",data:= .seq vs.toArray}/\IntsAre vs ns/\ns.length<=n:=by
 have hsh:WShape.hasAll [] args [.list .int]=true:=(pre_splitW hpre).1;have hc:l.pre.holds [] {args:=args}=true:=(pre_splitW hpre).2;obtain⟨d,r,rfl,h1,h2⟩:=hasAllW_cons hsh;obtain rfl:=hasAllW_nil h2;obtain⟨xs,rfl,h3⟩:=hasW_list h1;obtain⟨ns,rfl⟩:=items_int h3;have hlen:ns.length<=n:=by
  unfold OpenLaw.pre at hc;have h4:(WTm.not (.lt (.lit (.int (n:Int))) (.len (.arg 0)))).holds [] {args:=[.list (ns.map .int)]}=true:=by
   have h4:=(holds_andW hc).1;rw[hn]at h4;exact h4
  have h5:=condW_of h4 (w_not (w_lt w_lit (w_len_list (w_arg rfl))));rw[aau]at h5;refine Nat.le_of_not_lt λq=> ?_;have q':(n:Int)<((ns.length:Nat):Int):=by omega
  first
   |(rw[decide_eq_true q']at h5;exact absurd h5 (by decide))
   |(simp at h5;omega)
 cases hwl with
 |cons w1 w2=>
  cases w2
  cases w1 with
  |list ho hall=>exact⟨_,_,ns,rfl,rfl,ho,vd ns _ hall,hlen⟩
theorem GY(l:OpenLaw)(args:List WData):l.row.toRowW.claim.post args (.bool true) args=true:=
 postW_of (r:=l.row.toRowW) (X:=(true==true))
  (show WShape.has [] (.bool true) .bool=true by first|rfl|decide|simp[WShape.has,WShape.arms,WShape.armsAll])
  (show(WTm.eq .res (.lit (.bool true))).value [] {args:=args,res:=some (.bool true),after:=args}=some (.bool (true==true))from w_eq_bool (w_res rfl) w_lit) rfl
theorem Bc{l:OpenLaw}{n:Nat}{q:Program}{loose:List Str}{XP:(Str->Option Value) ->Heap->Prop}{YP:World->Heap->Prop}{d:DefRec}
  (hn:l.most=some n)(hdf:d.params.defaults=[])
  (call:∀(w:World)(s₀ s₁:Shared)(mg mb:Str->Option Value)(fa:Addr)(o:Obj)(pm cd doc:Value)(a:Addr)(vs:List Value)(ns:List Int),
   Ground q loose [] XP w s₀ mg mb s₁.heap->YP w s₁.heap->
   s₁.heap.get? fa=some o->o.data= .func (docDef d.name d.params d.body d.scope pm cd doc) ->s₁.heap.CodeRec cd d.name->mg d.name=some (.ref fa) ->
   s₁.heap.get? a=some {cls:= .type "list",data:= .seq vs.toArray} ->IntsAre vs ns->ns.length<=n->s₁.gens= #[] ->
   codeAny (model l.prog w) callerA (.call (.ref fa) ⟨[.ref a],[]⟩) (λr s'=>r= .ok (.ret (.bool true))/\OldK s₁.heap s'.heap/\s'.os=s₁.os/\AllBare s'.gens) s₁):
  WalkO q loose XP YP l.row.toRowW d [] (λf vs=>PySem.call f vs):=by
 intro w s₀ s₁ mg mb G Y fa o pm cd doc dV kV ho hd hcd hD hmg hg args vals as hpre hlay hrd hwl hlo;obtain rfl:dV= .none:=Dflts.none hD hdf;obtain rfl:kV= .none:=Dflts.noKw hD;obtain⟨a,vs,ns,rfl,rfl,hobj,hints,hlen⟩:=GX hn hpre hwl;refine enter_call (codeAny_mono (call w s₀ s₁ mg mb fa o pm cd doc a vs ns G Y ho (fd_plain hd) hcd hmg hobj hints hlen hg) λr s' hq=> ?_);obtain⟨rfl,h2,h3,h4⟩:=hq;exact⟨.inl ⟨.bool true,.bool true,[],rfl,λ_=>rfl,.bool true,GY l _,λ_=>⟨List.Pairwise.nil,λ_ hm=>(nomatch hm)⟩⟩,h2,h3,h4⟩
section
variable{prog:Program}{w:World}{A:Around}{E:Value->Shared->Prop}{s:Shared}{K:Frag}
noncomputable def ledger(h:Heap)(L d:Addr):List (Addr×Obj):=(abx h.objs.size).filterMap λa=>if a=L∨a=d then none else(h.get? a).map λo=>(a,o)
end
end Xl
namespace L2
open PySem PySem.Spec PyProof.Rows
theorem yI:∀{vs:List Value}{ns:List Int},IntsAre vs ns->Vals (ns.map V.int) vs
 |_,_,.nil=> .nil
 |_,_,.cons n t h=> .cons ⟨t,rfl⟩ (yI h)
noncomputable abbrev KOf{K:PySem.W.Frag}{h:Heap}(_:K.In h):PySem.W.Frag:=K
noncomputable def ig(s:Stmt):Arguments:=match s with
 | .FunctionDef _ a _ _ _ _ _ _ _ _=>a
 |_=>{posonlyargs:=[],args:=[],vararg:=none,kwonlyargs:=[],kw_defaults:=[],kwarg:=none,defaults:=[]}
noncomputable def fQ(s:Stmt):List Stmt:=match s with
 | .FunctionDef _ _ b _ _ _ _ _ _ _=>b
 |_=>[]
noncomputable def aD(s:Stmt):Scope:=match s with
 | .FunctionDef _ _ _ _ _ _ sc _ _ _=>sc
 |_=>{kind:= .function,names:=[],isGenerator:=false,isCoroutine:=false}
noncomputable abbrev dz:GU:=λ_ _ _ _ _ _=>False
noncomputable abbrev E0:XK:=λ_ _ _=>False
theorem aM{X:Cx}:Passes dz X E0:=λ_ _ _ _ _ _ _ h=>h.elim
structure OA(K:PySem.W.Frag)(x qual:Str)(st:Stmt)(f:Addr)(fd:FuncData):Prop where
 ex:∃(oc:Value)(od:Option Addr)(kV doc pm:Value)(an:Option Addr)(cdv ct:Value)(osl:Array (Option Value)),
  fd=abm x qual (ig st) (fQ st) (aD st) .none kV doc pm an cdv ct/\K.lookup f=some ⟨oc,od,.func fd,osl⟩/\abA K cdv qual=true
 kp:abR K (.ref f)=true
section
variable{P:Program}{w:World}{K:PySem.W.Frag}{mg:Str->Option Value}{base:Heap}
theorem OA.ok{x qual:Str}{st:Stmt}{f:Addr}{fd:FuncData}{N ps:List Str}{k:Nat}{sp:Sp}(F:OA K x qual st f fd)(S:aR N ps (aD st))(len:∀vs H Q E,sp vs H Q E->vs.length=ps.length)
  (hbody:∀(cdv:Value)(A:Around)(outer:List Env)(s:Shared)(H:Hp)(vs:List V)(Q:VK)(E:XK),gk k (A.deeper (envOfC qual (aD st) s.heap.objs.size f cdv)) ->sp vs H Q E->
   ∃t,zC (zF dz P w K mg base N qual (aD st) f cdv A outer s H E).IM (fQ st) t/\t {nx:=λ_ H'=>Q .gF H',rt:=Q} (start N vs) H):qW P w K mg base dz (k+1) f fd ps sp:=by
 obtain⟨oc,od,kV,doc,pm,an,cdv,ct,osl,rfl,lk,hcd⟩:=F.ex;refine Ow lk hcd S len λA outer s H vs Q E hr Me=> ?_;obtain⟨t,h,q⟩:=hbody cdv A outer s H vs Q E hr Me;exact⟨t,h.IM,q⟩
theorem OA.binds{x qual:Str}{st:Stmt}{f:Addr}{fd:FuncData}{ps:List Str}(F:OA K x qual st f fd)
  (h:∀(kV doc pm:Value)(an:Option Addr)(cdv ct:Value)(us:List Value),us.length=ps.length->bindArgs (abm x qual (ig st) (fQ st) (aD st) .none kV doc pm an cdv ct) ⟨us,[]⟩=pure (ps.zip us)):Binds K fd ps []:=by
 obtain⟨oc,od,kV,doc,pm,an,cdv,ct,osl,rfl,lk,hcd⟩:=F.ex;exact .all (h kV doc pm an cdv ct)
theorem Jo{x qual:Str}{st:Stmt}{f:Addr}{oc:Value}{od an:Option Addr}{osl:Array (Option Value)}{kV doc pm cdv ct:Value}(l:K.lookup f=some ⟨oc,od,.func (abm x qual (ig st) (fQ st) (aD st) .none kV doc pm an cdv ct),osl⟩)
  (c:abA K cdv qual=true)(k:abR K (.ref f)=true):OA K x qual st f (abm x qual (ig st) (fQ st) (aD st) .none kV doc pm an cdv ct):=⟨⟨oc,od,kV,doc,pm,an,cdv,ct,osl,rfl,l,c⟩,k⟩
end
section
variable{X:Cx}
theorem pv(i:Nat){x:Str}{pos:Pos}(hN:X.N[i]?=some x:=by rfl)(hv:Oq X.env.scope x:=by first|exact Or.inl rfl|exact Or.inr (Or.inl rfl)|exact Or.inr (Or.inr rfl))(hd:(x==("__debug__":Str))=false:=by decide)
  (hcd:(x==("__classdict__":Str))=false:=by decide):PE X (.Name x pos) (bU i):=Pc hN hv hd hcd
end
theorem oB{A B:Prop}(h:B):if false=true then A else B:=by
 rw[if_neg aaw];exact h
theorem wg{A B:Prop}(h:A):if true=true then A else B:=by
 rw[if_pos rfl];exact h
theorem oh{c A B:Prop}[Decidable c](h1:c->A)(h2:¬c->B):if c then A else B:=by
 by_cases h:c
 ·rw[if_pos h]
  exact h1 h
 ·rw[if_neg h]
  exact h2 h
theorem wj{c A B:Prop}[Decidable c](hc:c)(h:B):if(!decide c)=true then A else B:=by
 rw[decide_eq_true hc];exact oB h
noncomputable def ay(H H':Hp):Prop:=∀b o,H b=some o->H' b=some o
theorem ay.refl(H:Hp):ay H H:=λ_ _ h=>h
theorem ay.trans{H H1 H2:Hp}(a:ay H H1)(b:ay H1 H2):ay H H2:=λc o h=>b c o (a c o h)
theorem ay.free{H H':Hp}(e:ay H H'){l:Addr}(h:H' l=adQ):H l=adQ:=by
 cases q:H l with
 |none=>rfl
 |some o=>
  rw[e l o q]at h;cases h
theorem ay.seq{K:PySem.W.Frag}{H H':Hp}{a:Addr}{xs:List V}(e:ay H H')(h:aZ K H a xs):aZ K H' a xs:=by
 rcases h with(h|⟨o,h⟩)|h
 ·exact .inl (.inl (e _ _ h))
 ·exact .inl (.inr ⟨o,e _ _ h⟩)
 ·exact .inr h
noncomputable def cK(env:Env):List (Str×NameKind) ->List (Str×Addr) ->List (Str×Addr)
 | [],acc=>acc
 |(n,k)::r,acc=>if k== .free then cK env r ((n,(env.cells.lookup n).getD 0)::acc)else cK env r acc
theorem pZ{env:Env}(f:Str×NameKind->List (Str×Addr) ->Sem (ForInStep (List (Str×Addr))))
  (hf:∀n k cs,f (n,k) cs=if k==NameKind.free then(do let a<-cellOf env n;pure (.yield ((n,a)::cs)))else pure (.yield cs)):
  ∀(ns:List (Str×NameKind))(acc:List (Str×Addr)),(∀y∈ns,y.2= .free->(env.cells.lookup y.1).isSome=true) ->forIn ns acc f=pure (cK env ns acc)
 | [],acc,_=>by rw[acC];rfl
 |(n,k)::r,acc,h=>by
  rw[adB,hf];have hr:∀y∈r,y.2= .free->(env.cells.lookup y.1).isSome=true:=λy hy=>h y (aay _ hy);unfold cK
  by_cases hk:(k==NameKind.free)=true
  ·rw[if_pos hk,if_pos hk]
   obtain⟨c,hc⟩:=acn.mp (h (n,k) aaD (beq_iff_eq.mp hk));have hc':env.cells.lookup n=some c:=hc;have e:cellOf env n=pure c:=by unfold cellOf;rw[hc']
   rw[e,pure_bind,pure_bind,hc'];exact pZ f hf r _ hr
  ·rw[if_neg hk,if_neg hk,pure_bind]
   exact pZ f hf r _ hr
theorem xZ{env:Env}{scope:Scope}(h:∀y∈scope.names,y.2= .free->(env.cells.lookup y.1).isSome=true):closureFor scope env=pure (cK env scope.names []):=by
 simp only[closureFor];rw[pZ (env:=env) _ (λn k cs=>by cases hk:k==NameKind.free<;>simp[hk]) _ _ h]
 rfl
theorem kB{env:Env}{y:Str}{c:Addr}:∀{ns:List (Str×NameKind)}{acc:List (Str×Addr)},(y,c)∈cK env ns acc->(y,c)∈acc∨((y,NameKind.free)∈ns/\c=(env.cells.lookup y).getD 0)
 | [],acc,h=> .inl h
 |(n,k)::r,acc,h=>by
  unfold cK at h
  split at h
  ·rename_i hk
   rcases kB h with h|⟨h,e⟩
   ·rcases aar.mp h with e|h
    ·cases e
     exact .inr ⟨by rw[beq_iff_eq.mp hk];exact aaD,rfl⟩
    ·exact .inl h
   ·exact .inr ⟨aay _ h,e⟩
  ·rcases kB h with h|⟨h,e⟩
   ·exact .inl h
   ·exact .inr ⟨aay _ h,e⟩
theorem lN{env:Env}{y:Str}:∀{ns:List (Str×NameKind)}{acc:List (Str×Addr)},acc.lookup y=some ((env.cells.lookup y).getD 0)∨(y,NameKind.free)∈ns->(cK env ns acc).lookup y=some ((env.cells.lookup y).getD 0)
 | [],acc,h=>by
  rcases h with h|h
  ·exact h
  ·cases h
 |(n,k)::r,acc,h=>by
  unfold cK
  split
  ·rename_i hk
   refine lN ?_
   by_cases hy:y=n
   ·subst hy
    exact .inl (by simp[adR])
   ·have hb:(y==n)=false:=by simpa using hy
    rcases h with h|h
    ·exact .inl (by rw[abD,hb];exact h)
    ·rcases aar.mp h with e|h
     ·cases e;exact absurd rfl hy
     ·exact .inr h
  ·rename_i hk
   refine lN ?_;rcases h with h|h
   ·exact .inl h
   ·rcases aar.mp h with e|h
    ·cases e;exact absurd rfl hk
    ·exact .inr h
theorem gG{y:Str}:∀{ns:List (Str×NameKind)}{n:Nat}{acc:List (Str×Addr)},(y,NameKind.cell)∉ns->(cellsFrom n ns acc).lookup y=acc.lookup y
 | [],_,_,_=>rfl
 |(z,k)::r,n,acc,h=>by
  unfold cellsFrom;have hr:(y,NameKind.cell)∉r:=λq=>h (aay _ q)
  split
  ·rename_i hk
   rw[gG hr];have hy:(y==z)=false:=by
    cases e:y==z with
    |false=>rfl
    |true=>exact absurd (by rw[beq_iff_eq.mp e,beq_iff_eq.mp hk];exact aaD) h
   rw[abD,hy]
  ·exact gG hr
theorem lO{y:Str}{c:Addr}:∀{ns:List (Str×NameKind)}{n:Nat}{acc:List (Str×Addr)},(y,c)∈cellsFrom n ns acc->(y,c)∈acc∨(n<=c/\(y,NameKind.cell)∈ns)
 | [],_,_,h=> .inl h
 |(z,k)::r,n,acc,h=>by
  unfold cellsFrom at h
  split at h
  ·rename_i hk
   rcases lO h with h|⟨h,e⟩
   ·rcases aar.mp h with e|h
    ·cases e
     exact .inr ⟨aav _,by rw[beq_iff_eq.mp hk];exact aaD⟩
    ·exact .inl h
   ·exact .inr ⟨by omega,aay _ e⟩
  ·rcases lO h with h|⟨h,e⟩
   ·exact .inl h
   ·exact .inr ⟨h,aay _ e⟩
theorem lP:∀{ns:List (Str×NameKind)}{n:Nat}{acc:List (Str×Addr)},(∀x y c,(x,c)∈acc->(y,c)∈acc->x=y) ->(∀y c,(y,c)∈acc->c<n) ->
  ∀x y c,(x,c)∈cellsFrom n ns acc->(y,c)∈cellsFrom n ns acc->x=y
 | [],_,_,h,_=>h
 |(z,k)::r,n,acc,h,hl=>by
  unfold cellsFrom
  split
  ·refine lP (λx y c h1 h2=> ?_) (λy c h1=> ?_)
   ·rcases aar.mp h1 with e1|h1<;>rcases aar.mp h2 with e2|h2
    ·cases e1;cases e2;rfl
    ·cases e1;exact absurd (hl _ _ h2) (aa4 _)
    ·cases e2;exact absurd (hl _ _ h1) (aa4 _)
    ·exact h x y c h1 h2
   ·rcases aar.mp h1 with e1|h1
    ·cases e1;exact ab2 _
    ·exact abJ (hl _ _ h1)
  ·exact lP h hl
theorem jC:∀(ns:List (Str×NameKind))(h:Heap)(acc:List (Str×Addr))(y:Str)(c:Addr),(y,c)∈cellsFrom h.objs.size ns acc->(y,c)∈acc∨(pushCells h ns).IsCell c none
 | [],_,_,_,_,hm=> .inl hm
 |(z,k)::r,h,acc,y,c,hm=>by
  unfold cellsFrom at hm;unfold pushCells
  split at hm
  ·rename_i hk
   rw[if_pos hk];have hm':(y,c)∈cellsFrom (h.push {cls:= .type "cell",data:= .cell none}).objs.size r ((z,h.objs.size)::acc):=by rw[Heap.size_push];exact hm
   rcases jC r _ _ y c hm' with hm|hm
   ·rcases aar.mp hm with e|hm
    ·cases e
     exact .inr ⟨_,pushCells_keeps _ _ _ _ (Heap.get?_push_size _ rfl),rfl⟩
    ·exact .inl hm
   ·exact .inr hm
  ·rename_i hk
   rw[if_neg hk];exact jC r h acc y c hm
noncomputable def kindB(names:List (Str×NameKind))(y:Str)(k:NameKind):Bool:=names.lookup y==some k
noncomputable def wk:List Str->Bool
 | []=>true
 |x::r=> !r.contains x && wk r
theorem p7:∀{l:List Str},wk l=true->l.Nodup
 | [],_=>ab3
 |x::r,h=>by
  unfold wk at h;rw[aa5]at h;refine abg.mpr ⟨λhm=> ?_,p7 h.2⟩;have:r.contains x=true:=adC.mpr hm;rw[this]at h;exact absurd h.1 (by decide)
noncomputable def De:List Str->List Str->(Str->Str->Bool) ->Bool
 | [],[],_=>true
 |x::r,y::t,p=>p x y && De r t p
 |_,_,_=>false
theorem Be:∀{l m:List Str}{p:Str->Str->Bool},De l m p=true->l.length=m.length
 | [],[],_,_=>rfl
 | [],_::_,_,h=>by cases h
 |_::_,[],_,h=>by cases h
 |x::r,y::t,p,h=>by
  unfold De at h;rw[aa5]at h;simp[Be h.2]
theorem Bf:∀{l m:List Str}{p:Str->Str->Bool},De l m p=true-> ∀(i:Nat)(x:Str),l[i]?=some x-> ∃y,m[i]?=some y/\p x y=true
 | [],[],_,_,i,x,h=>by simp at h
 | [],_::_,_,h,_,_,_=>by cases h
 |_::_,[],_,h,_,_,_=>by cases h
 |x::r,y::t,p,h,0,z,e=>by
  unfold De at h;rw[aa5]at h;simp at e;subst e;exact⟨y,rfl,h.1⟩
 |x::r,y::t,p,h,i+1,z,e=>by
  unfold De at h;rw[aa5]at h;obtain⟨w,e1,e2⟩:=Bf h.2 i z (by simpa using e);exact⟨w,by simpa using e1,e2⟩
noncomputable def Bg(names ks:List (Str×NameKind))(own N2 N:List Str):Bool:=
 names.all (λy=>y.2 != .free||kindB ks y.1 .cell||kindB ks y.1 .free) &&
 wk (names.map (·.1)) && wk (own++N2) &&
 names.all (λy=> !(y.2== .local||y.2== .cell)||own.contains y.1||y.1==(".0":Str)) &&
 De N2 N (λy z=>(y==z && y !=(".0":Str))||names.lookup y==none) &&
 own.all (λx=>kindB names x .local||kindB names x .cell)
structure qR(names ks:List (Str×NameKind))(own N2 N:List Str):Prop where
 fr:∀y,(y,NameKind.free)∈names->ks.lookup y=some .cell∨ks.lookup y=some .free
 nd:(names.map (·.1)).Nodup
 MK:(own++N2).Nodup
 owns:∀y k,(y,k)∈names->k= .local∨k= .cell->y∈own∨y=(".0":Str)
 zip:∀(j:Nat)(y:Str),N2[j]?=some y->(N[j]?=some y/\y≠(".0":Str))∨names.lookup y=none
 len:N2.length=N.length
 own:∀x∈own,names.lookup x=some .local∨names.lookup x=some .cell
theorem kC{names ks:List (Str×NameKind)}{own N2 N:List Str}(h:Bg names ks own N2 N=true):qR names ks own N2 N:=by
 unfold Bg at h;simp only[aa5]at h;obtain⟨⟨⟨⟨⟨h1,h2⟩,h3⟩,h4⟩,h5⟩,h6⟩:=h;refine⟨λy hy=> ?_,p7 h2,p7 h3,λy k hy hk=> ?_,λj y e=> ?_,Be h5,λx hx=> ?_⟩
 ·have q:=abt.mp h1 _ hy
  simp only[acs]at q;rcases q with(q|q)|q
  ·exact absurd q (by simp)
  ·exact .inl (by simpa [kindB]using q)
  ·exact .inr (by simpa [kindB]using q)
 ·have q:=abt.mp h4 _ hy
  simp only[acs]at q;rcases q with(q|q)|q
  ·rcases hk with rfl|rfl<;>simp at q
  ·exact .inl (adC.mp q)
  ·exact .inr (by simpa using q)
 ·obtain⟨z,e1,e2⟩:=Bf h5 j y e
  simp only[acs,aa5]at e2;rcases e2 with⟨e2,e3⟩|e2
  ·exact .inl ⟨by rw[e1,beq_iff_eq.mp e2],by simpa using e3⟩
  ·exact .inr (by simpa using e2)
 ·have q:=abt.mp h6 _ hx
  simp only[acs]at q;rcases q with q|q
  ·exact .inl (by simpa [kindB]using q)
  ·exact .inr (by simpa [kindB]using q)
theorem cH{α:Type}:∀{l:List (Str×α)}{y:Str}{k:α},(l.map (·.1)).Nodup->(y,k)∈l->l.lookup y=some k
 |(z,v)::r,y,k,nd,h=>by
  rw[abp,abg]at nd;rw[abD];rcases aar.mp h with e|h'
  ·cases e;simp
  ·have:(y==z)=false:=by
    cases e:y==z with
    |false=>rfl
    |true=>
     have e':y=z:=beq_iff_eq.mp e;have q:y∈r.map (λx=>x.1):=aaU.mpr ⟨(y,k),h',rfl⟩;exact absurd (by rw[<-e'];exact q) nd.1
   rw[this];exact cH nd.2 h'
theorem j5{sc:Scope}{env:Env}{y:Str}:∀{ns:List (Str×NameKind)},
  (ns.map λ (n,k)=>if(k==NameKind.free && env.scope.kind== .function && env.kindOf n==some .cell)then(n,NameKind.cell)else(n,k)).lookup y=
   (ns.lookup y).map λk=>if(k==NameKind.free && env.scope.kind== .function && env.kindOf y==some .cell)then .cell else k
 | []=>rfl
 |(n,k)::r=>by
  have ih:= @j5 sc env y r;rw[abp,abD];show adR y ((if(k==NameKind.free && env.scope.kind== .function && env.kindOf n==some .cell)=true then(n,NameKind.cell)else(n,k))::_)=_
  cases hx:y==n with
  |true=>
   have e:y=n:=beq_iff_eq.mp hx;subst e
   by_cases hc:(k==NameKind.free && env.scope.kind== .function && env.kindOf y==some .cell)=true
   ·rw[if_pos hc]
    simp only[abD,hx,acu,if_pos hc]
   ·rw[if_neg hc]
    simp only[abD,hx,acu,if_neg hc]
  |false=>
   by_cases hc:(k==NameKind.free && env.scope.kind== .function && env.kindOf n==some .cell)=true
   ·rw[if_pos hc];simp only[abD,hx];exact ih
   ·rw[if_neg hc];simp only[abD,hx];exact ih
noncomputable def Cx.comp(X:Cx)(sc:Scope)(N':List Str)(s:Shared)(H:Hp)(fp:List Addr):Cx:=
 {X with
  N:=N'
  s₀:=s
  H₀:=H
  env:=compEnvC sc (cellsFrom (s.heap.objs.size+2) sc.names (cK X.env sc.names [])) (s.heap.objs.size+1) X.env
  outer:=X.stack
  ex:=fp
  fn:=λy=>sc.names.lookup y==some .cell
  pn:=[]
  xe:=λ_ _=>False}
section
variable{X:Cx}{pins:List (Addr×Obj)}{σ:St}{H:Hp}{s:Shared}{sc:Scope}{own N2:List Str}{fp:List Addr}
theorem kD(I:Inv X pins σ H s)(B:qR sc.names X.env.scope.names own N2 X.N):∀y,(y,NameKind.free)∈sc.names-> ∃c,X.env.cells.lookup y=some c:=λy hy=>by
 rcases B.fr y hy with q|q
 ·exact I.ok.has y (.inl q)
 ·exact I.ok.has y (.inr q)
theorem pq(I:Inv X pins σ H s)(B:qR sc.names X.env.scope.names own N2 X.N):closureFor sc X.env=pure (cK X.env sc.names []):=
 xZ λy hy hk=>by
  obtain⟨c,e⟩:=kD I B y.1 (by rw[<-hk];exact hy);rw[e];rfl
theorem jo(I:Inv X pins σ H s)(B:qR sc.names X.env.scope.names own N2 X.N){n:Nat}{y:Str}{c:Addr}(h:(y,c)∈cellsFrom n sc.names (cK X.env sc.names [])):
  (n<=c/\(y,NameKind.cell)∈sc.names)∨((y,NameKind.free)∈sc.names/\X.env.cells.lookup y=some c):=by
 rcases lO h with h|h
 ·rcases kB h with h|⟨h,e⟩
  ·cases h
  ·obtain⟨c',e'⟩:=kD I B y h
   rw[e']at e;exact .inr ⟨h,by rw[e',e];rfl⟩
 ·exact .inl h
theorem nh(I:Inv X pins σ H s)(B:qR sc.names X.env.scope.names own N2 X.N){n:Nat}{y:Str}{c:Addr}(hy:(y,NameKind.free)∈sc.names)(hc:X.env.cells.lookup y=some c):
  (cellsFrom n sc.names (cK X.env sc.names [])).lookup y=some c:=by
 rw[gG,lN (.inr hy),hc]
 ·rfl
 ·intro q
  have e1:=cH B.nd hy;rw[cH B.nd q]at e1;cases e1
theorem GZ(I:Inv X pins σ H s)(B:qR sc.names X.env.scope.names own N2 X.N){n:Nat}(hn:s.heap.objs.size<=n){x y:Str}{c:Addr}(h1:(x,c)∈cellsFrom n sc.names (cK X.env sc.names []))
  (h2:(y,c)∈cellsFrom n sc.names (cK X.env sc.names [])):x=y:=by
 have old:∀z c,(z,c)∈cK X.env sc.names [] ->X.env.cells.lookup z=some c:=λz c hm=>by
  rcases kB hm with h|⟨h,e⟩
  ·cases h
  ·obtain⟨c',e'⟩:=kD I B z h
   rw[e']at e;rw[e',e];rfl
 refine lP (λx y c h1 h2=>I.ok.inj x y c (old _ _ h1) (old _ _ h2)) (λz c hm=> ?_) x y c h1 h2;obtain⟨v,q⟩:=I.cell z c (old _ _ hm);exact aao q.lt hn
theorem zI(I:Inv X pins σ H s)(B:qR sc.names X.env.scope.names own N2 X.N){n:Nat}{env':Env}{h':Heap}{m:Str->Option Value}{j:Nat}{y:Str}{v:V}(hN:N2[j]?=some y)(hs:σ[j]?=some (some v))
  (hcl:env'.cells=cellsFrom n sc.names (cK X.env sc.names []))(hkd:∀y,(y,NameKind.free)∈sc.names->env'.kindOf y=some .cell∨env'.kindOf y=some .free)
  (hin:Oq env'.scope y-> ∃k,sc.names.lookup y=some k)(hown:y∉own)
  (keep:∀b o,s.heap.get? b=some o->h'.get? b=some o)(hv:Oq env'.scope y)(hk2:∀k,sc.names.lookup y=some k->k= .local∨k= .cell∨k= .free):∃u,RelV v u/\Look env' h' m y u:=by
 obtain⟨k,hk⟩:=hin hv;rcases B.zip j y hN with⟨e,n0⟩|e
 ·have hm:=mem_of_lookup hk
  have kf:k= .free:=by
   rcases hk2 k hk with z|z|z
   ·rcases B.owns y k hm (.inl z)with q|q
    ·exact absurd q hown
    ·exact absurd q n0
   ·rcases B.owns y k hm (.inr z)with q|q
    ·exact absurd q hown
    ·exact absurd q n0
   ·exact z
  subst kf;have hX:Oq X.env.scope y:=by
   rcases B.fr y hm with q|q
   ·exact .inr (.inl q)
   ·exact .inr (.inr q)
  obtain⟨m0,_,hl⟩:=I.loc;obtain⟨u,r,l⟩:=hl j y v e hs hX;refine⟨u,r,.inr ⟨hkd y hm,?_⟩⟩;rcases l with⟨kl,_⟩|⟨_,c,hc,z⟩
  ·rcases B.fr y hm with q|q
   ·have Sj:X.env.scope.names.lookup y=some .local:=kl
    rw[q]at Sj;cases Sj
   ·have Sj:X.env.scope.names.lookup y=some .local:=kl
    rw[q]at Sj;cases Sj
  ·exact⟨c,by rw[hcl];exact nh I B hm hc,z.keeps keep⟩
 ·rw[hk]at e;cases e
end
theorem iI{M:Model}{A:Around}{E:Value->Shared->Prop}{s:Shared}{sc:Scope}{g:Addr}{cl:List (Str×Addr)}{qual:Str}{env:Env}{Q:Env->Shared->Prop}
  (h:Q {scope:=sc,locals:=s.heap.objs.size,globals:=g,cells:=cellsFrom (s.heap.objs.size+1) sc.names cl,qual:=qual,func:=none,code:=env.code,frame:=env.frame,builtins:=env.builtins}
   {s with heap:=pushCells (s.heap.push {cls:= .type "dict",data:= .dict #[]}) sc.names}):
  wpAny M A (newFunctionEnv sc g cl [] qual none .none (some env)) Q E s:=by
 simp only[newFunctionEnv,Option.isSome_some,if_true];refine wpAny_bind (wpAny_alloc ?_);refine wpAny_bind (wpAny_layCells _ (λname kind cells=>by cases hkc:kind==NameKind.cell<;>simp[hkc]) _ _ _ _ ?_);rw[show({s with heap:=s.heap.push {cls:= .type "dict",data:= .dict #[]}}:Shared).heap.objs.size=s.heap.objs.size+1 from Heap.size_push ..];simp only[acC];exact wpAny_bind (wpAny_pure (wpAny_pure h))
section
variable{X:Cx}{pins:List (Addr×Obj)}{σ:St}{H:Hp}{s:Shared}{sc:Scope}{own N2:List Str}{fp:List Addr}
theorem wm{env:Env}{y:Str}(hv:Oq (relabel sc env) y):∃k,sc.names.lookup y=some k/\(k= .local∨k= .cell∨k= .free):=by
 have q:∀k,(relabel sc env).names.lookup y=some k->(k= .local∨k= .cell∨k= .free) -> ∃k,sc.names.lookup y=some k/\(k= .local∨k= .cell∨k= .free):=λk e hk=>by
  have e':=(j5 (sc:=sc) (env:=env) (y:=y) (ns:=sc.names)).symm.trans e
  cases z:sc.names.lookup y with
  |none=>rw[z]at e';cases e'
  |some k0=>
   rw[z]at e';simp only[acu,Option.some.injEq]at e';refine⟨k0,rfl,?_⟩
   split at e'
   ·rename_i hc
    simp only[aa5]at hc;exact .inr (.inr (by simpa using hc.1.1))
   ·rw[e'];exact hk
 rcases hv with e|e|e
 ·exact q _ e (.inl rfl)
 ·exact q _ e (.inr (.inl rfl))
 ·exact q _ e (.inr (.inr rfl))
theorem kind_free(B:qR sc.names X.env.scope.names own N2 X.N){env:Env}{y:Str}(hy:(y,NameKind.free)∈sc.names):(relabel sc env).names.lookup y=some .cell∨(relabel sc env).names.lookup y=some .free:=by
 have e:=j5 (sc:=sc) (env:=env) (y:=y) (ns:=sc.names);rw[cH B.nd hy]at e;simp only[acu]at e
 split at e
 ·exact .inl e
 ·exact .inr e
theorem kE{env:Env}{y:Str}{k:NameKind}(hy:sc.names.lookup y=some k)(hk:k= .local∨k= .cell):(relabel sc env).names.lookup y=some k:=by
 have e:=j5 (sc:=sc) (env:=env) (y:=y) (ns:=sc.names);rw[hy]at e;simp only[acu]at e;rcases hk with rfl|rfl
 ·exact e
 ·exact e
theorem ML(I:Inv X pins σ H s)(B:qR sc.names X.env.scope.names own N2 X.N)(hk:sc.kind= .function)(hf:∀b∈fp,gb X pins H b)(ho:∀b∈fp,∃o,s.heap.get? b=some o):(X.comp sc (own++N2) s H fp).Ok:=by
 have lt:∀b∈fp,b<s.heap.objs.size:=λb hb=>let⟨o,e⟩:=ho b hb;Heap.lt_size e
 have jX:∀y c,(cellsFrom (s.heap.objs.size+2) sc.names (cK X.env sc.names [])).lookup y=some c->(s.heap.objs.size+2<=c/\(y,NameKind.cell)∈sc.names)∨((y,NameKind.free)∈sc.names/\X.env.cells.lookup y=some c):=
  λy c h=>jo I B (mem_of_lookup h)
 refine⟨I.ok.mod,hk,I.ok.glob,I.ok.blt,ab8 _,λx y c h1 h2=> ?_,λy hy=> ?_,λy c hy hc=> ?_,I.ok.hd,I.ok.frames,.inl rfl,λb hb=>⟨?_,λy c hc=> ?_⟩,I.bs,aa8 I.ok.Mq I.sz,λb o e hb=> ?_,λb hb hs=> ?_,I.stack,I.vG⟩
 ·exact GZ I B (by omega) (mem_of_lookup h1) (mem_of_lookup h2)
 ·have hy':(relabel sc X.env).names.lookup y=some .cell∨(relabel sc X.env).names.lookup y=some .free:=hy
  obtain⟨k,e,Ft⟩:=wm (env:=X.env) (y:=y) (sc:=sc) (by rcases hy' with q|q;exact .inr (.inl q);exact .inr (.inr q));rcases Ft with rfl|rfl|rfl
  ·have:=kE (env:=X.env) e (.inl rfl)
   rcases hy' with q|q
   ·rw[q]at this;cases this
   ·rw[q]at this;cases this
  ·exact acn.mp (acz sc.names _ _ (.inl e))
  ·obtain⟨c,hc⟩:=kD I B y (mem_of_lookup e)
   exact⟨c,nh I B (mem_of_lookup e) hc⟩
 ·have hy':sc.names.lookup y=some .cell:=by
   have q:(sc.names.lookup y==some NameKind.cell)=true:=hy
   simpa using q
  rcases jX y c hc with⟨q,_⟩|⟨q,_⟩
  ·show s.heap.objs.size<=c
   omega
  ·rw[cH B.nd q]at hy';cases hy'
 ·exact aaI (abJ (lt b hb))
 ·have hl:=lt b hb
  rcases jX y c hc with⟨q,_⟩|⟨_,q⟩
  ·exact abX (aao hl (aa8 (acN _ 2) q))
  ·exact(hf b hb).2.2.2.2.1 y c q
 ·rcases(hf b hb).2.2.2.1 with z|z
  ·exact I.ok.GH b o e z
  ·exact absurd (aao (Heap.lt_size (I.ok.bs b o e).1) z) (aa4 _)
 ·rcases aar.mp (I.vR b hs)with e|e
  ·exact(hf b hb).2.1 e
  ·exact(hf b hb).2.2.1 e
theorem wo(I:Inv X pins σ H s)(B:qR sc.names X.env.scope.names own N2 X.N)(hk:sc.kind= .function)(hf:∀b∈fp,gb X pins H b)(ho:∀b∈fp,∃o,s.heap.get? b=some o):
  Inv (X.comp sc (own++N2) s H fp) [] (abh own.length none++σ) (upd H s.heap.objs.size (.lst []))
   {s with heap:=pushCells ((s.heap.push {cls:= .type "list",dict:=none,data:= .seq ([]:List Value).toArray}).push {cls:= .type "dict",data:= .dict #[]}) sc.names}:=by
 have k1:∀b o,(s.heap.push {cls:= .type "list",dict:=none,data:= .seq ([]:List Value).toArray}).get? b=some o->
   (pushCells ((s.heap.push {cls:= .type "list",dict:=none,data:= .seq ([]:List Value).toArray}).push {cls:= .type "dict",data:= .dict #[]}) sc.names).get? b=some o:=
  λb o e=>pushCells_keeps _ _ b o (Heap.get?_push_of_some _ e)
 have k0:∀b o,s.heap.get? b=some o->
   (pushCells ((s.heap.push {cls:= .type "list",dict:=none,data:= .seq ([]:List Value).toArray}).push {cls:= .type "dict",data:= .dict #[]}) sc.names).get? b=some o:=
  λb o e=>k1 b o (Heap.get?_push_of_some _ e)
 have sz:((s.heap.push {cls:= .type "list",dict:=none,data:= .seq ([]:List Value).toArray}).push {cls:= .type "dict",data:= .dict #[]}).objs.size=s.heap.objs.size+2:=by rw[Heap.size_push,Heap.size_push]
 have jX:∀y c,(cellsFrom (s.heap.objs.size+2) sc.names (cK X.env sc.names [])).lookup y=some c->(s.heap.objs.size+2<=c/\(y,NameKind.cell)∈sc.names)∨((y,NameKind.free)∈sc.names/\X.env.cells.lookup y=some c):=
  λy c h=>jo I B (mem_of_lookup h)
 have Jp:∀b,s.heap.objs.size<b->upd H s.heap.objs.size (.lst []) b=none:=λb hb=>by
  rw[aH (abX hb)];exact I.hok.fresh (acZ hb)
 refine⟨ML I B hk hf ho,rfl,.refl I.bare.bare,Un.laid k0 (aav _) I.fresh,⟨λ_=>none,?_,λi y v e1 e2 e3=> ?_⟩,λy c hc=> ?_,Jp _ (ab2 _),λy c hc=> ?_,λp hp=> ?_,I.hok.laid k0 (aav _) ?_,?_⟩
 ·have:=Heap.Ns.new (s.heap.push {cls:= .type "list",dict:=none,data:= .seq ([]:List Value).toArray}) (.type "dict")
  rw[Heap.size_push]at this;exact this.keeps (pushCells_keeps _ _)
 ·by_cases hi:i<own.length
  ·rw[aaR (by simpa using hi),acr]at e2
   split at e2<;>cases e2
  ·have Bh:(own++N2)[i]?=some y:=e1
   have hi':own.length<=i:=by omega
   rw[aaO (by simpa using hi'),abP]at e2;rw[aaO hi']at Bh;have hown:y∉own:=λhm=>by
    have nd:=B.MK;rw[abn]at nd;exact nd.2.2 y hm y (aaA Bh) rfl
   refine zI I B (n:=s.heap.objs.size+2) Bh e2 rfl (λz hz=>kind_free B hz) (λhv=>let⟨k,e,_⟩:=wm hv;⟨k,e⟩) hown k0 e3 (λk e=> ?_);obtain⟨k',e',hk'⟩:=wm (sc:=sc) e3;rw[e]at e';cases e';exact hk'
 ·rcases jC sc.names ((s.heap.push {cls:= .type "list",dict:=none,data:= .seq ([]:List Value).toArray}).push {cls:= .type "dict",data:= .dict #[]}) (cK X.env sc.names []) y c (by rw[sz];exact mem_of_lookup hc)with q|q
  ·rcases kB q with z|⟨z,e⟩
   ·cases z
   ·obtain⟨c',e'⟩:=kD I B y z
    rw[e']at e;have e2:c=c':=e;subst e2;obtain⟨v,w⟩:=I.cell y c e';exact⟨v,w.keeps k0⟩
  ·exact⟨none,q⟩
 ·rcases jX y c hc with⟨q,_⟩|⟨_,q⟩
  ·exact Jp c (by omega)
  ·obtain⟨v,w⟩:=I.cell y c q
   rw[aH (aaI w.lt)];exact I.nY y c q
 ·have lD:p∈([]:List (Addr×Obj)):=hp
  cases lD
 ·exact⟨aa3 _,[],0,.nil,k1 _ _ (Heap.get?_push_size _ rfl)⟩
 ·show(abh own.length none++σ).length=(own++N2).length
  rw[aaC,aaC,abP,I.len,B.len]
theorem Inv.Df{σ':St}{H':Hp}{s':Shared}{N':List Str}(I:Inv X pins σ H s)(hf:∀b∈fp,gb X pins H b)(J:Inv (X.comp sc N' s H fp) [] σ' H' s'):Inv X pins σ H' s':=
 I.IU (ch:=fp) J.os J.base J.hok J.bare λb hb=>⟨(hf b hb).2.2.2.1,(hf b hb).2.1,(hf b hb).2.2.2.2.1,(hf b hb).2.2.2.2.2⟩
end
section
variable{prog:Program}{w:World}{A:Around}{R:Result->Shared->Prop}{s:Shared}
theorem oE{elt target iter:Expr}{scope:Scope}{pos:Pos}{it acc:Value}{env:Env}(I:Nat->Shared->Prop)
  (turn:∀n s,I n s->wpAny (model prog w) A (pyNext it) (λr s₁=>match r with
   |none=>R (.ok .next) s₁
   |some v=>wpAny (model prog w) A (letOwnedTupleGo target it v) (λ_ s₁'=>wpAny (model prog w) A (assign target env v) (λ_ s₂=>wpAny (model prog w) A (eval elt env) (λx s₃=>
     wpAny (model prog w) A (call (.builtin "list.append") [acc,x]) (λ_ s₄=> ∃m,m<n/\I m s₄) (λ_ _=>False) s₃)
     (λ_ _=>False) s₂) (λ_ _=>False) s₁') (λ_ _=>False) s₁) (λ_ _=>False) s)
  (n:Nat)(h:I n s):
  codeAny (model prog w) A (.compLoop (.ListComp elt [⟨target,iter,[],0⟩] scope pos) 0 it acc env) R s:=by
 refine codeAny_loop rfl I (λn s hI=> ?_) n h;show wpAny _ _ ((compTurn (.ListComp elt [⟨target,iter,[],0⟩] scope pos) 0 it acc env).onRaise (λx=>do noteFrame x env;theTreesLotGoes x)) _ _ s;refine wpAny_noted ?_;rw[compTurn_list1];refine wpAny_bind (wpAny_standAt (wpAny_bind (wpAny_mono (turn n s hI) (λr s₁ h₁=> ?_) λ_ _ h'=>h'.elim)))
 cases r with
 |none=>exact wpAny_pure h₁
 |some v=>
  exact wpAny_bind (wpAny_mono h₁ (λ_ s₁' h₁'=>wpAny_bind (wpAny_mono h₁' (λ_ s₂ h₂=>wpAny_bind (wpAny_bind (wpAny_mono h₂ (λx s₃ h₃=>wpAny_bind (wpAny_mono h₃
   (λ_ s₄ h₄=>wpAny_pure (wpAny_pure ⟨rfl,h₄⟩)) λ_ _ h'=>h'.elim)) λ_ _ h'=>h'.elim))) λ_ _ h'=>h'.elim)) λ_ _ h'=>h'.elim)
end
noncomputable def lQ(k:Nat)(g:TG)(te:TE)(σ:St)(J:It)(H1:Hp)(D:Addr)(Q:VK):Prop:=∃W:Nat->Nat->List V->St->Hp->Prop,(∃m,W 0 m [] (abh k none++σ) (upd H1 D (.lst [])))/\
 ∀i m acc σ' H',W i m acc σ' H'->(J.stop i H'/\H' D=some (.lst acc)/\Q (.ref D) H')∨
  (J.go i H'/\acc.length<sizeLine/\ ∀x H2,J.AN i H' x H2->g x σ' H2 λσ3 H3=>te σ3 H3 λv H4=>H4 D=some (.lst acc)/\ ∃m',m'<m/\W (i+1) m' (acc++ [v]) σ3 (upd H4 D (.lst (acc++ [v]))))
noncomputable def qY(k:Nat)(wi:TI)(g:TG)(te:TE):TE:=λσ H Q=>wi σ H λJ H1=> ∀D,H1 D=none->lQ k g te σ J H1 D Q
section
variable{X:Cx}{sc:Scope}{own N2:List Str}
theorem Dg{elt iter tg:Expr}{pos Jq:Pos}{wi:TI}{g:TG}{te:TE}{use:Option (Value->Sem Unit)}{Qf:Value->Shared->Prop}(hc:X.calm=true)(hi:PI X tg iter wi)(B:qR sc.names X.env.scope.names own N2 X.N)(hk:sc.kind= .function)
  (hg:∀s H fp,PG (X.comp sc (own++N2) s H fp) tg g)(he:∀s H fp,PE (X.comp sc (own++N2) s H fp) elt te)
  (hs:∀x,foldedSetIterable iter X.env x=pure x){pins:List (Addr×Obj)}{s0:Shared}{σ:St}{H0:Hp}{Q:VK}(I0:Inv X pins σ H0 s0)(h0:qY own.length wi g te σ H0 Q)
  (Jr:∀s H fp,Inv X pins σ H s->(∀b∈fp,gb X pins H b) -> ∀(σ':St)(H':Hp)(s':Shared),Inv (X.comp sc (own++N2) s H fp) [] σ' H' s'->Q (.ref s.heap.objs.size) H'->
   compPost (model X.prog X.w) X.A X.xe use Qf (.ref s.heap.objs.size) (s.heap.objs.size+1) (.ok .next) s'):
  wpAny (model X.prog X.w) X.A (comprehension (.ListComp elt [⟨tg,iter,[],0⟩] sc pos) sc X.env Jq (newList []) false (eval iter X.env) use) Qf X.xe s0:=by
 refine wpAny_comprehension_free (use:=use) rfl hs (pq I0 B) hk (λy hy hl=>cH B.nd (by rw[<-hl];exact hy)) ?_;refine wpAny_mono (hi pins s0 σ H0 _ I0 h0) (λv s1 h1=>wpAny_mono h1 (λitv s h2=> ?_) λ_ _ e=>e) λ_ _ e=>e;obtain⟨it,fp,tn,J,H,e,I,T,st,hf,rd⟩:=h2;subst e;have ho:∀b∈fp,∃o,s.heap.get? b=some o:=λb hb=>let⟨o,e,_⟩:=T.obj 0 _ st b hb;⟨o,e⟩
 obtain⟨W,⟨m0,w0⟩,turn⟩:=rd s.heap.objs.size I.fresh;refine wpAny_newObj_type ?_;refine iI ?_;have IB:=wo I B hk hf ho;have MM:∀{H':Hp},(∀b∈fp,H' b=none) -> ∀b∈fp,gb (X.comp sc (own++N2) s H fp) [] H' b:=λhn b hb=>by
  have ok:=IB.ok;refine⟨hn b hb,(ok.Mb b hb).1,ok.AS b hb,.inl hb,λy c hc=>(ok.Mb b hb).2 y c hc,λp hp=> ?_⟩;have lD:p∈([]:List (Addr×Obj)):=hp;cases lD
 have lt:∀b∈fp,b≠s.heap.objs.size:=λb hb=>let⟨o,e⟩:=ho b hb;aaI (Heap.lt_size e)
 have fin:=Jr s H fp I hf;have loop:∀s3:Shared,s3={s with heap:=pushCells ((s.heap.push {cls:= .type "list",dict:=none,data:= .seq ([]:List Value).toArray}).push {cls:= .type "dict",data:= .dict #[]}) sc.names} ->
   codeAny (model X.prog X.w) X.A (.compLoop (.ListComp elt [⟨tg,iter,[],0⟩] sc pos) 0 (.ref it) (.ref s.heap.objs.size) (X.comp sc (own++N2) s H fp).env)
    (compPost (model X.prog X.w) X.A X.xe use Qf (.ref s.heap.objs.size) (s.heap.objs.size+1)) s3:=by
  rintro s3 rfl;refine oE (λn s'=> ∃i acc σ' H',Inv (X.comp sc (own++N2) s H fp) [] σ' H' s'/\tn i s'.heap/\(∀b∈fp,H' b=none)/\W i n acc σ' H') ?_ m0
   ⟨0,[],_,_,IB,T.keep _ _ _ st λb _ o e=>pushCells_keeps _ _ b o (Heap.get?_push_of_some _ (Heap.get?_push_of_some _ e)),λb hb=> ?_,w0⟩
  ·rintro n s3 ⟨i,acc,σ3,H3,I3,st3,yD,w3⟩
   rcases turn i n acc σ3 H3 w3 with⟨stop,hD,qn⟩|⟨go,hz,step⟩
   ·refine gD (T.done (X.comp sc (own++N2) s H fp) rfl rfl rfl hc i [] s3 σ3 H3 _ I3 (MM yD) st3 stop) λr s4 ⟨hr,I4⟩=> ?_
    subst hr;exact fin σ3 H3 s4 I4 qn
   ·refine gD (T.item (X.comp sc (own++N2) s H fp) rfl rfl rfl hc i [] s3 σ3 H3 _ I3 (MM yD) st3 go) λr s4 ⟨u,hr,h4⟩=> ?_
    subst hr;refine gD h4 λ_ s5 ⟨x,H5,I5,r5,y5,AW,Pj⟩=> ?_;have Pk:=I5.pinned (MM Pj) (T.obj _ _ AW);refine gD (hg s H fp _ s5 σ3 H5 x u _ Pk r5 (step x H5 y5)) λ_ s6 ⟨Fe,H6,I6,q6⟩=> ?_;refine gD (he s H fp _ s6 Fe H6 _ I6 q6) λv s7 ⟨y,H7,I7,r7,Sk,m',hm',w7⟩=> ?_;refine gD (mF _ s7 Fe H7 (.ref s.heap.objs.size) [y] (.ref s.heap.objs.size) [v] (λz H8=>z= .gF/\H8=upd H7 s.heap.objs.size (.lst (acc++ [y]))) I7 rfl (.cons r7 .nil) ⟨s.heap.objs.size,acc,y,rfl,rfl,Sk,hz,rfl,rfl⟩) λz s8 ⟨zz,H8,I8,_,_,e8⟩=> ?_;subst e8;refine⟨m',hm',i+1,acc++ [y],Fe,_,I8.jn,T.keep _ _ _ AW λb hb o e=>(I8.pin (b,o) (aam _ (aam _ (cM hb e)))).1,λb hb=> ?_,w7⟩;obtain⟨o,e,d⟩:=T.obj _ _ AW b hb;exact(I8.pin (b,o) (aam _ (aam _ (cM hb e)))).2.1
  ·rw[aH (lt b hb)]
   exact(hf b hb).1
 have e1:(s.heap.push {cls:= .type "list",dict:=none,data:= .seq ([]:List Value).toArray}).objs.size=s.heap.objs.size+1:=Heap.size_push ..;dsimp only;rw[e1];exact codeAny_compStart_list (loop _ rfl) (T.self _ 0 _ _ _ (T.keep _ _ _ st λb _ o e=>pushCells_keeps _ _ b o (Heap.get?_push_of_some _ (Heap.get?_push_of_some _ e))) (loop _ rfl))
theorem Inv.Js{pins:List (Addr×Obj)}{σ σ1:St}{H H1:Hp}{s s1:Shared}{h':Heap}(I:Inv X pins σ H s)(I1:Inv X pins σ1 H1 s1)(hn:H1 (s.heap.objs.size+1)=none)(sb:Heap.SameBut (s.heap.objs.size+1) s1.heap h'):Inv X pins σ1 H1 {s1 with heap:=h'}:=by
 have ne:∀b o,s.heap.get? b=some o->b≠s.heap.objs.size+1:=λb o e=>aaI (abJ (Heap.lt_size e));refine I1.turned (it:=s.heap.objs.size+1) (t':=s1.toks) (λb o hb e=>(sb.2 b hb).trans e) hn (abX (abJ I.lt)) (.inr (Nat.le_succ_of_le I.sz)) (λy c e=> ?_) (λp hp=>ne _ _ (I.pin p hp).1);obtain⟨v,w⟩:=I.cell y c e;exact aaI (abJ w.lt)
theorem Bj{elt iter tg:Expr}{pos:Pos}{wi:TI}{g:TG}{te:TE}(hc:X.calm=true)(hi:PI X tg iter wi)(B:qR sc.names X.env.scope.names own N2 X.N)(hk:sc.kind= .function)
  (hg:∀s H fp,PG (X.comp sc (own++N2) s H fp) tg g)(he:∀s H fp,PE (X.comp sc (own++N2) s H fp) elt te)
  (hs:∀x,foldedSetIterable iter X.env x=pure x:=by intro _;rfl):PE X (.ListComp elt [⟨tg,iter,[],0⟩] sc pos) (qY own.length wi g te):=by
 intro pins s0 σ H0 Q I0 h0;rw[eval_ListComp];refine Dg (use:=none) hc hi B hk hg he hs I0 h0 λs H fp I hf σ' H' s' JB q=> ?_;obtain⟨m,hn,_⟩:=JB.loc;exact⟨m,hn,λh' sb=>⟨.ref s.heap.objs.size,H',I.Js (I.Df hf JB) JB.free sb,rfl,q⟩⟩
end
noncomputable def eN(P:Addr):HO:= .ext λh=> ∃ps:Array Value,h.get? P=some {cls:= .none,data:= .fields ps}/\TriplesOk ps.toList
structure gZ(K:PySem.W.Frag)(cd:Value)(P:Addr):Prop where
 ex:∃(c:Addr)(o:Obj)(vs:Array Value)(file:Str)(tf:Tok)(flags:Int)(tg:Tok)(PJ:Bool)(text:Int)(tt:Tok),cd= .ref c/\K.lookup c=some o/\o.cls= .type "code"/\o.data= .fields vs/\vs[11]?=some (.ref P)/\
  vs.getD 18 .none= .str file tf/\vs.getD 7 .none= .int flags tg/\vs.getD 9 .none= .bool PJ/\vs.getD 10 .none= .int text tt
theorem Jt{P:Program}{w:World}{H:Hp}{h:Heap}{T:Addr}{ps:Array Value}(e:h.get? T=some {cls:= .none,data:= .fields ps})(t:TriplesOk ps.toList):f6 P w H h T (eN T):=
 ⟨⟨ps,e,t⟩,⟨_,e⟩,λh1 h2 ⟨qs,e1,t1⟩ k=>⟨qs,k _ e1,t1⟩⟩
theorem Ju{H:Hp}{a:Addr}{o:HO}(h:H a=some o):upd H a o=H:=by
 funext b
 unfold upd
 split
 ·rename_i e;rw[e,h]
 ·rfl
section
variable{X:Cx}{pins:List (Addr×Obj)}{σ:St}{H:Hp}{s:Shared}{P:Addr}
theorem Dh{pos:Pos}{qn:Str}{sc:Scope}{Q:Value->Shared->Prop}{E:Value->Shared->Prop}{M:Model}{A:Around}(I:Inv X pins σ H s)(hcd:gZ X.K X.env.code P)(hP:H P=some (eN P))
  (h:∀code h' tk,Inv X pins σ H {s with heap:=h',toks:=tk} ->Heap.ExtBut P s.heap h'->Q code {s with heap:=h',toks:=tk}):wpAny M A (genexprCode X.env pos qn sc) Q E s:=by
 obtain⟨c,o,vs,file,tf,flags,tg,PJ,text,tt,ec,hc,hcl,hd,h11,Sl,h7,h9,Sm⟩:=hcd.ex;obtain⟨⟨ps,eP,tr⟩,_,_⟩:=I.hok P _ hP;have hcs:s.heap.get? c=some o:=I.zB c o hc;have hcn:H c=none:=(I.bs c o (I.ok.mod.GG c o hc)).2;have ne:c≠P:=λe=>by rw[e,hP]at hcn;cases hcn
 have PK:vs.getD 11 .none= .ref P:=by
  have:vs.getD 11 .none=(vs[11]?).getD .none:=by simp
  rw[this,h11];rfl
 have code:s.heap.IsCode c P ps:=⟨o,vs,file,tf,flags,tg,PJ,text,tt,_,hcs,hd,PK,Sl,h7,h9,Sm,eP,rfl,tr,ne⟩;have tab:s.heap.TableAt c P ps:=⟨⟨o,vs,hcs,hcl,hd,h11⟩,eP⟩
 cases q:codeAmong pos ps.toList with
 |some c'=>exact wpAny_genexprCode_hit ec code q (h c' s.heap s.toks I (λ_ _ _ e=>e))
 |none=>
  refine wpAny_genexprCodeX ec code tab q λc' h' tk hx _ _ PL _ Jv _=>h _ h' tk ?_ hx;have I':=I.write (x:=P) (e:=P) (o:=eN P) (h':=h') (t':=tk) (by rw[hP];exact trivial) (.inl rfl) (λb u hb e=>hx b u hb e) ⟨_,Jv.2⟩
   (Jt Jv.2 (by obtain⟨_,_,_,_,_,_,_,_,_,op,_,_,_,_,_,_,_,e1,e2,e3,_⟩:=PL;rw[Jv.2]at e1;cases e1;exact e3))
  rw[Ju hP]at I';exact I'
end
noncomputable def BM(mg:Str->Option Value)(base:Heap):Prop:=∃bm ob,mg "__builtins__"=some (.ref bm)/\bm≠builtinsNs/\base.get? bm=some ob/\ob.cls= .type "module"/\ob.dict=some builtinsNs/\ob.data= .plain
noncomputable def MN(B:Around)(cenv:Env):Around:={handled:=B.handled,depth:=B.depth+1,frames:=B.frames.map (cenv:: ·),guards:=B.guards,units:=B.units+3}
noncomputable def Cx.gen(X:Cx)(B:Around)(sc:Scope)(N':List Str)(code:Value)(s:Shared)(H:Hp)(fp:List Addr):Cx:=
 {X with
  N:=N'
  s₀:={s with gens:=s.gens.push .running}
  H₀:=H
  A:=MN B (genEnv sc (cK X.env sc.names []) s.heap.objs.size code builtinsNs X.env)
  env:=genEnv sc (cK X.env sc.names []) s.heap.objs.size code builtinsNs X.env
  outer:=X.stack
  stack:=genEnv sc (cK X.env sc.names []) s.heap.objs.size code builtinsNs X.env::X.stack
  ex:=fp
  fn:=λ_=>false
  pn:=[]
  xe:=λ_ _=>False}
section
variable{X:Cx}{pins:List (Addr×Obj)}{σ:St}{H:Hp}{s:Shared}{sc:Scope}{own N2:List Str}{fp:List Addr}{B:Around}{code:Value}
theorem pA{sc:Scope}{y:Str}(hv:Oq sc y):∃k,sc.names.lookup y=some k/\(k= .local∨k= .cell∨k= .free):=by
 rcases hv with e|e|e
 ·exact⟨_,e,.inl rfl⟩
 ·exact⟨_,e,.inr (.inl rfl)⟩
 ·exact⟨_,e,.inr (.inr rfl)⟩
theorem fJ{n:Nat}:∀{ns:List (Str×NameKind)}{acc:List (Str×Addr)},(∀y∈ns,y.2≠ .cell) ->cellsFrom n ns acc=acc
 | [],_,_=>rfl
 |(y,k)::r,acc,h=>by
  unfold cellsFrom;have hk:(k==NameKind.cell)=false:=by simpa using h (y,k) aaD
  rw[hk];exact fJ λz hz=>h z (aay _ hz)
theorem PM(I:Inv X pins σ H s)(Bk:qR sc.names X.env.scope.names own N2 X.N)(hk:sc.kind= .function)(hnc:∀y∈sc.names,y.2≠ .cell)(hf:∀b∈fp,gb X pins H b)(ho:∀b∈fp,∃o,s.heap.get? b=some o)
  (hB:B.frames=some X.stack)(hh:B.handled=none):(X.gen B sc (own++N2) code s H fp).Ok:=by
 have lt:∀b∈fp,b<s.heap.objs.size:=λb hb=>let⟨o,e⟩:=ho b hb;Heap.lt_size e
 have jX:∀y c,(cK X.env sc.names []).lookup y=some c->(y,NameKind.free)∈sc.names/\X.env.cells.lookup y=some c:=λy c h=>by
  have h':(cellsFrom 0 sc.names (cK X.env sc.names [])).lookup y=some c:=by rw[fJ hnc];exact h
  rcases jo I Bk (mem_of_lookup h')with⟨_,q⟩|q
  ·exact absurd rfl (hnc _ q)
  ·exact q
 refine⟨I.ok.mod,hk,I.ok.glob,rfl,aav _,λx y c h1 h2=> ?_,λy hy=> ?_,λy c hy hc=>absurd hy (by show ¬(false=true);decide),λ_=>hh,?_,.inr ⟨rfl,rfl⟩,λb hb=>⟨?_,λy c hc=> ?_⟩,I.bs,aa8 I.ok.Mq I.sz,λb o e hb=> ?_,λb hb hs=> ?_,I.stack,I.vG⟩
 ·exact I.ok.inj x y c (jX x c h1).2 (jX y c h2).2
 ·have hy':sc.names.lookup y=some .cell∨sc.names.lookup y=some .free:=hy
  rcases hy' with e|e
  ·exact absurd rfl (hnc _ (mem_of_lookup e))
  ·obtain⟨c,hc⟩:=kD I Bk y (mem_of_lookup e)
   have:=nh (n:=0) I Bk (mem_of_lookup e) hc;rw[fJ hnc]at this;exact⟨c,this⟩
 ·show B.frames.map _=_
  rw[hB];rfl
 ·exact aaI (lt b hb)
 ·exact(hf b hb).2.2.2.2.1 y c (jX y c hc).2
 ·rcases(hf b hb).2.2.2.1 with z|z
  ·exact I.ok.GH b o e z
  ·exact absurd (aao (Heap.lt_size (I.ok.bs b o e).1) z) (aa4 _)
 ·rcases aar.mp (I.vR b hs)with e|e
  ·exact(hf b hb).2.1 e
  ·exact(hf b hb).2.2.1 e
theorem MO{h':Heap}{tk:Nat}{m:Str->Option Value}(I:Inv X pins σ H s)(Bk:qR sc.names X.env.scope.names own N2 X.N)(hk:sc.kind= .function)(hnc:∀y∈sc.names,y.2≠ .cell)(hf:∀b∈fp,gb X pins H b)(ho:∀b∈fp,∃o,s.heap.get? b=some o)
  (hB:B.frames=some X.stack)(hh:B.handled=none)(hn:h'.Ns s.heap.objs.size m)(keep:∀b o,s.heap.get? b=some o->h'.get? b=some o):
  Inv (X.gen B sc (own++N2) code s H fp) [] (abh own.length none++σ) H {s with heap:=h',toks:=tk,gens:=s.gens.push .running}:=by
 have jX:∀y c,(cK X.env sc.names []).lookup y=some c->(y,NameKind.free)∈sc.names/\X.env.cells.lookup y=some c:=λy c h=>by
  have h':(cellsFrom 0 sc.names (cK X.env sc.names [])).lookup y=some c:=by rw[fJ hnc];exact h
  rcases jo I Bk (mem_of_lookup h')with⟨_,q⟩|q
  ·exact absurd rfl (hnc _ q)
  ·exact q
 refine⟨PM I Bk hk hnc hf ho hB hh,rfl,.refl (I.bare.bare.push rfl),Un.kept keep,⟨m,hn,λi y v e1 e2 e3=> ?_⟩,λy c hc=> ?_,I.fresh,λy c hc=>I.nY y c (jX y c hc).2,λp hp=> ?_,I.hok.kept keep,?_⟩
 ·by_cases hi:i<own.length
  ·rw[aaR (by simpa using hi),acr]at e2
   split at e2<;>cases e2
  ·have Bh:(own++N2)[i]?=some y:=e1
   have hi':own.length<=i:=by omega
   rw[aaO (by simpa using hi'),abP]at e2;rw[aaO hi']at Bh;have hown:y∉own:=λhm=>by
    have nd:=Bk.MK;rw[abn]at nd;exact nd.2.2 y hm y (aaA Bh) rfl
   refine zI I Bk (n:=0) Bh e2 (fJ hnc).symm (λz hz=> .inr (cH Bk.nd hz)) (λhv=>let⟨k,e,_⟩:=pA hv;⟨k,e⟩) hown keep e3 (λk e=> ?_);obtain⟨k',e',hk'⟩:=pA e3;have Jw:sc.names.lookup y=some k':=e';rw[e]at Jw;cases Jw;exact hk'
 ·obtain⟨v,w⟩:=I.cell y c (jX y c hc).2
  exact⟨v,w.keeps keep⟩
 ·have lD:p∈([]:List (Addr×Obj)):=hp
  cases lD
 ·show(abh own.length none++σ).length=(own++N2).length
  rw[aaC,aaC,abP,I.len,Bk.len]
theorem Inv.OB{σ':St}{H':Hp}{s':Shared}{N':List Str}{pl:List (Addr×Obj)}{gs:GenState}(I:Inv X pins σ H s)(hf:∀b∈fp,gb X pins H b)(hb:gs.bare=true)(J:Inv (X.gen B sc N' code s H fp) pl σ' H' s'):
  Inv X pins σ H' (s'.setGen s.gens.size gs):=by
 have sz:s.gens.size+1<=s'.gens.size:=by
  have:=J.bare.size
  simpa [Cx.gen]using this
 refine I.IU (ch:=fp) J.os J.base J.hok ⟨?_,?_,λk hk=> ?_⟩ λb hb=>⟨(hf b hb).2.2.2.1,(hf b hb).2.1,(hf b hb).2.2.2.2.1,(hf b hb).2.2.2.2.2⟩
 ·intro y hy
  simp only[Shared.setGen]at hy;rcases Array.mem_or_eq_of_mem_setIfInBounds hy with q|q
  ·exact J.bare.bare y q
  ·rw[q];exact hb
 ·simp only[Shared.setGen,ade]
  omega
 ·have e:=J.bare.old k (by simp[Cx.gen];omega)
  simp only[Shared.setGen];rw[aa6 (by omega),e];show(s.gens.push .running)[k]?=s.gens[k]?;rw[Array.getElem?_push_lt (by omega)];simp[hk]
end
theorem mG{B:Around}{elt:Expr}{gens:List Comprehension}{sc:Scope}{pos:Pos}{it acc:Value}{cenv:Env}:
  B.over (.compLoop (.GeneratorExp elt gens sc pos) 0 it acc cenv) []=MN B cenv:=by
 unfold Around.over MN
 congr 1
section
variable(X:Cx)(B:Around)(sc:Scope)(N':List Str)(code:Value)(sC:Shared)(HC:Hp)(fp Ss:List Addr)(tn:Nat->Heap->Prop)(cnt:Nat)(R:Nat->V->Prop)(W:Nat->St->Hp->Prop)
noncomputable def zJ:Protocol:=λn s₀ v s YZ=> ∃pl σ' H' x,(∀p∈pl,p.1∉Ss)/\Inv (X.gen B sc N' code sC HC fp) (dG Ss s₀.heap++pl) σ' H' s/\tn (cnt-n) s.heap/\(∀b∈fp,H' b=none)/\RelV x v/\R (cnt-n-1) x/\W (cnt-n) σ' H'/\
 ∀s'':Shared,(∀b∈Ss,∃o,s''.heap.get? b=some o) ->Inv (X.gen B sc N' code sC HC fp) (dG Ss s''.heap++pl) σ' H' s''->tn (cnt-n) s''.heap->YZ (.send .none) s''
noncomputable def MP:GenEnd:=λn s₀ r s₁=>r= .ok .next/\n=0/\ ∃σ' H',Inv (X.gen B sc N' code sC HC fp) (dG Ss s₀.heap) σ' H' s₁/\W cnt σ' H'
end
section
variable{X:Cx}{B:Around}{sc:Scope}{N':List Str}{code:Value}{sC:Shared}{HC:Hp}{fp Ss:List Addr}{tn:Nat->Heap->Prop}{cnt:Nat}{R:Nat->V->Prop}{W:Nat->St->Hp->Prop}
variable{elt iter tg:Expr}{pos:Pos}{it:Addr}{J:It}{g:TG}{te:TE}
theorem Bl{Ss:List Addr}{h:Heap}{p:Addr×Obj}(hp:p∈dG Ss h):p.1∈Ss:=(j9 hp).1
theorem Di{pl:List (Addr×Obj)}{σ':St}{H' H2:Hp}{s:Shared}(I:Inv (X.gen B sc N' code sC HC fp) pl σ' H2 s)(hn:∀b∈fp,H' b=none)(hd:∀p∈pl,p.1∉fp):∀b∈fp,gb (X.gen B sc N' code sC HC fp) pl H' b:=λb hb=>by
 have ok:=I.ok;refine⟨hn b hb,(ok.Mb b hb).1,ok.AS b hb,.inl hb,λy c hc=>(ok.Mb b hb).2 y c hc,λp hp e=> ?_⟩;have lD:p∈pl:=by simpa [Cx.gen]using hp
 exact hd p lD (by rw[e];exact hb)
theorem MQ(hco:sc.isCoroutine=false)(hc:X.calm=true)(T:Turn X.prog X.w X.K tg J fp it tn)(hg:PG (X.gen B sc N' code sC HC fp) tg g)(he:PE (X.gen B sc N' code sC HC fp) elt te)(Jx:∀b∈fp,b∉Ss)
  (turn:∀i σ' H',i<cnt->W i σ' H'->J.go i H'/\ ∀x H2,J.AN i H' x H2->g x σ' H2 λσ3 H3=>te σ3 H3 λv H4=>R i v/\W (i+1) σ3 H4)
  (stop:∀σ' H',W cnt σ' H'->J.stop cnt H'):
  ∀(n i:Nat)(σ':St)(H':Hp)(s₀ s:Shared),n+i=cnt->W i σ' H'->Inv (X.gen B sc N' code sC HC fp) (dG Ss s₀.heap) σ' H' s->tn i s.heap->(∀b∈fp,H' b=none) ->
   Seg (model X.prog X.w) B (MP X B sc N' code sC HC fp Ss cnt W) (zJ X B sc N' code sC HC fp Ss tn cnt R W) n s₀ (.compLoop (.GeneratorExp elt [⟨tg,iter,[],0⟩] sc pos) 0 (.ref it) .none (X.gen B sc N' code sC HC fp).env)
    ((model X.prog X.w).den (.compLoop (.GeneratorExp elt [⟨tg,iter,[],0⟩] sc pos) 0 (.ref it) .none (X.gen B sc N' code sC HC fp).env)) [] s:=by
 have VN:∀{h:Heap},∀p∈dG Ss h,p.1∉fp:=λp hp hb=>Jx p.1 hb (Bl hp);intro n
 induction n with
 |zero=>
  intro i σ' H' s₀ s hn w I st fr;obtain rfl:i=cnt:=by omega
  show Seg _ B _ _ _ s₀ _ ((compTurn (.GeneratorExp elt [⟨tg,iter,[],0⟩] sc pos) 0 (.ref it) .none (X.gen B sc N' code sC HC fp).env).onRaise (leaving (X.gen B sc N' code sC HC fp).env)) [] s;rw[compTurn_gen,Sem.onRaise_eq_wrap];refine seg_bind_wrap (wpAny_standAt ?_);refine seg_bind_wrap ?_;rw[mG];refine gD (T.done (X.gen B sc N' code sC HC fp) rfl rfl rfl hc i _ s σ' H' _ I (Di I fr VN) st (stop σ' H' w)) λr s1 ⟨hr,I1⟩=> ?_;subst hr;exact seg_end (.ok .next) ⟨rfl,rfl,σ',H',I1,w⟩
 |succ n ih=>
  intro i σ' H' s₀ s hn w I st fr;have hi:i<cnt:=by omega
  obtain⟨go,step⟩:=turn i σ' H' hi w;show Seg _ B _ _ _ s₀ _ ((compTurn (.GeneratorExp elt [⟨tg,iter,[],0⟩] sc pos) 0 (.ref it) .none (X.gen B sc N' code sC HC fp).env).onRaise (leaving (X.gen B sc N' code sC HC fp).env)) [] s;rw[compTurn_gen,Sem.onRaise_eq_wrap];refine seg_bind_wrap (wpAny_standAt ?_);refine seg_bind_wrap ?_;rw[mG];refine gD (T.item (X.gen B sc N' code sC HC fp) rfl rfl rfl hc i _ s σ' H' _ I (Di I fr VN) st go) λr s1 ⟨u,hr,h1⟩=> ?_;subst hr;refine seg_bind_wrap ?_;rw[mG];refine wpAny_mono h1 (λ_ s2 ⟨x,H2,I2,r2,y2,st2,Sn⟩=> ?_) λ_ _ z=>z;have Za:=I2.pinned (Di I2 Sn VN) (T.obj _ _ st2);refine seg_bind_wrap ?_;rw[mG];refine wpAny_mono (hg _ s2 σ' H2 x u _ Za r2 (step x H2 y2)) (λ_ s3 ⟨σ3,H3,I3,q3⟩=> ?_) λ_ _ z=>z.elim;simp only[acC,if_true];refine seg_bind_wrap (wpAny_pure ?_);have hy:∀v,yieldOut (X.gen B sc N' code sC HC fp).env v=yieldValue v:=λv=>by
   have q:(X.gen B sc N' code sC HC fp).env.scope.isCoroutine=false:=hco;simp only[yieldOut,q,aaz,if_false]
  simp only[if_true,hy];rw[Sem.bind_eq_wrap',Sem.bind_eq_wrap',Sem.wrap_wrap,Sem.wrap_wrap];refine seg_wrap ?_;rw[mG];refine wpAny_mono (he _ s3 σ3 H3 _ I3 q3) (λv s4 ⟨y,H4,I4,r4,hR,w4⟩=> ?_) λ_ _ z=>z.elim;have Zb:tn (i+1) s4.heap:=T.keep _ _ _ st2 λb hb o e=>(I4.pin (b,o) (aam _ (aam _ (cM hb e)))).1;have Xm:∀b∈fp,H4 b=none:=λb hb=>by
   obtain⟨o,e,d⟩:=T.obj _ _ st2 b hb;exact(I4.pin (b,o) (aam _ (aam _ (cM hb e)))).2.1
  have ei:cnt-n=i+1:=by omega
  refine seg_at (seg_yield rfl rfl rfl ⟨[],σ3,H4,y,(λ_ h=>nomatch h),(by rw[aba];exact I4.jn),by rw[ei];exact Zb,Xm,r4,by rw[ei];exact hR,by rw[ei];exact w4,λs'' _ PR st''=> ?_⟩);rw[ei]at st'';rw[aba]at PR;exact seg_again rfl (ih (i+1) σ3 H4 s'' s'' (by omega) w4 PR st'' Xm)
end
theorem Jy{s:Shared}{g:Nat}{gs:GenState}(h:s.gens[g]?=some .running):(s.setGen g gs).setGen g .running=s:=by
 obtain⟨hh,gens,d,t,os⟩:=s;have hlt:g<gens.size:=by
  rcases acF g gens.size with q|q
  ·exact q
  ·have z:gens[g]?=none:=ads q
   have h':gens[g]?=some .running:=h;rw[z]at h';cases h'
 have q:(gens.setIfInBounds g gs).setIfInBounds g .running=gens:=by
  apply ac1
  intro i
  by_cases e:g=i
  ·subst e
   rw[abB (by simpa using hlt)];exact h.symm
  ·rw[aa6 e,aa6 e]
 show({heap:=hh,gens:=(gens.setIfInBounds g gs).setIfInBounds g .running,drawn:=d,toks:=t,os:=os}:Shared)=_;rw[q]
theorem ni:∀{Ss:List Addr}{h h':Heap},(∀b∈Ss,∃o,h.get? b=some o/\h'.get? b=some o) ->dG Ss h'=dG Ss h
 | [],_,_,_=>rfl
 |b::r,h,h',k=>by
  obtain⟨o,e1,e2⟩:=k b aaD;unfold dG;rw[ab0,ab0,e1,e2];show(b,o)::dG r h'=(b,o)::dG r h;rw[ni λc hc=>k c (aay _ hc)]
section
variable(X:Cx)(B:Around)(sc:Scope)(N':List Str)(code:Value)(sC:Shared)(HC:Hp)(fp Ss:List Addr)(tn:Nat->Heap->Prop)(cnt:Nat)(R:Nat->V->Prop)(W:Nat->St->Hp->Prop)
structure CM(a:Addr)(i:Nat)(s:Shared):Prop where
 gen:s.heap.IsGen a sC.gens.size
 ex:∃gs pl σ' H',(∀p∈pl,p.1∉Ss)/\s.gens[sC.gens.size]?=some gs/\gs.bare=true/\Inv (X.gen B sc N' code sC HC fp) (dG Ss s.heap++pl) σ' H' (s.setGen sC.gens.size .running)/\tn i s.heap/\(∀b∈fp,H' b=none)/\W i σ' H'/\
  ∀s'':Shared,(∀b∈Ss,∃o,s''.heap.get? b=some o) ->Inv (X.gen B sc N' code sC HC fp) (dG Ss s''.heap++pl) σ' H' s''->tn i s''.heap->gs.Goes (model X.prog X.w) B (MP X B sc N' code sC HC fp Ss cnt W) (zJ X B sc N' code sC HC fp Ss tn cnt R W) (cnt-i) (.send .none) s''
end
section
variable{X:Cx}{D:Around}{sc:Scope}{N':List Str}{code:Value}{sC:Shared}{HC:Hp}{fp Ss:List Addr}{tn:Nat->Heap->Prop}{cnt:Nat}{R:Nat->V->Prop}{W:Nat->St->Hp->Prop}{a:Addr}{i:Nat}{s:Shared}
theorem Inv.Fv{pl:List (Addr×Obj)}{σ':St}{H':Hp}{s':Shared}(I:Inv X pl σ' H' s'):s'.heap.NoLimit:=I.nolimit
theorem Dj{B:Around}{pl:List (Addr×Obj)}{σ':St}{H':Hp}{s':Shared}(I:Inv (X.gen B sc N' code sC HC fp) pl σ' H' s'):s'.gens[sC.gens.size]?=some .running:=by
 have e:=I.bare.old sC.gens.size (by simp[Cx.gen]);rw[e];show(sC.gens.push .running)[sC.gens.size]?=_;simp
theorem CM.item{Q:Option Value->Shared->Prop}{E:Value->Shared->Prop}(G:CM X D.in1 sc N' code sC HC fp Ss tn cnt R W a i s)(hh:D.handled=none)(hroom:D.depth<recursionLimit)(ha:a∈Ss)(hs:∀b∈Ss,∃o,s.heap.get? b=some o)(hi:i<cnt)
  (hQ:∀v x s',RelV x v->R i x->CM X D.in1 sc N' code sC HC fp Ss tn cnt R W a (i+1) s'->(∀b∈Ss,∀o,s.heap.get? b=some o->s'.heap.get? b=some o) ->Q (some v) s'):
  wpAny (model X.prog X.w) D (pyNext (.ref a)) Q E s:=by
 obtain⟨gs,pl,σ',H',hpl,e1,e2,I,st,fr,w,go⟩:=G.ex;have gg:=go (s.setGen sC.gens.size .running) hs I st;obtain⟨m,hm⟩:∃m,cnt-i=m+1:=⟨cnt-i-1,by omega⟩;rw[hm]at gg;refine wpAny_pyNext_genexpQ (P:=λn s₀ s₁=>n=0/\ ∃σ' H',Inv (X.gen D.in1 sc N' code sC HC fp) (dG Ss s₀.heap) σ' H' s₁/\W cnt σ' H') hh I.Fv hroom G.gen e1 gg (λv s1 gs' hb hy=> ?_) (λs1 hp=> ?_)
 ·obtain⟨VO,σ1,H1,x,Sq,I1,st1,Rf,r1,hR,w1,Uw⟩:=hy
  have ei:cnt- (m+1-1)=i+1:=by omega
  rw[ei]at st1 w1 Uw hR;have kp:∀b∈Ss,∀o,s.heap.get? b=some o->s1.heap.get? b=some o:=λb hb o e=>(I1.pin (b,o) (aam _ (aa1 _ (cM hb e)))).1;have eq:dG Ss s1.heap=dG Ss s.heap:=ni λb hb=>let⟨o,e⟩:=hs b hb;⟨o,e,kp b hb o e⟩
  have run:=Dj I1;refine hQ v x _ r1 hR ⟨?_,gs',VO,σ1,H1,Sq,setGen_self run,hb,?_,st1,Rf,w1,?_⟩ kp
  ·obtain⟨o,nm,qn,eo,r⟩:=G.gen
   exact⟨o,nm,qn,kp a ha o eo,r⟩
  ·rw[Jy run]
   show Inv _ (dG Ss s1.heap++VO) σ1 H1 s1;rw[eq];exact I1
  ·have e3:cnt- (i+1)=m:=by omega
   rw[e3];exact Uw
 ·exact absurd hp.1 (by omega)
theorem CM.done{pins:List (Addr×Obj)}{σ:St}{Q:Option Value->Shared->Prop}{E:Value->Shared->Prop}(G:CM X D.in1 sc N' code sC HC fp Ss tn cnt R W a cnt s)(IC:Inv X pins σ HC sC)(hf:∀b∈fp,gb X pins HC b)(hh:D.handled=none)(hroom:D.depth<recursionLimit)(hs:∀b∈Ss,∃o,s.heap.get? b=some o)
  (hQ:∀s' σ' H',Inv X pins σ H' s'->W cnt σ' H'->Q none s'):
  wpAny (model X.prog X.w) D (pyNext (.ref a)) Q E s:=by
 obtain⟨gs,pl,σ',H',hpl,e1,e2,I,st,fr,w,go⟩:=G.ex;have gg:=go (s.setGen sC.gens.size .running) hs I st;rw[ad6]at gg;refine wpAny_pyNext_genexpQ (P:=λn s₀ s₁=>n=0/\ ∃σ' H',Inv (X.gen D.in1 sc N' code sC HC fp) (dG Ss s₀.heap) σ' H' s₁/\W cnt σ' H') hh I.Fv hroom G.gen e1 gg (λv s1 gs' hb hy=> ?_) (λs1 hp h' k=> ?_)
 ·obtain⟨VO,σ1,H1,x,Sq,I1,st1,Rf,r1,hR,w1,Uw⟩:=hy
  have kp:∀b∈Ss,∀o,s.heap.get? b=some o->s1.heap.get? b=some o:=λb hb o e=>(I1.pin (b,o) (aam _ (aa1 _ (cM hb e)))).1;have eq:dG Ss s1.heap=dG Ss s.heap:=ni λb hb=>let⟨o,e⟩:=hs b hb;⟨o,e,kp b hb o e⟩
  exact False.elim (Uw s1 (λb hb=>let⟨o,e⟩:=hs b hb;⟨o,kp b hb o e⟩) (by rw[eq];exact I1) st1)
 ·obtain⟨_,σ1,H1,I1,w1⟩:=hp
  have I2:=Inv.OB (gs:= .finished) IC hf rfl I1;exact hQ _ σ1 H1 (I2.kept (t':=s1.toks) k) w1
end
section
variable{X:Cx}{B:Around}{sc:Scope}{N':List Str}{code:Value}{sC:Shared}{HC:Hp}{fp Ss:List Addr}{tn:Nat->Heap->Prop}{cnt:Nat}{R:Nat->V->Prop}{W:Nat->St->Hp->Prop}
variable{elt iter tg:Expr}{pos:Pos}{it:Addr}{J:It}{g:TG}{te:TE}
theorem Jz(hco:sc.isCoroutine=false)(hc:X.calm=true)(T:Turn X.prog X.w X.K tg J fp it tn)(hg:PG (X.gen B sc N' code sC HC fp) tg g)(he:PE (X.gen B sc N' code sC HC fp) elt te)(Jx:∀b∈fp,b∉Ss)
  (turn:∀i σ' H',i<cnt->W i σ' H'->J.go i H'/\ ∀x H2,J.AN i H' x H2->g x σ' H2 λσ3 H3=>te σ3 H3 λv H4=>R i v/\W (i+1) σ3 H4)
  (stop:∀σ' H',W cnt σ' H'->J.stop cnt H'){σ':St}{H':Hp}{s:Shared}(w:W 0 σ' H')(I:Inv (X.gen B sc N' code sC HC fp) (dG Ss s.heap) σ' H' s)(st:tn 0 s.heap)(fr:∀b∈fp,H' b=none):
  Seg (model X.prog X.w) B (MP X B sc N' code sC HC fp Ss cnt W) (zJ X B sc N' code sC HC fp Ss tn cnt R W) cnt s (.compStart (.GeneratorExp elt [⟨tg,iter,[],0⟩] sc pos) 0 (.ref it) .none (X.gen B sc N' code sC HC fp).env)
   ((model X.prog X.w).den (.compStart (.GeneratorExp elt [⟨tg,iter,[],0⟩] sc pos) 0 (.ref it) .none (X.gen B sc N' code sC HC fp).env)) [] s:=by
 have lp:=MQ (iter:=iter) (pos:=pos) hco hc T hg he Jx turn stop cnt 0 σ' H' s s (ad7 _) w I st fr;show Seg _ B _ _ _ s _ ((compStart (.GeneratorExp elt [⟨tg,iter,[],0⟩] sc pos) 0 (.ref it) .none (X.gen B sc N' code sC HC fp).env).onRaise (leaving (X.gen B sc N' code sC HC fp).env)) [] s;unfold compStart;rw[Sem.onRaise_eq_wrap];show Seg _ B _ _ _ s _ ((ask>>=_).wrap _ _ _ _) [] s;refine seg_bind_wrap (wpAny_askSetting ?_)
 split
 ·exact seg_again rfl lp
 ·first
   |exact seg_bind_wrap (wpAny_rule (seg_bind_wrap (wpAny_standAt (seg_bind_wrap (T.self _ 0 s _ _ st (seg_again rfl lp))))))
   |(refine seg_bind_wrap (wpAny_rule ?_);(show Seg _ B _ _ _ s _ ((standAt iter.pos>>=_).wrap _ _ _ _) [] s);exact seg_bind_wrap (wpAny_standAt (seg_bind_wrap (T.self _ 0 s _ _ st (seg_again rfl lp)))))
end
noncomputable def yJ(k:Nat)(g:TG)(te:TE)(σ:St)(F:Nat->(Nat->V->Prop) ->(Nat->St->Hp->Prop) ->Prop)(J:It)(H:Hp):Prop:=∃(cnt:Nat)(R:Nat->V->Prop)(W:Nat->St->Hp->Prop),W 0 (abh k none++σ) H/\
 (∀i σ' H',i<cnt->W i σ' H'->J.go i H'/\ ∀x H2,J.AN i H' x H2->g x σ' H2 λσ3 H3=>te σ3 H3 λv H4=>R i v/\W (i+1) σ3 H4)/\(∀σ' H',W cnt σ' H'->J.stop cnt H')/\F cnt R W
theorem p8(elt target iter:Expr)(ifs:List Expr)(cls:List Comprehension)(scope:Scope)(pos:Pos)(env:Env)(hco:scope.isCoroutine=false):
  eval (.GeneratorExp elt (⟨target,iter,ifs,0⟩::cls) scope pos) env=(do
   let x<-eval iter env
   standAt iter.pos
   let x<-genFold iter env x
   let it<-holding [x] (pyIter x)
   enterFrame
   let cl<-closureFor scope env
   let code<-genexprCode env pos (env.qual++ "<genexpr>") scope
   let bi<-builtinsFor env.globals env.builtins
   let cenv<-newFunctionEnv scope env.globals cl [(".0",it)] (env.qual++ "<genexpr>.") none code none bi
   newGenerator (.compStart (.GeneratorExp elt (⟨target,iter,ifs,0⟩::cls) scope pos) 0 it .none cenv) "<genexpr>" (env.qual++ "<genexpr>")):=by
 rw[arm_eval_GeneratorExp];simp only[hco,aaz,if_false];cases iter<;>rfl
section
variable{M:Model}{A:Around}{E:Value->Shared->Prop}{s:Shared}
theorem lR{env:Env}{elt target iter:Expr}{ifs:List Expr}{cls:List Comprehension}{scope:Scope}{cl:List (Str×Addr)}{pos:Pos}{Q:Value->Shared->Prop}
  (hco:scope.isCoroutine=false)(hclos:closureFor scope env=pure cl)(hcell:∀y∈scope.names,y.2≠ .cell)(h0:scope.names.lookup (".0":Str)=some NameKind.local)(hkind:scope.kind= .function)
  (hroom:A.depth<recursionLimit)
  (h:wpAny M A (eval iter env) (λxv s₁=>wpAny M A (pyIter xv) (λit s₂=>s₂.heap.NoLimit/\
   wpAny M A (genexprCode env pos (env.qual++ "<genexpr>") scope) (λcode s₃=>wpAny M A (builtinsFor env.globals env.builtins) (λbi s₄=>
    ∀h',h'.Ns s₄.heap.objs.size (λy=>if y= ".0" then some it else none) ->Heap.SameBut s₄.heap.objs.size (s₄.heap.push {cls:= .type "frame",data:= .dict #[]}) h'->
     Q (.ref h'.objs.size) {s₄ with
      gens:=s₄.gens.push (.fresh (.compStart (.GeneratorExp elt (⟨target,iter,ifs,0⟩::cls) scope pos) 0 it .none (genEnv scope cl s₄.heap.objs.size code bi env))),
      toks:=s₄.toks+1+1+1,
      heap:=h'.push {cls:= .type "generator",data:= .fields #[.int s₄.gens.size 0,.str "<genexpr>" (s₄.toks+1),.str (env.qual++ "<genexpr>") (s₄.toks+1+1)]}}) E s₃) E s₂) E s₁) E s)
  (hs:∀x,genFold iter env x=pure x):
  wpAny M A (eval (.GeneratorExp elt (⟨target,iter,ifs,0⟩::cls) scope pos) env) Q E s:=by
 rw[p8 _ _ _ _ _ _ _ _ hco,hclos];refine wpAny_bind (wpAny_mono h (λxv s₁ h₁=> ?_) λ_ _ e=>e);refine wpAny_bind (wpAny_standAt ?_);refine wpAny_bind (wpAny_of_eq (hs xv) ?_);refine wpAny_bind (wpAny_holding (wpAny_mono h₁ (λit s₂ h₂=> ?_) λ_ _ e=>e));refine wpAny_bind (wpAny_enterFrame h₂.1 hroom ?_);refine wpAny_bind (wpAny_pure ?_);refine wpAny_bind (wpAny_mono h₂.2 (λcode s₃ h₃=> ?_) λ_ _ e=>e);refine wpAny_bind (wpAny_mono h₃ (λbi s₄ h₄=> ?_) λ_ _ e=>e);have PU:∀y∈([((".0":Str),it)]:List (Str×Value)),scope.names.lookup y.1=some NameKind.local:=by
  intro y hy;rcases aar.mp hy with rfl|hy
  ·exact h0
  ·cases hy
 refine wpAny_bind (wpAny_newFunctionEnv hcell PU (λh' hn' hs'=> ?_) hkind);have e:(λy:Str=>([((".0":Str),it)]:List (Str×Value)).reverse.lookup y)=λy:Str=>if y=(".0":Str)then some it else none:=by
  funext y
  by_cases hy:y= ".0"
  ·subst hy;simp
  ·have:(y==(".0":Str))=false:=by simpa using hy
   simp[adR,this,hy]
 rw[e]at hn';simp only[newGenerator,newFields];refine wpAny_bind (wpAny_newGen (wpAny_bind (wpAny_mkText (wpAny_bind (wpAny_mkText (wpAny_newObj_type ?_ (by size_fits)))))));exact h₄ h' hn' hs'
end
section
variable{X:Cx}{sc:Scope}{own N2:List Str}{elt iter tg:Expr}{pos:Pos}{wi:TI}{g:TG}{te:TE}{P:Addr}
theorem JA{ifs:List Expr}{cls:List Comprehension}{Rd:It->Hp->Prop}{pins:List (Addr×Obj)}{σ:St}{H0:Hp}{s0:Shared}{F:Nat->(Nat->V->Prop) ->(Nat->St->Hp->Prop) ->Prop}(more:Nat->List Addr)(hmore:∀a,∀b∈more a,a<b)
  (hc:X.calm=true)(hroom:X.A.depth<recursionLimit)(hi:PI X tg iter wi)(Bk:qR sc.names X.env.scope.names own N2 X.N)(hk:sc.kind= .function)(hco:sc.isCoroutine=false)(hnc:∀y∈sc.names,y.2≠ .cell)(VP:sc.names.lookup (".0":Str)=some NameKind.local)
  (hcd:gZ X.K X.env.code P)(bm:BM X.mg X.base)
  (hs:∀x,genFold iter X.env x=pure x)
  (VQ:∀code s H fp it OC J,Turn X.prog X.w X.K tg J fp it OC->(∀b∈fp,H b=none) ->Rd J H-> ∃cnt R W tn,F cnt R W/\W 0 (abh own.length none++σ) H/\(∀h,OC 0 h↔tn 0 h)/\(∀i h h',tn i h->(∀b∈fp,∀o,h.get? b=some o->h'.get? b=some o) ->tn i h')/\
   ∀Ss:List Addr,(∀b∈fp,b∉Ss) -> ∀s'':Shared,(∀b∈Ss,∃o,s''.heap.get? b=some o) ->Inv (X.gen X.A.in1.in1 sc (own++N2) code s H fp) (dG Ss s''.heap) (abh own.length none++σ) H s''->OC 0 s''.heap->
    Seg (model X.prog X.w) X.A.in1.in1 (MP X X.A.in1.in1 sc (own++N2) code s H fp Ss cnt W) (zJ X X.A.in1.in1 sc (own++N2) code s H fp Ss tn cnt R W) cnt s'' (.compStart (.GeneratorExp elt (⟨tg,iter,ifs,0⟩::cls) sc pos) 0 (.ref it) .none (X.gen X.A.in1.in1 sc (own++N2) code s H fp).env)
     ((model X.prog X.w).den (.compStart (.GeneratorExp elt (⟨tg,iter,ifs,0⟩::cls) sc pos) 0 (.ref it) .none (X.gen X.A.in1.in1 sc (own++N2) code s H fp).env)) [] s'')
  (I0:Inv X pins σ H0 s0)(h:wi σ H0 λJ H=>H P=some (eN P)/\Rd J H):
  wpAny (model X.prog X.w) X.A (eval (.GeneratorExp elt (⟨tg,iter,ifs,0⟩::cls) sc pos) X.env) (λu s5=> ∃a cnt R W sC HC fp code tn,u= .ref a/\s5.heap.objs.size=a+1/\
   CM X X.A.in1.in1 sc (own++N2) code sC HC fp (a::more a) tn cnt R W a 0 s5/\Inv X pins σ HC sC/\(∀b∈fp,gb X pins HC b)/\sC.heap.objs.size<a/\(∀b∈fp,b<sC.heap.objs.size)/\(∀i h h',tn i h->(∀b∈fp,∀o,h.get? b=some o->h'.get? b=some o) ->tn i h')/\F cnt R W) X.xe s0:=by
 refine lR hco (pq I0 Bk) hnc VP hk hroom ?_ hs;refine wpAny_mono (hi pins s0 σ H0 _ I0 h) (λxv s1 h1=>wpAny_mono h1 (λitv s2 h2=> ?_) λ_ _ e=>e) λ_ _ e=>e;obtain⟨it,fp,OC,J,H,e,I,T,st,hf,hP,Zc⟩:=h2;subst e;refine⟨I.Fv,Dh I hcd hP λcode h3 Xn I3 ext=> ?_⟩;obtain⟨Ux,ob,b1,b2,b3,b4,b5,b6⟩:=bm;refine wpAny_builtinsFor (m:=X.mg) (by rw[I3.ok.glob];exact I3.mod.glob.keeps I3.bk) b1 b2 (I3.bk _ _ b3) b4 b5 b6 ?_;intro h' hn' hs';have st3:OC 0 h3:=T.keep _ _ _ st λb hb o e=>ext b o (λz=>by have:=(hf b hb).1;rw[z,hP]at this;cases this) e;have VR:∀b∈fp,∃o,h3.get? b=some o:=λb hb=>let⟨o,e,_⟩:=T.obj 0 _ st3 b hb;⟨o,e⟩
 have OD:∀b o,h3.get? b=some o->h'.get? b=some o:=λb o e=>hs'.extBut b o (aaI (Heap.lt_size e)) (Heap.get?_push_of_some _ e);have sz':h'.objs.size=h3.objs.size+1:=by rw[hs'.1,Heap.size_push]
 have IG:=λ(hx:Heap)(tk:Nat)(m:Str->Option Value)(hn:hx.Ns h3.objs.size m)(kp:∀b o,h3.get? b=some o->hx.get? b=some o)=>
  MO (B:=X.A.in1.in1) (code:=code) (fp:=fp) (h':=hx) (tk:=tk) I3 Bk hk hnc hf VR I3.ok.frames (I3.ok.hd hc) hn kp
 obtain⟨cnt,R,W,tn,hF,w0,Xo,JC,sg⟩:=VQ code {s2 with heap:=h3,toks:=Xn} H fp it OC J T (λb hb=>(hf b hb).1) Zc;refine⟨h'.objs.size,cnt,R,W,{s2 with heap:=h3,toks:=Xn},H,fp,code,tn,rfl,by rw[Heap.size_push],⟨⟨_,_,_,Heap.get?_push_size _ rfl,rfl,rfl,rfl⟩,.fresh _,[],abh own.length none++σ,H,(λ_ h=>nomatch h),Array.getElem?_push_size ..,rfl,?_,?_,λb hb=>(hf b hb).1,w0,?_⟩,I3,hf,by show h3.objs.size<h'.objs.size;omega,λb hb=>let⟨o,e⟩:=VR b hb;Heap.lt_size e,JC,hF⟩
 ·have eg:(s2.gens.push (GenState.fresh (.compStart (.GeneratorExp elt (⟨tg,iter,ifs,0⟩::cls) sc pos) 0 (.ref it) .none (genEnv sc (cK X.env sc.names []) h3.objs.size code builtinsNs X.env)))).setIfInBounds s2.gens.size .running=s2.gens.push .running:=by
   apply ac1
   intro i
   by_cases e:s2.gens.size=i
   ·subst e
    rw[abB (by simp)];simp
   ·rw[aa6 e,adS,adS]
    simp[Ne.symm e]
  simp only[Shared.setGen];rw[eg,aba];refine Inv.j3 (pins:=[]) (IG _ _ _ (hn'.push _) (λb o e=>Heap.get?_push_of_some _ (OD b o e))) λp hp=> ?_;obtain⟨q1,q2⟩:=j9 hp;have ep:p.1=h'.objs.size:=by
   rcases aar.mp q1 with z|z
   ·exact z
   ·have l1:=hmore _ _ z
    have l2:=Heap.lt_size q2;rw[Heap.size_push]at l2;exact absurd (aao l1 (Nat.le_of_lt_succ l2)) (aa4 _)
  have big:h3.objs.size<=p.1:=by rw[ep,sz'];exact ab8 _
  have PV:h3.objs.size<p.1:=by rw[ep,sz'];exact ab2 _
  refine⟨q2,I3.hok.fresh big,abX PV,λz=> ?_,λv=> ?_⟩
  ·rcases aar.mp (I3.vR p.1 z)with y|y
   ·have l:X.env.locals<h3.objs.size:=I3.lt
    rw[y]at PV;exact absurd (acG l PV) (aa4 _)
   ·exact I3.Rz big y
  ·rw[ep]at q2
   rw[Heap.get?_push_size _ rfl]at q2;intro z;rw[<-Option.some.inj q2]at z;cases z
 ·exact(Xo _).1 (T.keep _ _ _ st3 λb hb o e=>Heap.get?_push_of_some _ (OD b o e))
 ·intro s'' VS PR st''
  rw[aba]at PR;refine⟨rfl,?_⟩;rw[Nat.sub_zero];refine sg _ (λb hb z=> ?_) s'' VS PR ((Xo _).2 st'');have l:b<h3.objs.size:=let⟨o,e⟩:=VR b hb;Heap.lt_size e
  rcases aar.mp z with y|y
  ·rw[y,sz']at l
   exact absurd (Nat.lt_of_succ_lt l) (aa4 _)
  ·have l2:=hmore _ _ y
   rw[sz']at l2;exact absurd (acG (acG l (ab2 _)) l2) (aa4 _)
theorem Fw{pins:List (Addr×Obj)}{σ:St}{H0:Hp}{s0:Shared}{F:Nat->(Nat->V->Prop) ->(Nat->St->Hp->Prop) ->Prop}(more:Nat->List Addr)(hmore:∀a,∀b∈more a,a<b)
  (hc:X.calm=true)(hroom:X.A.depth<recursionLimit)(hi:PI X tg iter wi)(Bk:qR sc.names X.env.scope.names own N2 X.N)(hk:sc.kind= .function)(hco:sc.isCoroutine=false)(hnc:∀y∈sc.names,y.2≠ .cell)(VP:sc.names.lookup (".0":Str)=some NameKind.local)
  (hcd:gZ X.K X.env.code P)(bm:BM X.mg X.base)
  (hg:∀code s H fp,PG (X.gen X.A.in1.in1 sc (own++N2) code s H fp) tg g)(he:∀code s H fp,PE (X.gen X.A.in1.in1 sc (own++N2) code s H fp) elt te)
  (hs:∀x,genFold iter X.env x=pure x)(I0:Inv X pins σ H0 s0)(h:wi σ H0 λJ H=>H P=some (eN P)/\yJ own.length g te σ F J H):
  wpAny (model X.prog X.w) X.A (eval (.GeneratorExp elt [⟨tg,iter,[],0⟩] sc pos) X.env) (λu s5=> ∃a cnt R W sC HC fp code tn,u= .ref a/\s5.heap.objs.size=a+1/\
   CM X X.A.in1.in1 sc (own++N2) code sC HC fp (a::more a) tn cnt R W a 0 s5/\Inv X pins σ HC sC/\(∀b∈fp,gb X pins HC b)/\sC.heap.objs.size<a/\(∀b∈fp,b<sC.heap.objs.size)/\(∀i h h',tn i h->(∀b∈fp,∀o,h.get? b=some o->h'.get? b=some o) ->tn i h')/\F cnt R W) X.xe s0:=
 JA (cls:=[]) (Rd:=λJ H=>yJ own.length g te σ F J H) more hmore hc hroom hi Bk hk hco hnc VP hcd bm hs (λcode s H fp it OC J T hfr ⟨cnt,R,W,w0,turn,stop,hF⟩=>
  ⟨cnt,R,W,OC,hF,w0,λ_=>Iff.rfl,T.keep,λSs hd s'' _ PR st''=>Jz hco hc T (hg code s H fp) (he code s H fp) hd turn stop w0 PR st'' hfr⟩) I0 h
end
section
variable{X:Cx}{B:Around}{sc:Scope}{N':List Str}{code:Value}{sC:Shared}{HC:Hp}{fp:List Addr}{tn:Nat->Heap->Prop}{cnt:Nat}{R:Nat->V->Prop}{W:Nat->St->Hp->Prop}{a S:Addr}{i:Nat}{s:Shared}
theorem CM.frame{h':Heap}{tk:Nat}{o':Obj}(G:CM X B sc N' code sC HC fp [a,S] tn cnt R W a i s)(OE:a≠S)(hC:sC.heap.objs.size<S)(hfp:∀b∈fp,b≠S)
  (JC:∀i h h',tn i h->(∀b∈fp,∀o,h.get? b=some o->h'.get? b=some o) ->tn i h')(hS:(∃o,s.heap.get? S=some o)∨s.heap.objs.size<=S)
  (keep:∀b o,b≠S->s.heap.get? b=some o->h'.get? b=some o)(e':h'.get? S=some o')(nc:∀v,o'.data≠ .cell v):
  CM X B sc N' code sC HC fp [a,S] tn cnt R W a i {s with heap:=h',toks:=tk}:=by
 obtain⟨gs,pl,σ',H',hpl,e1,e2,I,st,fr,w,go⟩:=G.ex;have I1:Inv (X.gen B sc N' code sC HC fp) (dG [a] s.heap++pl) σ' H' (s.setGen sC.gens.size .running):=I.j3 λp hp=>by
  rcases aaE.mp hp with hp|hp
  ·obtain⟨q1,q2⟩:=j9 hp
   exact I.pin p (aam _ (aa1 _ (cM (fp:=[a,S]) (by rw[aap.mp q1];simp) q2)))
  ·exact I.pin p (aam _ (aam _ hp))
 have Zd:S∉(X.gen B sc N' code sC HC fp).fs:=λhb=>by
  obtain⟨_,o,ho,_⟩:=I.ok.vc.mem hb;exact absurd (acG (Heap.lt_size ho) hC) (aa4 _)
 have ea:∃oa,s.heap.get? a=some oa:=let⟨o,_,_,q,_⟩:=G.gen;⟨o,q⟩
 obtain⟨oa,ea⟩:=ea;have I2:Inv (X.gen B sc N' code sC HC fp) (dG [a] s.heap++pl) σ' H' {s.setGen sC.gens.size .running with heap:=h',toks:=tk}/\H' S=none:=by
  rcases hS with⟨o,eo⟩|hS
  ·have pS:=I.pin (S,o) (aam _ (aa1 _ (cM (fp:=[a,S]) (by simp) eo)))
   refine⟨I1.turned (it:=S) (h':=h') (t':=tk) keep pS.2.1 (abX hC) (.inr (acZ hC)) (λy c hc z=> ?_) (λp hp z=> ?_),pS.2.1⟩
   ·obtain⟨v,oc,q1,q2⟩:=I.cell y c hc
    rw[z]at q1;have Xp:s.heap.get? S=some oc:=q1;rw[eo]at Xp;have q3:o=oc:=Option.some.inj Xp;exact pS.2.2.2.2 v (by rw[q3];exact q2)
   ·have lD:p∈dG [a] s.heap++pl:=hp
    rcases aaE.mp lD with lD|lD
    ·exact OE (by rw[<-z,aap.mp (j9 lD).1])
    ·exact hpl p lD (by rw[z];simp)
  ·refine⟨I1.kept (h':=h') (t':=tk) λb o e=>keep b o (λz=> ?_) e,I.hok.fresh hS⟩
   exact absurd (aao (Heap.lt_size e) (by rw[z];exact hS)) (aa4 _)
 obtain⟨I2,Ze⟩:=I2;refine⟨(let⟨o,nm,qn,q,r⟩:=G.gen;⟨o,nm,qn,keep a o OE q,r⟩),gs,pl,σ',H',hpl,e1,e2,I2.j3 λp hp=> ?_,JC _ _ _ st λb hb o e=>keep b o (hfp b hb) e,fr,w,go⟩;refine(aaE.mp hp).elim (λhp=> ?_) (λhp=>I2.pin p (aam _ (aam _ hp)));obtain⟨q1,q2⟩:=j9 hp;rcases aar.mp q1 with z|z
 ·have q:=I2.pin (a,oa) (aam _ (aa1 _ (cM (fp:=[a]) (by simp) ea)))
  have Su:h'.get? p.1=some p.2:=q2;rw[z,keep a oa OE ea]at Su;have q3:oa=p.2:=Option.some.inj Su;have ep:p=(a,oa):=by rw[<-z,q3]
  rw[ep];exact q
 ·have z':p.1=S:=aap.mp z
  have Su:h'.get? p.1=some p.2:=q2;rw[z',e']at Su;have q3:o'=p.2:=Option.some.inj Su;refine⟨q2,by rw[z'];exact Ze,by rw[z'];exact abX hC,by rw[z'];exact Zd,by rw[<-q3];exact nc⟩
end
section
variable{X:Cx}{sc:Scope}{N':List Str}{code:Value}{sC:Shared}{HC:Hp}{fp:List Addr}{tn:Nat->Heap->Prop}{cnt:Nat}{R:Nat->V->Prop}{W:Nat->St->Hp->Prop}{a S:Addr}{pins:List (Addr×Obj)}{σ:St}{Rr:Result->Shared->Prop}
theorem Hf(IC:Inv X pins σ HC sC)(hf:∀b∈fp,gb X pins HC b)(hh:X.A.handled=none)(hroom:X.A.depth<recursionLimit)(OE:a≠S)(hC:sC.heap.objs.size<S)(hfp:∀b∈fp,b≠S)
  (JC:∀i h h',tn i h->(∀b∈fp,∀o,h.get? b=some o->h'.get? b=some o) ->tn i h')(val:Nat->Int)(hval:∀i v,i<cnt->R i v->v= .int (val i)):∀(k i:Nat)(s:Shared)(tA:Tok)(c:Nat)(st:Int),(st=0∨st=2) ->cnt-i=k->i<=cnt->
  CM X X.A.in1.in1 sc N' code sC HC fp [a,S] tn cnt R W a i s->s.heap.get? S=some {cls:= .type "list",dict:=none,data:= .seq #[.int (preSum val i) tA] c,slots:= #[]} ->
  (∀s' t' σ' H',Inv X pins σ H' s'->W cnt σ' H'->Rr (.ok (.ret (.int (preSum val cnt) t'))) s') ->codeAny (model X.prog X.w) X.A (.builtin "sum.loop" ⟨[.ref a,.ref S,rawInt st,rawInt 0],[]⟩) Rr s:=by
 intro k
 induction k with
 |zero=>
  intro i s tA c st hst hk hi G hS hR;obtain rfl:i=cnt:=by omega
  refine codeAny_builtin adt (by
   rw[Around.under_plainId abv _];show wpAny _ X.A.in1 (seqItems? (.ref S)>>=_) _ _ s;refine wpAny_bind (wpAny_seqItems hS rfl ?_);show wpAny _ X.A.in1 (tryCatch (pyNext (.ref a)) _>>=_) _ _ s;have ex:∀b∈ [a,S],∃o,s.heap.get? b=some o:=λb hb=>by
    rcases aar.mp hb with z|z
    ·obtain⟨o,_,_,q,_⟩:=G.gen;rw[z];exact⟨o,q⟩
    ·rw[aap.mp z];exact⟨_,hS⟩
   exact wpAny_bind (wpAny_tryCatch (G.done (D:=X.A.in1) IC hf hh hroom ex λs' σ' H' I' w'=>wpAny_pure (hR s' tA σ' H' I' w'))))
 |succ k ih=>
  intro i s tA c st hst hk hi G hS hR;have hlt:i<cnt:=by omega
  have ex:∀b∈ [a,S],∃o,s.heap.get? b=some o:=λb hb=>by
   rcases aar.mp hb with z|z
   ·obtain⟨o,_,_,q,_⟩:=G.gen;rw[z];exact⟨o,q⟩
   ·rw[aap.mp z];exact⟨_,hS⟩
  refine codeAny_builtin adt (by
   rw[Around.under_plainId abv _];show wpAny _ X.A.in1 (seqItems? (.ref S)>>=_) _ _ s;refine wpAny_bind (wpAny_seqItems hS rfl ?_);show wpAny _ X.A.in1 (tryCatch (pyNext (.ref a)) _>>=_) _ _ s;refine wpAny_bind (wpAny_tryCatch (G.item (D:=X.A.in1) hh hroom (by simp) ex hlt λv x s' rx VT G' kp=> ?_));obtain rfl:=hval i x hlt VT;obtain⟨t,rfl⟩:=rx;have hS':=kp S (by simp) _ hS;have again:∀(h':Heap)(tk:Nat)(c':Nat)(tB:Tok)(st':Int),(st'=0∨st'=2) ->(∀b o,b≠S->s'.heap.get? b=some o->h'.get? b=some o) ->h'.get? S=some {cls:= .type "list",dict:=none,data:= .seq #[.int (preSum val i+val i) tB] c',slots:= #[]} ->
     codeAny (model X.prog X.w) X.A (.builtin "sum.loop" ⟨[.ref a,.ref S,rawInt st',rawInt 0],[]⟩) Rr {s' with heap:=h',toks:=tk}:=λh' tk c' tB st' VU Zf e'=>
    ih (i+1) _ tB c' st' VU (by omega) hlt (G'.frame OE hC hfp JC (.inl ⟨_,hS'⟩) Zf e' (λv z=>by cases z)) e' hR
   rcases hst with rfl|rfl
   ·show wpAny _ X.A.in1 (if(_:Bool)=true then(mkInt (preSum val i+val i)>>=_)else _) _ _ _
    split
    ·refine wpAny_bind (wpAny_mkInt ?_)
     show wpAny _ X.A.in1 (updateSeq S (λ_=> #[.int (preSum val i+val i) s'.toks])>>=_) _ _ _;exact wpAny_bind (wpAny_updateSeq hS' rfl (wpAny_pure ⟨plainId_quiet abv _,again _ _ _ _ 0 (.inl rfl) (λb o hb e=>(Heap.get?_update_other _ _ (Ne.symm hb)).trans e) (Heap.get?_update_self _ hS' rfl)⟩))
    ·refine wpAny_bind (wpAny_rule (wpAny_bind (wpAny_attempt (wpAny_holding (wpAny_add_int ?_)))))
     show wpAny _ X.A.in1 (updateSeq S (λ_=> #[.int (preSum val i+val i) s'.toks])>>=_) _ _ _;refine wpAny_bind (wpAny_updateSeq hS' rfl ?_);have Sv:=Heap.get?_update_self (Obj.mapSeq λ_=> #[Value.int (preSum val i+val i) s'.toks]) hS' rfl;exact wpAny_bind (wpAny_letGo (wpAny_bind (wpAny_updateSeq Sv rfl (wpAny_pure ⟨plainId_quiet abv _,again _ _ _ _ 2 (.inr rfl) (λb o hb e=>(Heap.get?_update_other _ _ (Ne.symm hb)).trans ((Heap.get?_update_other _ _ (Ne.symm hb)).trans e)) (Heap.get?_update_self _ Sv rfl)⟩))))
   ·show wpAny _ X.A.in1 ((holding [Value.int (val i) t] (binaryOp .Add (.int (preSum val i) tA) (.int (val i) t))).attempt>>=_) _ _ _
    refine wpAny_bind (wpAny_attempt (wpAny_holding (wpAny_add_int ?_)));show wpAny _ X.A.in1 (updateSeq S (λ_=> #[.int (preSum val i+val i) s'.toks])>>=_) _ _ _;refine wpAny_bind (wpAny_updateSeq hS' rfl ?_);have Sv:=Heap.get?_update_self (Obj.mapSeq λ_=> #[Value.int (preSum val i+val i) s'.toks]) hS' rfl;exact wpAny_bind (wpAny_letGo (wpAny_bind (wpAny_updateSeq Sv rfl (wpAny_pure ⟨plainId_quiet abv _,again _ _ _ _ 2 (.inr rfl) (λb o hb e=>(Heap.get?_update_other _ _ (Ne.symm hb)).trans ((Heap.get?_update_other _ _ (Ne.symm hb)).trans e)) (Heap.get?_update_self _ Sv rfl)⟩)))))
theorem Hg{Q:Value->Shared->Prop}{E:Value->Shared->Prop}{s:Shared}(IC:Inv X pins σ HC sC)(hf:∀b∈fp,gb X pins HC b)(hh:X.A.handled=none)(hroom:X.A.depth<recursionLimit)(hsz:s.heap.objs.size=a+1)(hC:sC.heap.objs.size<a)(hlt:∀b∈fp,b<sC.heap.objs.size)
  (JC:∀i h h',tn i h->(∀b∈fp,∀o,h.get? b=some o->h'.get? b=some o) ->tn i h')(val:Nat->Int)(hval:∀i v,i<cnt->R i v->v= .int (val i))(G:CM X X.A.in1.in1 sc N' code sC HC fp [a,a+1] tn cnt R W a 0 s)
  (hQ:∀s' t' σ' H',Inv X pins σ H' s'->W cnt σ' H'->Q (.int (preSum val cnt) t') s'):wpAny (model X.prog X.w) X.A (call (.builtin "sum") [.ref a]) Q E s:=by
 refine call_function_tree PySem.F.kind_sum PySem.F.plain_sum PySem.F.entry_sum (PySem.F.args_sum1 _) ?_;unfold Builtin.«sum»;simp only[aa7,acR];rw[if_neg (by decide)];refine wpAny_bind (wpAny_of_eq (a:=[none]) rfl ?_);refine wpAny_bind (wpAny_pyIter_gen G.gen ?_);refine wpAny_bind (wpAny_mkInt (wpAny_bind (wpAny_pure ?_)));simp only[adB,acC];refine wpAny_bind (wpAny_bind (wpAny_bind (wpAny_isInstance (T:= "int") (b:=false) (typeIs_int _ _ _) PySem.sub_int_str ?_)));simp only[aaz,if_false];refine wpAny_pure (wpAny_bind (wpAny_bind (wpAny_isInstance (T:= "int") (b:=false) (typeIs_int _ _ _) PySem.sub_int_bytes ?_)));simp only[aaz,if_false];refine wpAny_pure (wpAny_bind (wpAny_bind (wpAny_isInstance (T:= "int") (b:=false) (typeIs_int _ _ _) PySem.sub_int_bytearray ?_)));simp only[aaz,if_false];refine wpAny_pure (wpAny_pure (wpAny_bind (wpAny_newObj_type ?_)));have OE:a≠a+1:=aaI (ab2 _);have VV:sC.heap.objs.size<a+1:=abJ hC;have Xq:∀b∈fp,b≠a+1:=λb hb=>aaI (acG (hlt b hb) VV);refine wpAny_pure ⟨plainId_quiet abv _,?_⟩;have e0:({s with toks:=s.toks+1}:Shared).heap.objs.size=a+1:=hsz;dsimp only;rw[hsz];have eS:(s.heap.push {cls:= .type "list",dict:=none,data:= .seq #[Value.int 0 s.toks]}).get? (a+1)=some {cls:= .type "list",dict:=none,data:= .seq #[Value.int 0 s.toks]}:=by
  rw[<-hsz];exact Heap.get?_push_size _ rfl
 refine Hf IC hf hh hroom OE VV Xq JC val hval cnt 0 _ s.toks 0 0 (.inl rfl) rfl (aa3 _) (G.frame OE VV Xq JC (.inr (abZ hsz)) (λb o _ e=>Heap.get?_push_of_some _ e) eS (λv z=>by cases z)) eS λs' t' σ' H' I' w'=> ?_;exact hQ s' t' σ' H' I' w'
end
theorem set_same{s:Shared}{g:Nat}{x y:GenState}(h:s.gens[g]?=some x):(s.setGen g y).setGen g x=s:=by
 obtain⟨hh,gens,d,t,os⟩:=s;have hlt:g<gens.size:=by
  rcases acF g gens.size with q|q
  ·exact q
  ·have z:gens[g]?=none:=ads q
   have h':gens[g]?=some x:=h;rw[z]at h';cases h'
 have q:(gens.setIfInBounds g y).setIfInBounds g x=gens:=by
  apply ac1
  intro i
  by_cases e:g=i
  ·subst e
   rw[abB (by simpa using hlt)];exact h.symm
  ·rw[aa6 e,aa6 e]
 show({heap:=hh,gens:=(gens.setIfInBounds g y).setIfInBounds g x,drawn:=d,toks:=t,os:=os}:Shared)=_;rw[q]
section
variable{X:Cx}{sc:Scope}{N':List Str}{code:Value}{sC:Shared}{HC:Hp}{fp Ss:List Addr}{tn:Nat->Heap->Prop}{cnt:Nat}{R:Nat->V->Prop}{W:Nat->St->Hp->Prop}{a:Addr}{pins:List (Addr×Obj)}{σ:St}{Rr:Result->Shared->Prop}
theorem CM.out{B:Around}{i:Nat}{s:Shared}(G:CM X B sc N' code sC HC fp Ss tn cnt R W a i s)(IC:Inv X pins σ HC sC)(hf:∀b∈fp,gb X pins HC b):∃σ' H',Inv X pins σ H' s/\W i σ' H':=by
 obtain⟨gs,pl,σ',H',hpl,e1,e2,I,st,fr,w,go⟩:=G.ex;have q:=Inv.OB (gs:=gs) IC hf e2 I;rw[set_same e1]at q;exact⟨σ',H',q,w⟩
theorem Hh(IC:Inv X pins σ HC sC)(hf:∀b∈fp,gb X pins HC b)(hh:X.A.handled=none)(hroom:X.A.depth<recursionLimit)(bv:Nat->Bool)(hval:∀i v,i<cnt->R i v->v= .bl (bv i)):∀(k i:Nat)(s:Shared),cnt-i=k->i<=cnt->
  CM X X.A.in1.in1 sc N' code sC HC fp [a] tn cnt R W a i s->(∀j,j<i->bv j=true) ->
  ((∀j,j<cnt->bv j=true) -> ∀s' σ' H',Inv X pins σ H' s'->W cnt σ' H'->Rr (.ok (.ret (.bool true))) s') ->
  (∀j,j<cnt->bv j=false->(∀l,l<j->bv l=true) -> ∀s' σ' H',Inv X pins σ H' s'->W (j+1) σ' H'->Rr (.ok (.ret (.bool false))) s') ->codeAny (model X.prog X.w) X.A (.builtin "all.loop" ⟨[.ref a],[]⟩) Rr s:=by
 intro k
 induction k with
 |zero=>
  intro i s hk hi G hp hT hF;obtain rfl:i=cnt:=by omega
  have ex:∀b∈ [a],∃o,s.heap.get? b=some o:=λb hb=>by
   obtain⟨o,_,_,q,_⟩:=G.gen;rw[aap.mp hb];exact⟨o,q⟩
  refine codeAny_builtin adu (by
   rw[Around.under_plainId ab5 _];show wpAny _ X.A.in1 (pyNext (.ref a)>>=_) _ _ s;exact wpAny_bind (G.done (D:=X.A.in1) IC hf hh hroom ex λs' σ' H' I' w'=>wpAny_bind (wpAny_rule (wpAny_pure (hT hp s' σ' H' I' w')))))
 |succ k ih=>
  intro i s hk hi G hp hT hF;have hlt:i<cnt:=by omega
  have ex:∀b∈ [a],∃o,s.heap.get? b=some o:=λb hb=>by
   obtain⟨o,_,_,q,_⟩:=G.gen;rw[aap.mp hb];exact⟨o,q⟩
  refine codeAny_builtin adu (by
   rw[Around.under_plainId ab5 _];show wpAny _ X.A.in1 (pyNext (.ref a)>>=_) _ _ s;refine wpAny_bind (G.item (D:=X.A.in1) hh hroom (by simp) ex hlt λv x s' rx VT G' kp=> ?_);obtain rfl:=hval i x hlt VT;cases rx;refine wpAny_bind (wpAny_holding (wpAny_truthy_bool (wpAny_bind (wpAny_letGo ?_))))
   cases hb:bv i with
   |true=>
    simp only[if_true];exact wpAny_pure ⟨plainId_quiet ab5 _,ih (i+1) _ (by omega) hlt G' (λj hj=>by
     rcases acF j i with q|q
     ·exact hp j q
     ·rw[show j=i by omega];exact hb) hT hF⟩
   |false=>
    simp only[aaz,if_false];obtain⟨σ',H',I',w'⟩:=G'.out IC hf;exact wpAny_bind (wpAny_rule (wpAny_pure (hF i hlt hb hp s' σ' H' I' w'))))
theorem Hj{Q:Value->Shared->Prop}{E:Value->Shared->Prop}{s:Shared}(IC:Inv X pins σ HC sC)(hf:∀b∈fp,gb X pins HC b)(hh:X.A.handled=none)(hroom:X.A.depth<recursionLimit)(bv:Nat->Bool)(hval:∀i v,i<cnt->R i v->v= .bl (bv i))(G:CM X X.A.in1.in1 sc N' code sC HC fp [a] tn cnt R W a 0 s)
  (hT:(∀j,j<cnt->bv j=true) -> ∀s' σ' H',Inv X pins σ H' s'->W cnt σ' H'->Q (.bool true) s')
  (hF:∀j,j<cnt->bv j=false->(∀l,l<j->bv l=true) -> ∀s' σ' H',Inv X pins σ H' s'->W (j+1) σ' H'->Q (.bool false) s'):wpAny (model X.prog X.w) X.A (call (.builtin "all") [.ref a]) Q E s:=by
 refine call_function_tree PySem.F.kind_all PySem.F.plain_all PySem.F.entry_all (PySem.F.args_all1 _) ?_;unfold Builtin.«all»;refine wpAny_bind (m:=oneArg "all" _) (wpAny_pure (wpAny_bind (wpAny_pyIter_gen G.gen ?_)));exact wpAny_pure ⟨plainId_quiet ab5 _,Hh IC hf hh hroom bv hval cnt 0 s rfl (aa3 _) G (λj hj=>absurd hj (acS _)) hT hF⟩
end
noncomputable def JD(k:Nat)(P:Addr)(g:TG)(te:TE)(σ:St)(J:It)(H1:Hp)(Q:VK):Prop:=H1 P=some (eN P)/\yJ k g te σ (λcnt R W=> ∃val:Nat->Int,(∀i v,i<cnt->R i v->v= .int (val i))/\ ∀σ' H',W cnt σ' H'->Q (.int (preSum val cnt)) H') J H1
noncomputable def Bm(k:Nat)(P:Addr)(wi:TI)(g:TG)(te:TE):TE:=λσ H Q=>wi σ H λJ H1=>JD k P g te σ J H1 Q
noncomputable def OF(k:Nat)(P:Addr)(g:TG)(te:TE)(σ:St)(J:It)(H1:Hp)(Q:VK):Prop:=H1 P=some (eN P)/\yJ k g te σ (λcnt R W=> ∃bv:Nat->Bool,(∀i v,i<cnt->R i v->v= .bl (bv i))/\
 ((∀j,j<cnt->bv j=true) -> ∀σ' H',W cnt σ' H'->Q (.bl true) H')/\(∀j,j<cnt->bv j=false->(∀l,l<j->bv l=true) -> ∀σ' H',W (j+1) σ' H'->Q (.bl false) H')) J H1
noncomputable def OG(k:Nat)(P:Addr)(wi:TI)(g:TG)(te:TE):TE:=λσ H Q=>wi σ H λJ H1=>OF k P g te σ J H1 Q
section
variable{X:Cx}{sc:Scope}{own N2:List Str}{elt iter tg:Expr}{jD p pos:Pos}{wi:TI}{g:TG}{te:TE}{P:Addr}
structure JE(X:Cx)(sc:Scope)(own N2:List Str)(P:Addr):Prop where
 calm:X.calm=true
 room:X.A.depth<recursionLimit
 Sw:qR sc.names X.env.scope.names own N2 X.N
 kind:sc.kind= .function
 co:sc.isCoroutine=false
 nc:∀y∈sc.names,y.2≠ .cell
 Xr:sc.names.lookup (".0":Str)=some NameKind.local
 code:gZ X.K X.env.code P
 bm:BM X.mg X.base
theorem Fx(K:JE X sc own N2 P)(JF:Gl X "sum")(hm:X.mg "sum"=none)(hi:PI X tg iter wi)
  (hg:∀code s H fp,PG (X.gen X.A.in1.in1 sc (own++N2) code s H fp) tg g)(he:∀code s H fp,PE (X.gen X.A.in1.in1 sc (own++N2) code s H fp) elt te)
  (hs:∀x,genFold iter X.env x=pure x:=by intro _;rfl)(hst:starEach [.GeneratorExp elt [⟨tg,iter,[],0⟩] sc jD] X.env=[(false,eval (.GeneratorExp elt [⟨tg,iter,[],0⟩] sc jD) X.env)]:=by rfl):
  PE X (.Call (.Name "sum" p) [.GeneratorExp elt [⟨tg,iter,[],0⟩] sc jD] [] pos) (Bm own.length P wi g te):=by
 intro pins s σ H Q I h;refine wpAny_Call_Name_kw (m8 I JF hm PyProof.Rows.boot_sum ?_);refine abY ?_ hst rfl;rw[hst];refine Calls.spliced_cons (gD (Fw (pos:=jD) (λa=>[a+1]) (λa b hb=>by rw[aap.mp hb];exact ab2 _) K.calm K.room hi K.Sw K.kind K.co K.nc K.Xr K.code K.bm hg he hs I h) λu s5 h5=> ?_);obtain⟨a,cnt,R,W,sC,HC,fp,code,tn,rfl,hsz,G,IC,hf,hC,hlt,JC,val,hval,hq⟩:=h5;exact Calls.spliced_nil (Hg IC hf (I.ok.hd K.calm) K.room hsz hC hlt JC val hval G λs' t' σ' H' I' w'=>⟨.int (preSum val cnt),H',I',⟨_,rfl⟩,hq σ' H' w'⟩)
theorem MR(K:JE X sc own N2 P)(JF:Gl X "all")(hm:X.mg "all"=none)(hi:PI X tg iter wi)
  (hg:∀code s H fp,PG (X.gen X.A.in1.in1 sc (own++N2) code s H fp) tg g)(he:∀code s H fp,PE (X.gen X.A.in1.in1 sc (own++N2) code s H fp) elt te)
  (hs:∀x,genFold iter X.env x=pure x:=by intro _;rfl)(hst:starEach [.GeneratorExp elt [⟨tg,iter,[],0⟩] sc jD] X.env=[(false,eval (.GeneratorExp elt [⟨tg,iter,[],0⟩] sc jD) X.env)]:=by rfl):
  PE X (.Call (.Name "all" p) [.GeneratorExp elt [⟨tg,iter,[],0⟩] sc jD] [] pos) (OG own.length P wi g te):=by
 intro pins s σ H Q I h;refine wpAny_Call_Name_kw (m8 I JF hm PyProof.Rows.boot_all ?_);refine abY ?_ hst rfl;rw[hst];refine Calls.spliced_cons (gD (Fw (pos:=jD) (λa=>[]) (λa b hb=>by cases hb) K.calm K.room hi K.Sw K.kind K.co K.nc K.Xr K.code K.bm hg he hs I h) λu s5 h5=> ?_);obtain⟨a,cnt,R,W,sC,HC,fp,code,tn,rfl,hsz,G,IC,hf,hC,hlt,JC,bv,hval,hT,hF⟩:=h5;exact Calls.spliced_nil (Hj IC hf (I.ok.hd K.calm) K.room bv hval G (λhb s' σ' H' I' w'=>⟨.bl true,H',I',rfl,hT hb σ' H' w'⟩) (λj hj hb hp s' σ' H' I' w'=>⟨.bl false,H',I',rfl,hF j hj hb hp σ' H' w'⟩))
end
section
variable{X:Cx}{B:Around}{sc:Scope}{N':List Str}{code:Value}{sC:Shared}{HC:Hp}{fp Ss:List Addr}{tn:Nat->Heap->Prop}{R:Nat->V->Prop}{W:Nat->St->Hp->Prop}
variable{elt iter tg kF Sx:Expr}{pos:Pos}{it:Addr}{J:It}{g g':TG}{te:TE}{JG:TI}{c1 c2:Nat}
end
section
variable{X:Cx}{B:Around}{sc:Scope}{N':List Str}{code:Value}{sC:Shared}{HC:Hp}{fp Ss:List Addr}{tn:Nat->Heap->Prop}{R:Nat->V->Prop}{W:Nat->St->Hp->Prop}
variable{elt iter tg kF Sx:Expr}{pos:Pos}{it:Addr}{J:It}{g g':TG}{te:TE}{JG:TI}{c1 c2:Nat}
end
section
variable{X:Cx}{sc:Scope}{own N2:List Str}{elt iter tg kF Sx:Expr}{jD p pos:Pos}{wi JG:TI}{g g':TG}{te:TE}{P:Addr}
end
mutual
inductive yK(K:PySem.W.Frag)(H:Hp):V->PyData->Prop
 |gF:yK K H .gF .none
 |bl(b:Bool):yK K H (.bl b) (.bool b)
 |int(i:Int):yK K H (.int i) (.int i)
 |str(x:Str):yK K H (.str x) (.str x)
 |lst{a:Addr}{xs:List V}{ds:List PyData}:aZ K H a xs->Dk K H xs ds->yK K H (.ref a) (.list ds)
 |tup{a:Addr}{xs:List V}{ds:List PyData}:nZ K H a xs->Dk K H xs ds->yK K H (.ref a) (.tuple ds)
inductive Dk(K:PySem.W.Frag)(H:Hp):List V->List PyData->Prop
 |nil:Dk K H [] []
 |cons{x:V}{d:PyData}{xs:List V}{ds:List PyData}:yK K H x d->Dk K H xs ds->Dk K H (x::xs) (d::ds)
end
section
variable{X:Cx}{pins:List (Addr×Obj)}{σ:St}{H:Hp}{s:Shared}
mutual
theorem mH(I:Inv X pins σ H s):∀{x:V}{d:PyData}{u:Value},yK X.K H x d->RelV x u-> ∃as,Reads s.heap u d as
 |_,_,_,.gF,r=>by cases r;exact⟨_,.none⟩
 |_,_,_,.bl b,r=>by cases r;exact⟨_,.bool b⟩
 |_,_,_,.int i,r=>by obtain⟨t,rfl⟩:=r;exact⟨_,.int i t⟩
 |_,_,_,.str x,r=>by obtain⟨t,rfl⟩:=r;exact⟨_,.str x t⟩
 |_,_,_,.lst hq hs,r=>by
  cases r;obtain⟨its,rv,⟨o,n,e,c,_,dd⟩,_⟩:=I.list hq;obtain⟨as,q⟩:=oF I hs rv;exact⟨_,.list e c dd (by simpa using q)⟩
 |_,_,_,.tup hq hs,r=>by
  cases r;obtain⟨its,rv,⟨o,e,c,n,dd⟩,_⟩:=I.tuple hq;obtain⟨as,q⟩:=oF I hs rv;exact⟨_,.tuple e c dd (by simpa using q)⟩
theorem oF(I:Inv X pins σ H s):∀{xs:List V}{ds:List PyData}{us:List Value},Dk X.K H xs ds->Vals xs us-> ∃as,ReadsAll s.heap us ds as
 |_,_,_,.nil,r=>by cases r;exact⟨_,.nil⟩
 |_,_,_,.cons h t,r=>by
  cases r with
  |cons r1 r2=>
   obtain⟨as,q1⟩:=mH I h r1;obtain⟨bs,q2⟩:=oF I t r2;exact⟨_,.cons q1 q2⟩
end
end
noncomputable def Hl(K:PySem.W.Frag)(neg:Bool):R2:=λx y H Q=> ∃da db,yK K H x da/\yK K H y db/\SeqAt.shaped da=true/\SeqAt.shaped db=true/\Q (.bl (if neg then !PyData.eqv da db else PyData.eqv da db)) H
section
variable{X:Cx}
theorem PX(hu:X.A.units+64<cLine):r6 X (compareOp .Eq) (Hl X.K false):=by
 intro pins s σ H x y v u Q I rx ry h;obtain⟨da,db,h1,h2,s1,s2,q⟩:=h;obtain⟨as,r1⟩:=mH I h1 rx;obtain⟨bs,r2⟩:=mH I h2 ry;exact eq_dataH r1 r2 s1 s2 hu ⟨.bl _,H,I,rfl,q⟩
theorem zK(hu:X.A.units+64<cLine):r6 X (compareOp .NotEq) (Hl X.K true):=by
 intro pins s σ H x y v u Q I rx ry h;obtain⟨da,db,h1,h2,s1,s2,q⟩:=h;obtain⟨as,r1⟩:=mH I h1 rx;obtain⟨bs,r2⟩:=mH I h2 ry;exact ne_dataH r1 r2 s1 s2 hu ⟨.bl _,H,I,rfl,q⟩
theorem f7:pQ X (.builtin "isinstance") (λxs H Q=> ∃x n t b,xs=[x,.ty n]/\qV X.K H x t/\acf X.K t (.type n)=some b/\Q (.bl b) H):=by
 intro pins s σ H xs us Q I r h;obtain⟨x,n,t,b,rfl,ty,e,q⟩:=h
 cases r with
 |cons r1 r2=>
  cases r2 with
  |cons r2 r3=>
   cases r3;cases r2;exact GR I r1 ty e λtk=>⟨.bl b,H,I.tok _,rfl,q⟩
end
noncomputable abbrev g6(r:List Int):PyData:= .list (r.map .int)
noncomputable abbrev wu(m:List (List Int)):PyData:= .list (m.map g6)
theorem lG:∀m:List (List Int),PyData.canLayAll0 (m.map g6)=true
 | []=>rfl
 |r::m=>by simp[PyData.canLayAll0,PyData.canLay0,adD,lG m]
theorem nj:∀m:List (List Int),PyData.depthAll (m.map g6)<=1
 | []=>by simp[PyData.depthAll]
 |r::m=>by
  have:=nj m;simp only[abp,PyData.depthAll,PyData.depth,PySem.W.ke_depthAll];omega
theorem p9(m:List (List Int)):SeqAt.shaped (wu m)=true:=by
 have q:=nj m;simp only[SeqAt.shaped,PyData.canLay0,PyData.depth,lG,adl,decide_eq_true_eq];exact decide_eq_true (show PyData.depthAll (m.map g6)+1<=64 by omega)
theorem qa(r:List Int):SeqAt.shaped (g6 r)=true:=PySem.W.ke_shaped_ints r
theorem vH(r t:List Int):PyData.eqv (g6 r) (g6 t)=decide (r=t):=by
 simp only[PyData.eqv];exact PySem.W.ked_eqvAll r t
theorem uG:∀m n:List (List Int),PyData.eqvAll (m.map g6) (n.map g6)=decide (m=n)
 | [],[]=>by simp[PyData.eqvAll]
 | [],_::_=>by simp[PyData.eqvAll]
 |_::_,[]=>by simp[PyData.eqvAll]
 |a::r,b::t=>by
  have e:=vH a b;simp only[g6]at e;simp only[abp,PyData.eqvAll,uG r t,g6,e]
  by_cases h:a=b<;>by_cases h':r=t<;>simp[h,h']
theorem MS(m n:List (List Int)):PyData.eqv (wu m) (wu n)=decide (m=n):=by
 simp only[PyData.eqv];exact uG m n
structure PY(tz:Addr->HO):Prop where
 new:∀{P:Program}{w:World}{H:Hp}{h:Heap}{T:Addr},h.get? T=some {cls:= .none,data:= .fields #[]} ->f6 P w H h T (tz T)
 get:∀{P:Program}{w:World}{H:Hp}{h:Heap}{T:Addr},f6 P w H h T (tz T) -> ∃ps:Array Value,h.get? T=some {cls:= .none,data:= .fields ps}
theorem Fy:PY eN:=⟨λe=>Jt e (by simp[TriplesOk]),λh=>let⟨⟨ps,e,_⟩,_⟩:=h;⟨ps,e⟩⟩
theorem PZ(iw:List Addr):PY (λT=>if T∈iw then .AM else eN T):=by
 refine⟨λ {P w H h T} e=> ?_,λ {P w H h T} x=> ?_⟩
 ·by_cases c:T∈iw
  ·rw[if_pos c]
   exact⟨#[],e,trivial,λpos cv z=>nomatch z⟩
  ·rw[if_neg c]
   exact Fy.new e
 ·by_cases c:T∈iw
  ·rw[if_pos c]at x
   obtain⟨ps,e,_⟩:=x;exact⟨ps,e⟩
  ·rw[if_neg c]at x
   exact Fy.get x
theorem Ho{P:Program}{w:World}{K:PySem.W.Frag}{mg mb:Str->Option Value}{k:Nat}{fa a:Addr}{fd:FuncData}{x:Str}{sp:Sp}{s₁:Shared}{vs:List Value}{ns:List Int}{tabs:List Addr}{tz:Addr->HO}(TZ:PY tz)
  (KX:K.In s₁.heap)(hns:s₁.heap.Ns mainGlobals mg)(hb:s₁.heap.Ns builtinsNs mb)(Zg:∀x:Str,x≠ "__name__" ->mb x=bootBuiltins x)(hlim:s₁.heap.NoLimit)(hbm:BM mg s₁.heap)(hg:s₁.gens= #[])
  (htab:∀T∈tabs,isCodeTable s₁.heap T/\s₁.heap.get? T=some {cls:= .none,data:= .fields #[]})
  (ha:s₁.heap.get? a=some {cls:= .type "list",data:= .seq vs.toArray})(hi:IntsAre vs ns)(hl:ns.length<=sizeLine)(hr:gk k callerA)(hcl:ac2 K=true)
  (F:∀base:Heap,K.In base->base.Ns mainGlobals mg->BM mg base->qW P w K mg base dz k fa fd [x] sp)(hbind:∀(s:Shared)(u:Value),BindsTo s fd ⟨[u],[]⟩ [(x,u)])
  (Me:∀H:Hp,(∀T∈tabs,H T=some (tz T)) ->aZ K H a (ns.map V.int) ->sp [.ref a] H (λv H'=>v= .bl true/\ ∀T∈tabs,H' T=some (tz T)) λ_ _ _=>False):
  codeAny (model P w) callerA (.call (.ref fa) ⟨[.ref a],[]⟩) (λr s'=>r= .ok (.ret (.bool true))/\OldK s₁.heap s'.heap/\s'.os=s₁.os/\AllBare s'.gens) s₁:=by
 have rv:=yI hi;have VW:=hi.length;have Xu:a∉tabs:=λz=>by
  have e:=(htab a z).2;rw[ha]at e;cases e
 have core:∀H:Hp,(∀T∈tabs,H T=some (tz T)) ->(∀b u,H b=some u->b∈tabs∨(b=a/\ ∃o xs,u= .zA o (.lst xs))) ->aZ K H a (ns.map V.int) ->vF P w H s₁.heap->(H a≠none->K.lookup a=none) ->
   codeAny (model P w) callerA (.call (.ref fa) ⟨[.ref a],[]⟩) (λr s'=>r= .ok (.ret (.bool true))/\OldK s₁.heap s'.heap/\s'.os=s₁.os/\AllBare s'.gens) s₁:=by
  intro H hT hO hS hok hK;have free:∀{b:Addr}{o:Obj},s₁.heap.get? b=some o->o.cls≠ .none->b≠a->H b=none:=λ {b o} e hc hba=>by
   cases q:H b with
   |none=>rfl
   |some u=>
    rcases hO b u q with z|⟨z,_⟩
    ·have e':=(htab b z).2
     rw[e]at e';cases e';exact absurd rfl hc
    ·exact absurd z hba
  have zL:∀{b:Addr}{o:Obj},s₁.heap.get? b=some o->H b=none->(xV s₁.heap H).get? b=some o:=λe n=>IS e n;have VX:∀{b:Addr}{o:Obj}{es:Array DictEntry}{ep:Nat},s₁.heap.get? b=some o->o.data= .dict es ep->H b=none:=λ {b o es ep} e d=>by
   cases q:H b with
   |none=>rfl
   |some u=>
    rcases hO b u q with z|⟨z,_⟩
    ·have e':=(htab b z).2
     rw[e]at e';cases e';cases d
    ·rw[z,ha]at e
     cases e;cases d
  have Uy:∀{b:Addr}{m:Str->Option Value},s₁.heap.Ns b m->(xV s₁.heap H).Ns b m:=λ {b m} ⟨o,es,ep,e,d,r⟩=>⟨o,es,ep,zL e (VX e d),d,r⟩;have Xv:K.In (xV s₁.heap H):=λb o e=>zL (KX b o e) (by
   by_cases hba:b=a
   ·cases q:H b with
    |none=>rfl
    |some u=>
     subst hba;rw[hK (by rw[q];simp)]at e;cases e
   ·have q:=abt.mp hcl (b,o) (PySem.W.kb_mem e)
    simp only[acs,decide_eq_true_eq,beq_iff_eq]at q;rcases q with(q|q)|q
    ·exact free (KX b o e) q hba
    ·obtain⟨mc,⟨oc,es,ep,z1,z2,_⟩,_⟩:=hlim
     rw[q];exact VX z1 z2
    ·obtain⟨oc,es,ep,z1,z2,_⟩:=hns
     rw[q];exact VX z1 z2)
  have hM:Mod K mg (xV s₁.heap H):=⟨Xv,Uy hns,⟨mb,Uy hb,Zg⟩,let⟨mc,h1,h2⟩:=hlim;⟨mc,Uy h1,h2⟩⟩;have Zh:BM mg (xV s₁.heap H):=by
   obtain⟨bm,ob,q1,q2,q3,q4,q5,q6⟩:=hbm;refine⟨bm,ob,q1,q2,zL q3 (free q3 (by rw[q4];simp) λz=> ?_),q4,q5,q6⟩;rw[z,ha]at q3;rw[<-Option.some.inj q3]at q4;exact absurd q4 (by simp)
  have e0:My P w K mg (xV s₁.heap H) callerA [] s₁ H:=⟨rfl,hM,λb o e=>Mn e,abZ (GF _ _),trivial,λb hb=>absurd (show b∈([]:List Addr)from hb) (by simp),hok,.of_eq hg⟩;refine codeAny_mono ((F _ Xv (Uy hns) Zh).run callerA [] s₁ H ⟨[.ref a],[]⟩ [.ref a] [.ref a] _ _ hr e0 (hbind s₁ (.ref a)) (.cons rfl .nil) (Me H hT hS)) λr s' h=> ?_
  cases r with
  |error e=>exact False.elim h
  |ok fl=>
   cases fl with
   |next=>exact False.elim h
   |brk=>exact False.elim h
   |cont=>exact False.elim h
   |ret u=>
    obtain⟨v,H',os,bare,un,Sy,r',q⟩:=h;obtain⟨q',JH⟩:=q;have q':v= .bl true:=q';subst q';obtain rfl:u=Value.bool true:=r';refine⟨rfl,⟨λb o e=> ?_,λb o e=>un.there b o e (by simp)⟩,os,bare.bare⟩
    cases q:H b with
    |none=>exact .inl (un.keep b o e q (by intro z;exact absurd (show b∈([]:List Addr)from z) (by simp)) (by simp))
    |some u=>
     rcases hO b u q with z|⟨z,ob,xs,eu⟩
     ·obtain⟨ct,e'⟩:=htab b z
      obtain⟨ps,ep⟩:=TZ.get (Sy b _ (JH b z));rw[e]at e';cases e';exact .inr (.inl ⟨ct,rfl, #[],ps,rfl,by simpa using ep⟩)
     ·subst eu
      have z2:=un.rZ b ob _ q;obtain⟨e1,_⟩:=hok b _ q;obtain⟨e2,_⟩:=Sy b _ z2;rw[e]at e1;cases e1;exact .inl e2
 have Xw:∀(H:Hp)(T:Addr),T∈tabs->f6 P w H s₁.heap T (tz T):=λH T hT=>TZ.new (htab T hT).2
 cases hk:K.lookup a with
 |some o=>
  have e:=KX a o hk;rw[ha]at e;cases e;refine core (λb=>if b∈tabs then some (tz b)else none) (λT hT=>if_pos hT) (λb u z=> ?_) (.inr ⟨_,vs.toArray,_,hk,rfl,rfl,rfl,by rw[aaG,VW];exact hl,by simpa using rv⟩) (λb u z=> ?_) (λz=>absurd (if_neg Xu) z)
  ·by_cases hb:b∈tabs
   ·exact .inl hb
   ·have z':=(if_neg hb).symm.trans z;cases z'
  ·by_cases hb:b∈tabs
   ·have z':=(if_pos hb).symm.trans z;cases z';exact Xw _ b hb
   ·have z':=(if_neg hb).symm.trans z;cases z'
 |none=>
  have q1:∀{b:Addr},b∈tabs->(if b=a then some (HO.zA {cls:= .type "list",data:= .seq vs.toArray} (.lst (ns.map V.int)))else if b∈tabs then some (tz b)else none)=some (tz b):=λ {b} hb=>by
   rw[if_neg (λ(z:b=a)=>Xu (by rw[<-z];exact hb)),if_pos hb]
  refine core (λb=>if b=a then some (.zA {cls:= .type "list",data:= .seq vs.toArray} (.lst (ns.map V.int)))else if b∈tabs then some (tz b)else none) (λT hT=>q1 hT) (λb u z=> ?_) (.inl (.inr ⟨{cls:= .type "list",data:= .seq vs.toArray},if_pos rfl⟩)) (λb u z=> ?_) λ_=>hk
  ·by_cases hb:b=a
   ·have z':=(if_pos hb).symm.trans z
    cases z';exact .inr ⟨hb,_,_,rfl⟩
   ·by_cases hb2:b∈tabs
    ·exact .inl hb2
    ·have z':=((if_neg hb).trans (if_neg hb2)).symm.trans z;cases z'
  ·by_cases hb:b=a
   ·have z':=(if_pos hb).symm.trans z
    cases z';subst hb;exact⟨ha,by rw[aau];exact hl,vs,_,rv,ha⟩
   ·by_cases hb2:b∈tabs
    ·have z':=(q1 hb2).symm.trans z
     cases z';exact Xw _ b hb2
    ·have z':=((if_neg hb).trans (if_neg hb2)).symm.trans z;cases z'
theorem Dl{p:Program}{loose:List Str}{mean:ExcName->Option Value}{mg mb:Str->Option Value}{h:Heap}(T:Top p loose mean mg mb h){d:DefRec}{x qual:Str}(hf:(recsOf p).find? (λe=>e.name==x)=some d){K:PySem.W.Frag}(KX:K.In h){f:Addr}
  (hm:mg x=some (.ref f)){oc:Value}{od:Option Addr}{sl:Array (Option Value)}{fd:FuncData}(l:K.lookup f=some ⟨oc,od,.func fd,sl⟩)(c:abA K fd.code qual=true):
  ∃P,gZ K fd.code P/\isCodeTable h P/\h.get? P=some {cls:= .none,data:= .fields #[]}:=by
 have hn:d.name=x:=beq_iff_eq.mp (List.find?_some (p:=λe:DefRec=>e.name==x) hf);obtain⟨a',o',fd',cc,P,h1,h2,h3,h4,h5,h6⟩:=T.tab d (List.mem_of_find?_eq_some hf);rw[hn,hm]at h1;cases h1;rw[KX f _ l]at h2;cases h2;cases h3;refine⟨P,?_,h6.isCodeTable,h6.2⟩;obtain⟨o,vs,file,tf,flags,tg,PJ,text,tt,op,ho,hd,h11,Sl,h7,h9,Sm,_⟩:=h5;obtain⟨⟨o2,vs2,g1,g2,g3,g4⟩,_⟩:=h6;rw[ho]at g1;cases g1;rw[hd]at g3;cases g3;rw[h4]at c
 cases q:K.lookup cc with
 |none=>unfold abA at c;simp[q]at c
 |some o3=>
  have e3:=KX cc o3 q;rw[ho]at e3;have e4:o=o3:=Option.some.inj e3;subst e4;exact⟨cc,o,vs,file,tf,flags,tg,PJ,text,tt,h4,q,g2,hd,g4,Sl,h7,h9,Sm⟩
noncomputable def tabOf(K:PySem.W.Frag)(f:Addr):Option Value:=match K.lookup f with
 |some ⟨_,_,.func fd,_⟩=>match fd.code with
  | .ref c=>match K.lookup c with
   |some o=>match o.data with
    | .fields vs=>vs[11]?
    |_=>none
   |none=>none
  |_=>none
 |_=>none
noncomputable def JI(K:PySem.W.Frag)(fs gs:List Addr):Bool:=fs.all λf=>gs.all λg=>tabOf K f !=tabOf K g
theorem Bo{K:PySem.W.Frag}{f P:Addr}{oc:Value}{od:Option Addr}{sl:Array (Option Value)}{fd:FuncData}(l:K.lookup f=some ⟨oc,od,.func fd,sl⟩)(c:gZ K fd.code P):tabOf K f=some (.ref P):=by
 obtain⟨cc,o,vs,_,_,_,_,_,_,_,e1,e2,e3,e4,e5,_⟩:=c.ex;unfold tabOf;rw[l];simp only[e1,e2,e4,e5]
theorem oG{K:PySem.W.Frag}{fs gs:List Addr}(h:JI K fs gs=true){f g P Q:Addr}(hf:f∈fs)(hg:g∈gs)(a:tabOf K f=some (.ref P))(b:tabOf K g=some (.ref Q)):P≠Q:=λe=>by
 have h1:=abt.mp (abt.mp h f hf) g hg;rw[a,b,e]at h1;simp at h1
theorem JJ{l:PySem.W.OpenLaw}{n k:Nat}{q:Program}{loose:List Str}{XP:(Str->Option Value) ->Heap->Prop}{YP:World->Heap->Prop}{d:DefRec}{K:Params->PySem.W.Frag}{x:Str}{sp:PySem.W.Frag->List Addr->List Addr->Sp}
  (hn:l.most=some n)(hn2:n<=sizeLine)(hdf:d.params.defaults=[])(hr:gk k callerA)
  (hY:∀(w:World)(h:Heap),YP w h->(K w.params).In h)
  (hcl:∀(w:World),ac2 (K w.params)=true)
  (F:∀(w:World)(mg mb:Str->Option Value)(mean:ExcName->Option Value)(fa:Addr)(h:Heap),(K w.params).In h->Top q (PySem.W.looseW q loose) mean mg mb h->mg d.name=some (.ref fa) ->
   ∃(fd:FuncData)(tabs iw:List Addr),(∀(s:Shared)(u:Value),BindsTo s fd ⟨[u],[]⟩ [(x,u)])/\(∀T∈tabs++iw,isCodeTable h T/\h.get? T=some {cls:= .none,data:= .fields #[]})/\(∀T∈tabs,T∉iw)/\
    ∀base:Heap,(K w.params).In base->base.Ns mainGlobals mg->BM mg base->qW l.prog w (K w.params) mg base dz k fa fd [x] (sp (K w.params) tabs iw))
  (Me:∀(K:PySem.W.Frag)(tabs iw:List Addr)(H:Hp)(a:Addr)(ns:List Int),ns.length<=n->(∀T∈tabs,H T=some (eN T)) ->(∀T∈iw,H T=some .AM) ->aZ K H a (ns.map V.int) -> ∀Q:VK,(∀H',ay H H'->Q (.bl true) H') ->sp K tabs iw [.ref a] H Q λ_ _ _=>False):
  PySem.W.WalkO q loose XP YP l.row.toRowW d [] (λf vs=>PySem.call f vs):=by
 refine Xl.Bc hn hdf λw s₀ s₁ mg mb fa o pm cd doc a vs ns G Y ho hd hcd hmg hobj hints hlen hg=> ?_;have KX:=hY w _ Y;obtain⟨fd,tabs,iw,hb,ht,Jx,hF⟩:=F w mg mb _ fa _ KX G.T hmg;have e1:∀T∈tabs,(if T∈iw then HO.AM else eN T)=eN T:=λT hT=>if_neg (Jx T hT);have e2:∀T∈iw,(if T∈iw then HO.AM else eN T)= .AM:=λT hT=>if_pos hT;refine Ho (PZ iw) KX G.T.g G.T.b G.T.builtins G.T.nolimit G.T.bmain hg ht hobj hints (aa8 hlen hn2) hr (hcl w) hF hb (λH hO hS=> ?_);refine Me _ tabs iw H a ns hlen (λT hT=>by rw[hO T (aa1 _ hT),e1 T hT]) (λT hT=>by rw[hO T (aam _ hT),e2 T hT]) hS _ λH' s=>⟨rfl,λT hT=>s _ _ (hO T hT)⟩
theorem ay.up{H:Hp}{D:Addr}{o:HO}(h:H D=none):ay H (upd H D o):=λb u q=>by rw[aH (fN q h)];exact q
theorem ay.upd{H H':Hp}{D:Addr}{o:HO}(s:ay H H')(h:H D=none):ay H (upd H' D o):=λb u q=>by rw[aH (fN q h)];exact s b u q
theorem ay.none{H H':Hp}(s:ay H H'){D:Addr}(h:H' D=adQ):H D=adQ:=s.free h
theorem ay.Zi{K:PySem.W.Frag}{H H':Hp}{a:Addr}{xs:List V}(e:ay H H')(h:nZ K H a xs):nZ K H' a xs:=by
 rcases h with(h|⟨o,h⟩)|h
 ·exact .inl (.inl (e _ _ h))
 ·exact .inl (.inr ⟨o,e _ _ h⟩)
 ·exact .inr h
theorem _root_.PySem.Paired.Dm{α β:Type}{F F':α->β->Prop}:∀{l:List α}{m:List β},Paired F l m->(∀a b,b∈m->F a b->F' a b) ->Paired F' l m
 |_,_,.nil,_=> .nil
 |_,_,.cons h t,k=> .cons (k _ _ aaD h) (t.Dm λa b hb q=>k a b (aay _ hb) q)
structure JW(J:It)(H1:Hp)(xs:List V):Prop where
 go:∀i H',ay H1 H'->i<xs.length->J.go i H'
 AN:∀i H' x H2,ay H1 H'->i<xs.length->J.AN i H' x H2->H2=H'/\xs[i]?=some x
 stop:∀H',ay H1 H'->J.stop xs.length H'
theorem ji{K:PySem.W.Frag}{H1:Hp}{a:Addr}{xs:List V}(h:aZ K H1 a xs):JW (Mu K a) H1 xs where
 go:=λi H' s hi=>⟨xs,xs[i],s.seq h,by simp[hi]⟩
 AN:=λi H' x H2 s hi ⟨e,y⟩=>⟨e,y xs (s.seq h)⟩
 stop:=λH' s=>⟨xs,s.seq h,aav _⟩
noncomputable def oH(n:Nat):List V:=(abx n).map λ(i:Nat)=>V.int (i:Int)
theorem iJ{H1:Hp}{n:Nat}:JW (Mc 0 n) H1 (oH n) where
 go:=λi H' s hi=>by simpa [oH,Mc]using hi
 AN:=λi H' x H2 s hi ⟨e,y⟩=>⟨e,by
  have hi':i<n:=by simpa [oH]using hi
  subst y;simp[oH,hi']⟩
 stop:=λH' s=>by simp[oH,Mc]
theorem qZ{J:It}{H1:Hp}{xs:List V}{σ:St}{te:TE}{Q:VK}(jw:JW J H1 xs)(hz:xs.length<=sizeLine){D:Addr}(hD:H1 D=none)(P:List V->List V->Hp->Prop)(h0:P [] [] (upd H1 D (.lst [])))
  (hs:∀pre x post acc H' (Q':VK),xs=pre++x::post->acc.length=pre.length->ay H1 H'->H' D=some (.lst acc) ->P pre acc H'->(∀v H4,ay H' H4->P (pre++ [x]) (acc++ [v]) (upd H4 D (.lst (acc++ [v]))) ->Q' v H4) ->te (some x::σ) H' Q')
  (hq:∀acc H',acc.length=xs.length->ay H1 H'->H' D=some (.lst acc) ->P xs acc H'->Q (.ref D) H'):
  lQ 1 (dP 0) te σ J H1 D Q:=by
 refine⟨λi m acc σ' H'=>m=xs.length-i/\i<=xs.length/\acc.length=i/\(∃o,σ'=o::σ)/\ay H1 H'/\H' D=some (.lst acc)/\P (xs.take i) acc H',⟨xs.length,rfl,aa3 _,rfl,⟨none,rfl⟩,ay.up hD,ao,h0⟩,?_⟩;rintro i m acc σ' H' ⟨rfl,hi,hl,⟨o,rfl⟩,sm,eD,p⟩
 by_cases hlt:i<xs.length
 ·refine .inr ⟨jw.go i H' sm hlt,by omega,λx H2 y=> ?_⟩
  obtain⟨rfl,ex⟩:=jw.AN i H' x H2 sm hlt y;have hx:xs[i]=x:=by rw[aaq hlt]at ex;exact Option.some.inj ex
  have sp:xs=xs.take i++x::xs.drop (i+1):=by
   rw[<-hx,<-abi hlt,aaV]
  have tk:xs.take (i+1)=xs.take i++ [x]:=by rw[List.take_succ,ex];rfl
  show te (some x::σ) H2 _;refine hs (xs.take i) x (xs.drop (i+1)) acc H2 _ sp (by rw[hl,aaX];omega) sm eD p λv H4 s4 p4=> ?_;refine⟨s4 _ _ eD,xs.length- (i+1),by omega,rfl,hlt,by simp[hl],⟨_,rfl⟩,(sm.trans s4).upd hD,ao,?_⟩;rw[tk];exact p4
 ·have e:i=xs.length:=by omega
  subst e;refine .inl ⟨jw.stop H' sm,eD,hq acc H' hl sm eD ?_⟩;rw[abE]at p;exact p
section
variable{X:Cx}{sc:Scope}{N2:List Str}{x:Str}{px:Pos}{elt iter:Expr}{jD p pos:Pos}{wi:TI}{te:TE}{P:Addr}
theorem Fz(B:qR sc.names X.env.scope.names [x] N2 X.N)(s:Shared)(H:Hp)(fp:List Addr):PG (X.comp sc ([x]++N2) s H fp) (.Name x px) (dP 0):=by
 rcases B.own x (by simp)with e|e
 ·exact aI (i:=0) B.MK rfl (.inl (kE (env:=X.env) e (.inl rfl))) (.inr (kE (env:=X.env) e (.inl rfl)))
 ·refine aI (i:=0) B.MK rfl (.inr (kE (env:=X.env) e (.inr rfl))) (.inl ?_)
  show(sc.names.lookup x==some NameKind.cell)=true;rw[e];rfl
theorem iK(hc:X.calm=true)(hi:PI X (.Name x px) iter wi)(hB:Bg sc.names X.env.scope.names [x] N2 X.N=true)(hk:sc.kind= .function)(he:∀s H fp,PE (X.comp sc ([x]++N2) s H fp) elt te)
  (hs:∀x,foldedSetIterable iter X.env x=pure x:=by intro _;rfl):PE X (.ListComp elt [⟨.Name x px,iter,[],0⟩] sc pos) (qY 1 wi (dP 0) te):=
 Bj (own:=[x]) hc hi (kC hB) hk (λs H fp=>Fz (kC hB) s H fp) he hs
theorem JK{B:Around}(Bk:qR sc.names X.env.scope.names [x] N2 X.N)(hnc:∀y∈sc.names,y.2≠ .cell)(code:Value)(s:Shared)(H:Hp)(fp:List Addr):PG (X.gen B sc ([x]++N2) code s H fp) (.Name x px) (dP 0):=by
 rcases Bk.own x (by simp)with e|e
 ·exact aI (i:=0) Bk.MK rfl (.inl e) (.inr e)
 ·exact absurd rfl (hnc _ (mem_of_lookup e))
noncomputable def JL(sc:Scope)(ks:List (Str×NameKind))(own N2 N:List Str):Bool:=
 Bg sc.names ks own N2 N && (sc.kind== .function) && !sc.isCoroutine && sc.names.all (λy=>y.2 != .cell) && (sc.names.lookup (".0":Str)==some NameKind.local)
theorem wC{own:List Str}(hc:X.calm=true)(hr:X.A.depth<recursionLimit)(cd:gZ X.K X.env.code P)(bm:BM X.mg X.base)(h:JL sc X.env.scope.names own N2 X.N=true):JE X sc own N2 P:=by
 unfold JL at h;simp only[aa5]at h;obtain⟨⟨⟨⟨h1,h2⟩,h3⟩,h4⟩,h5⟩:=h;refine⟨hc,hr,kC h1,by simpa using h2,by simpa using h3,λy hy=> ?_,by simpa using h5,cd,bm⟩;have q:=abt.mp h4 y hy
 simpa using q
theorem MT(hc:X.calm=true)(hr:X.A.depth<recursionLimit)(cd:gZ X.K X.env.code P)(bm:BM X.mg X.base)(JF:Gl X "sum")(hm:X.mg "sum"=none)(hi:PI X (.Name x px) iter wi)(hB:JL sc X.env.scope.names [x] N2 X.N=true)
  (he:∀code s H fp,PE (X.gen X.A.in1.in1 sc ([x]++N2) code s H fp) elt te)
  (hs:∀x,genFold iter X.env x=pure x:=by intro _;rfl)(hst:starEach [.GeneratorExp elt [⟨.Name x px,iter,[],0⟩] sc jD] X.env=[(false,eval (.GeneratorExp elt [⟨.Name x px,iter,[],0⟩] sc jD) X.env)]:=by rfl):
  PE X (.Call (.Name "sum" p) [.GeneratorExp elt [⟨.Name x px,iter,[],0⟩] sc jD] [] pos) (Bm 1 P wi (dP 0) te):=
 have K:=wC hc hr cd bm hB
 Fx (own:=[x]) K JF hm hi (λcode s H fp=>JK K.Sw K.nc code s H fp) he hs hst
theorem zM(hc:X.calm=true)(hr:X.A.depth<recursionLimit)(cd:gZ X.K X.env.code P)(bm:BM X.mg X.base)(JF:Gl X "all")(hm:X.mg "all"=none)(hi:PI X (.Name x px) iter wi)(hB:JL sc X.env.scope.names [x] N2 X.N=true)
  (he:∀code s H fp,PE (X.gen X.A.in1.in1 sc ([x]++N2) code s H fp) elt te)
  (hs:∀x,genFold iter X.env x=pure x:=by intro _;rfl)(hst:starEach [.GeneratorExp elt [⟨.Name x px,iter,[],0⟩] sc jD] X.env=[(false,eval (.GeneratorExp elt [⟨.Name x px,iter,[],0⟩] sc jD) X.env)]:=by rfl):
  PE X (.Call (.Name "all" p) [.GeneratorExp elt [⟨.Name x px,iter,[],0⟩] sc jD] [] pos) (OG 1 P wi (dP 0) te):=
 have K:=wC hc hr cd bm hB
 MR (own:=[x]) K JF hm hi (λcode s H fp=>JK K.Sw K.nc code s H fp) he hs hst
theorem Bq{k:Nat}{A:Around}{e:Env}(r:gk (k+1) A):gk k (MN A.in1.in1 e):=
 ⟨r.hd,by have:=r.dp;show A.depth+1+3*k+5<_;omega,by have:=r.un;show A.units+1+1+3+16*k+200<_;omega⟩
end
theorem JM{J:It}{H1:Hp}{xs:List V}{σ:St}{te:TE}{F:Nat->(Nat->V->Prop) ->(Nat->St->Hp->Prop) ->Prop}(jw:JW J H1 xs)(R:Nat->V->Prop)
  (hs:∀i x,xs[i]?=some x-> ∀H' (Q':VK),ay H1 H'->(∀v H2,R i v->ay H' H2->Q' v H2) ->te (some x::σ) H' Q')
  (hF:F xs.length R (λ_ σ' H'=>(∃o,σ'=o::σ)/\ay H1 H')):yJ 1 (dP 0) te σ F J H1:=by
 refine⟨xs.length,R,_,⟨⟨none,rfl⟩,ay.refl _⟩,λi σ' H' hi w=> ?_,λσ' H' w=>jw.stop H' w.2,hF⟩;obtain⟨⟨o,rfl⟩,sm⟩:=w;refine⟨jw.go i H' sm hi,λx H2 y=> ?_⟩;obtain⟨rfl,ex⟩:=jw.AN i H' x H2 sm hi y;show te (some x::σ) H2 _;exact hs i x ex H2 _ sm λv H3 r s3=>⟨r,⟨_,rfl⟩,sm.trans s3⟩
theorem Qa{J:It}{H1:Hp}{xs:List V}{σ:St}{te:TE}{Q:VK}{P:Addr}(jw:JW J H1 xs)(hP:H1 P=some (eN P))(val:Nat->Int)
  (hs:∀i x,xs[i]?=some x-> ∀H' (Q':VK),ay H1 H'->(∀H2,ay H' H2->Q' (.int (val i)) H2) ->te (some x::σ) H' Q')
  (hq:∀H',ay H1 H'->Q (.int (preSum val xs.length)) H'):
  JD 1 P (dP 0) te σ J H1 Q:=
 ⟨hP,JM jw (λi v=>v= .int (val i)) (λi x ex H' Q' sm k=>hs i x ex H' Q' sm λH2 s2=>k _ _ rfl s2) ⟨val,λi v _ r=>r,λσ' H' w=>hq H' w.2⟩⟩
theorem Dn{J:It}{H1:Hp}{xs:List V}{σ:St}{te:TE}{Q:VK}{P:Addr}(jw:JW J H1 xs)(hP:H1 P=some (eN P))(bv:Nat->Bool)
  (hs:∀i x,xs[i]?=some x-> ∀H' (Q':VK),ay H1 H'->(∀H2,ay H' H2->Q' (.bl (bv i)) H2) ->te (some x::σ) H' Q')
  (hq:∀b H',ay H1 H'->(b=true↔ ∀j,j<xs.length->bv j=true) ->Q (.bl b) H'):
  OF 1 P (dP 0) te σ J H1 Q:=
 ⟨hP,JM jw (λi v=>v= .bl (bv i)) (λi x ex H' Q' sm k=>hs i x ex H' Q' sm λH2 s2=>k _ _ rfl s2) ⟨bv,λi v _ r=>r,λhb σ' H' w=>hq _ H' w.2 ⟨λ_=>hb,λ_=>rfl⟩,
  λj hj hb _ σ' H' w=>hq _ H' w.2 ⟨λz=>(by cases z),λz=>by rw[z j hj]at hb;cases hb⟩⟩⟩
structure Hq(K:PySem.W.Frag)(x qual:Str)(st:Stmt)(f:Addr)(fd:FuncData)(T:Addr):Prop where
 ex:∃(oc:Value)(od:Option Addr)(kV doc pm:Value)(an:Option Addr)(cdv ct:Value)(osl:Array (Option Value)),
  fd=abm x qual (ig st) (fQ st) (aD st) .none kV doc pm an cdv ct/\K.lookup f=some ⟨oc,od,.func fd,osl⟩/\abA K cdv qual=true/\gZ K cdv T
 kp:abR K (.ref f)=true
theorem Hq.ok{P:Program}{w:World}{K:PySem.W.Frag}{mg:Str->Option Value}{base:Heap}{x qual:Str}{st:Stmt}{f T:Addr}{fd:FuncData}{N ps:List Str}{k:Nat}{sp:Sp}(F:Hq K x qual st f fd T)(S:aR N ps (aD st))(len:∀vs H Q E,sp vs H Q E->vs.length=ps.length)
  (hbody:∀(cdv:Value)(A:Around)(outer:List Env)(s:Shared)(H:Hp)(vs:List V)(Q:VK)(E:XK),gZ K cdv T->gk k (A.deeper (envOfC qual (aD st) s.heap.objs.size f cdv)) ->sp vs H Q E->
   ∃t,zC (zF dz P w K mg base N qual (aD st) f cdv A outer s H E).IM (fQ st) t/\t {nx:=λ_ H'=>Q .gF H',rt:=Q} (start N vs) H):qW P w K mg base dz (k+1) f fd ps sp:=by
 obtain⟨oc,od,kV,doc,pm,an,cdv,ct,osl,rfl,lk,hcd,cd⟩:=F.ex;refine Ow lk hcd S len λA outer s H vs Q E hr Me=> ?_;obtain⟨t,h,q⟩:=hbody cdv A outer s H vs Q E cd hr Me;exact⟨t,h.IM,q⟩
theorem Hq.fn{K:PySem.W.Frag}{x qual:Str}{st:Stmt}{f T:Addr}{fd:FuncData}(F:Hq K x qual st f fd T):OA K x qual st f fd:=by
 obtain⟨oc,od,kV,doc,pm,an,cdv,ct,osl,e,lk,hcd,cd⟩:=F.ex;exact⟨⟨oc,od,kV,doc,pm,an,cdv,ct,osl,e,lk,hcd⟩,F.kp⟩
noncomputable abbrev zN(K:PySem.W.Frag):List V->Hp->VK->Prop:=λxs H Q=> ∃p ys,xs=[.ref p]/\(aZ K H p ys∨nZ K H p ys)/\ ∀l,H l=none->Q (.ref l) (upd H l (.lst ys))
noncomputable abbrev FD(K:PySem.W.Frag):List V->Hp->VK->Prop:=λxs H Q=> ∃x n t b,xs=[x,.ty n]/\qV K H x t/\acf K t (.type n)=some b/\Q (.bl b) H
theorem jE{X:Cx}{e:Expr}{t:TE}(h:PE X e t):PE X e t:=h
theorem bits_le{k:Int}{n:Nat}(h:k.natAbs<2^n):Builtin.Int.intBits k<=n:=by
 unfold Builtin.Int.intBits
 split
 ·exact aa3 _
 ·rename_i h0
  have h1:k.natAbs≠0:=λz=>h0 (by have:k=0:=Int.natAbs_eq_zero.mp z;rw[this];rfl);exact(acT h1).mpr h
noncomputable def lH(i j:Int):Prop:=i.natAbs<2^4096/\j.natAbs<2^4096
theorem lH.ok{i j:Int}(h:lH i j):IntMulOk i j:=by
 have h1:=bits_le h.1;have h2:=bits_le h.2;have h3:Builtin.Int.intTooBig (Builtin.Int.intBits i+Builtin.Int.intBits j)=false:=by
  unfold Builtin.Int.intTooBig;refine decide_eq_false ?_;have:((Builtin.Int.intBits i+Builtin.Int.intBits j:Nat):Int)<=8192:=by omega
  have e:(8192:Int)<=((bitsLine:Nat):Int):=by decide
  omega
 unfold IntMulOk;rw[h3];simp
section
variable{X:Cx}
theorem aF:r6 X (binaryOp .Mult) (rI lH λi j=> .int (i*j)):=Pq λ_ _ _ _ _ _ _ hc q=>mul_int q hc.ok
noncomputable def Sz(i j:Int):Prop:=0<j/\j.natAbs.log2<9000
theorem oJ:r6 X (binaryOp .FloorDiv) (rI Sz λi j=> .int (i/j)):=Pq λi j _ _ _ _ _ hc q=>by
 have h1:(0:Int)<j:=hc.1;exact floordiv_int (by omega) (by rw[acW i (by omega)];exact q) (.inl (PyProof.noPylong_of_log2 hc.2))
end
noncomputable def Tab(H:Hp)(t:Addr)(bs:List Addr)(m:List (List Int)):Prop:=H t=some (.lst (bs.map V.ref))/\Paired (λrow b=>H b=some (.lst (row.map V.int))) m bs
theorem Tab.same{H H':Hp}{t:Addr}{bs:List Addr}{m:List (List Int)}(s:ay H H')(h:Tab H t bs m):Tab H' t bs m:=⟨s _ _ h.1,h.2.Dm λ_ _ _ q=>s _ _ q⟩
noncomputable def aY(m:List (List Int)):Prop:=m.length=3/\ ∀r∈m,r.length=3
theorem Qc{H:Hp}{m:List (List Int)}{bs:List Addr}(pr:Paired (λrow b=>H b=some (.lst (row.map V.int))) m bs){b:Addr}(hb:b∈bs):∃row,row∈m/\H b=some (.lst (row.map V.int)):=by
 induction pr with
 |nil=>cases hb
 | @cons r c m bs h t ih=>
  rcases aar.mp hb with e|hb
  ·exact⟨r,aaD,by rw[e];exact h⟩
  ·obtain⟨row,q1,q2⟩:=ih hb
   exact⟨row,aay _ q1,q2⟩
theorem Tab.upd{H:Hp}{t x:Addr}{bs:List Addr}{m:List (List Int)}{o:HO}(h:Tab H t bs m)(h1:t≠x)(h2:x∉bs):Tab (upd H x o) t bs m:=
 ⟨by rw[aH h1];exact h.1,h.2.Dm λr b hb e=>by rw[aH (λz=>h2 (by rw[<-z];exact hb))];exact e⟩
theorem JN{K:PySem.W.Frag}{H:Hp}:∀r:List Int,Dk K H (r.map V.int) (r.map PyData.int)
 | []=> .nil
 |x::r=> .cons (.int x) (JN r)
theorem yL{K:PySem.W.Frag}{H:Hp}{t:Addr}{bs:List Addr}{m:List (List Int)}(h:Tab H t bs m):yK K H (.ref t) (wu m):=by
 obtain⟨e,pr⟩:=h;refine .lst (aZ.of e) ?_;clear e
 induction pr with
 |nil=>exact .nil
 | @cons r b m bs h t ih=>exact .cons (.lst (aZ.of h) (JN r)) ih
theorem mJ{bs:List Addr}{x:V}(h:x∈bs.map V.ref):∃b,x= .ref b/\b∈bs:=by
 obtain⟨b,hb,e⟩:=aaU.mp h;exact⟨b,e.symm,hb⟩
noncomputable def itemsOf(H:Hp)(g:V->V)(x:V):List V:=match x with
 | .ref b=>(match H b with|some (.lst xs)=>xs.map g|_=>[])
 |_=>[]
theorem uH{H:Hp}{g:V->V}{b:Addr}{xs:List V}(h:H b=some (.lst xs)):itemsOf H g (.ref b)=xs.map g:=by
 show(match H b with|some (.lst xs)=>xs.map g|_=>[])=_;rw[h]
theorem yM{H H':Hp}{f:V->List V}{g:List Int->List Int}:∀{m:List (List Int)}{bs bs':List Addr},Paired (λrow b=>H b=some (.lst (row.map V.int))) m bs->Paired (λx b'=>H' b'=some (.lst (f x))) (bs.map V.ref) bs'->
  (∀row b,H b=some (.lst (row.map V.int)) ->f (.ref b)=(g row).map V.int) ->Paired (λrow b'=>H' b'=some (.lst (row.map V.int))) (m.map g) bs'
 |_,_,_,.nil,h2,_=>by cases h2;exact .nil
 |_,_,_,.cons h t,h2,k=>by
  cases h2 with
  |cons h' t'=>exact .cons (by rw[h',k _ _ h]) (yM t t' k)
noncomputable def ent(m:List (List Int))(i j:Nat):Int:=(m.getD i []).getD j 0
noncomputable def mk3(g:Nat->Nat->Int):List (List Int):=[[g 0 0,g 0 1,g 0 2],[g 1 0,g 1 1,g 1 2],[g 2 0,g 2 1,g 2 2]]
theorem cJ(g:Nat->Nat->Int):aY (mk3 g):=⟨rfl,λr hr=>by
 simp only[mk3,aar,aaJ,or_false]at hr;rcases hr with rfl|rfl|rfl<;>rfl⟩
theorem aW{i:Nat}(h:i<3):i=0∨i=1∨i=2:=by omega
theorem cZ(g:Nat->Nat->Int){i j:Nat}(hi:i<3)(hj:j<3):ent (mk3 g) i j=g i j:=by
 rcases aW hi with rfl|rfl|rfl<;>rcases aW hj with rfl|rfl|rfl<;>rfl
theorem kG{m:List (List Int)}(h:aY m):m=mk3 (ent m):=by
 obtain⟨h1,h2⟩:=h
 match m,h1,h2 with
 | [r0,r1,r2],_,h2=>
  have l0:=h2 r0 (by simp);have l1:=h2 r1 (by simp);have l2:=h2 r2 (by simp)
  match r0,r1,r2,l0,l1,l2 with
  | [a,b,c],[d,e,f],[g,h,i],_,_,_=>rfl
theorem gS{xs:List V}{i:Nat}{v:V}(h:xs[i]?=some v):AQ xs (i:Int)=some v:=Fq h
theorem FG{H:Hp}{t:Addr}{bs:List Addr}{m:List (List Int)}(h:Tab H t bs m){i:Nat}(hi:i<m.length):∃b row,AQ (bs.map V.ref) (i:Int)=some (.ref b)/\H b=some (.lst (row.map V.int))/\m[i]?=some row/\b∈bs:=by
 obtain⟨_,pr⟩:=h;have q:∀{m:List (List Int)}{bs:List Addr}{i:Nat},Paired (λrow b=>H b=some (.lst (row.map V.int))) m bs->i<m.length-> ∃b row,bs[i]?=some b/\H b=some (.lst (row.map V.int))/\m[i]?=some row:=by
  intro m bs i pr
  induction pr generalizing i with
  |nil=>intro hi;exact absurd hi (acS _)
  | @cons r b m bs h t ih=>
   intro hi
   cases i with
   |zero=>exact⟨b,r,rfl,h,rfl⟩
   |succ i=>
    obtain⟨b',r',e1,e2,e3⟩:=ih (i:=i) (by simpa using hi);exact⟨b',r',by simpa using e1,e2,by simpa using e3⟩
 obtain⟨b,row,e1,e2,e3⟩:=q pr hi;exact⟨b,row,gS (by rw[aby,e1];rfl),e2,e3,aaA e1⟩
theorem pB{H:Hp}{t:Addr}{bs:List Addr}{m:List (List Int)}(h:Tab H t bs m)(cg:aY m){i j:Nat}(hi:i<3)(hj:j<3):
  ∃(b:Addr)(row:List Int),AQ (bs.map V.ref) (i:Int)=some (.ref b)/\H b=some (.lst (row.map V.int))/\AQ (row.map V.int) (j:Int)=some (.int (ent m i j)):=by
 obtain⟨b,row,e1,e2,e3,_⟩:=FG h (i:=i) (by rw[cg.1];exact hi);refine⟨b,row,e1,e2,gS ?_⟩;have rl:row.length=3:=cg.2 row (aaA e3);have e4:m.getD i []=row:=by rw[ace,e3];rfl
 rw[aby,aaq (by rw[rl];exact hj)];unfold ent;rw[e4,ace,aaq (by rw[rl];exact hj)]
 rfl
theorem bC{H:Hp}{t:Addr}{bs:List Addr}{m:List (List Int)}(h:Tab H t bs m)(cg:aY m){i:Nat}(hi:i<3):
  ∃b,AQ (bs.map V.ref) (i:Int)=some (.ref b)/\H b=some (.lst [.int (ent m i 0),.int (ent m i 1),.int (ent m i 2)])/\b∈bs:=by
 obtain⟨b,row,e1,e2,e3,e5⟩:=FG h (i:=i) (by rw[cg.1];exact hi);refine⟨b,e1,?_,e5⟩;have rl:row.length=3:=cg.2 row (aaA e3);have e4:m.getD i []=row:=by rw[ace,e3];rfl
 rw[e2];unfold ent;rw[e4]
 match row,rl with
 | [a,b,c],_=>rfl
noncomputable def Bd(n:Nat)(m:List (List Int)):Prop:=∀i j,i<3->j<3->(ent m i j).natAbs<2^n
theorem Bd.mono{a b:Nat}{m:List (List Int)}(h:Bd a m)(hab:a<=b):Bd b m:=λi j hi hj=>aao (h i j hi hj) (aaF (by decide) hab)
theorem cu{x y:Int}{a b:Nat}(hx:x.natAbs<2^a)(hy:y.natAbs<2^b):(x*y).natAbs<2^(a+b):=by
 rw[acD,Nat.pow_add];exact Nat.mul_lt_mul_of_lt_of_lt hx hy
theorem kH{x y:Int}{a:Nat}(hx:x.natAbs<2^a)(hy:y.natAbs<2^a):(x+y).natAbs<2^(a+1):=by
 have e:2^(a+1)=2^a+2^a:=by rw[Nat.pow_succ];omega
 omega
theorem lS{x y:Int}{a:Nat}(hx:x.natAbs<2^a)(hy:y.natAbs<2^a):(x-y).natAbs<2^(a+1):=by
 have e:2^(a+1)=2^a+2^a:=by rw[Nat.pow_succ];omega
 omega
theorem aK{x:Int}{a b:Nat}(hx:x.natAbs<2^a)(h:a<=b):x.natAbs<2^b:=aao hx (aaF (by decide) h)
noncomputable def fY(a b:List (List Int)):List (List Int):=mk3 λi j=>ent a i 0*ent b 0 j+ent a i 1*ent b 1 j+ent a i 2*ent b 2 j
noncomputable def dI(a:List (List Int)):List (List Int):=mk3 λi j=>ent a j i
theorem vI{a b:List (List Int)}{p q:Nat}(ha:Bd p a)(hb:Bd q b):Bd (p+q+2) (fY a b):=λi j hi hj=>by
 unfold fY;rw[cZ _ hi hj];exact kH (kH (cu (ha i 0 hi (by decide)) (hb 0 j (by decide) hj)) (cu (ha i 1 hi (by decide)) (hb 1 j (by decide) hj))) (aK (cu (ha i 2 hi (by decide)) (hb 2 j (by decide) hj)) (ab8 _))
theorem Br{a:List (List Int)}{p:Nat}(ha:Bd p a):Bd p (dI a):=λi j hi hj=>by
 unfold dI;rw[cZ _ hi hj];exact ha j i hj hi
theorem mK(K:PySem.W.Frag)(n:String):acf K (.type n) (.type n)=some true:=by
 unfold acf;rw[if_pos (by simp)]
theorem q8(K:PySem.W.Frag):acf K (.type "int") (.type "bool")=some false:=by kernel_rfl
theorem Qd{xs:List V}{k:Int}(h0:0<=k)(h:k<(xs.length:Int)):∃v,AQ xs k=some v/\xs[k.toNat]?=some v:=by
 have hk:k.toNat<xs.length:=by omega
 have ek:k=((k.toNat:Nat):Int):=by omega
 have q:AQ xs ((k.toNat:Nat):Int)=some xs[k.toNat]:=Fq (by rw[aaq hk]);rw[<-ek]at q;exact⟨xs[k.toNat],q,by rw[aaq hk]⟩
theorem MU{ns:List Int}{k:Int}(h0:0<=k)(h:k<(ns.length:Int)):∃z:Int,AQ (ns.map V.int) k=some (.int z):=by
 obtain⟨v,h1,h2⟩:=Qd (xs:=ns.map V.int) h0 (by rw[aau];exact h);rw[aby]at h2
 cases q:ns[k.toNat]? with
 |none=>rw[q]at h2;cases h2
 |some z=>rw[q]at h2;cases h2;exact⟨z,h1⟩
theorem at2{x y:V}{i:Int}(h0:0<=i)(h:i<2):∃v,AQ [x,y] i=some v/\(v=x∨v=y):=by
 have c:i=0∨i=1:=by omega
 rcases c with rfl|rfl
 ·exact⟨x,rfl,.inl rfl⟩
 ·exact⟨y,rfl,.inr rfl⟩
section
variable{X:Cx}
end
theorem pC{J:It}{xs:List V}{H1:Hp}{σ:St}{te:TE}{Q:VK}{D:Addr}(jw:JW J H1 xs)(h3:xs.length=3)(hD:H1 D=none)(g:Nat->Int)(hs:∀j x,j<3->xs[j]?=some x-> ∀H' (Q':VK),ay H1 H'->(∀H2,ay H' H2->Q' (.int (g j)) H2) ->te (some x::σ) H' Q')
  (hq:∀H',ay H1 H'->H' D=some (.lst [.int (g 0),.int (g 1),.int (g 2)]) ->Q (.ref D) H'):lQ 1 (dP 0) te σ J H1 D Q:=by
 refine qZ jw (by rw[h3];decide) hD (λpre acc H'=>acc=(abx pre.length).map λj=>V.int (g j)) rfl (λpre x post acc H' Q' e hl sm eD p k=> ?_) (λacc H' hl sm eD p=> ?_)
 ·have hlen:pre.length<3:=by
   have:=congrArg adP e;rw[h3]at this;simp at this;omega
  refine hs pre.length x hlen (by rw[e];simp) H' Q' sm λH2 s2=>k _ H2 s2 ?_;rw[p];simp[acv]
 ·refine hq H' sm ?_
  rw[eD,p,h3]
  rfl
theorem vJ{J:It}{xs:List V}{H1:Hp}{σ:St}{te:TE}{Q:VK}{D:Addr}(jw:JW J H1 xs)(h3:xs.length=3)(hD:H1 D=none)(g:Nat->Nat->Int)
  (hs:∀i x,i<3->xs[i]?=some x-> ∀H' (Q':VK),ay H1 H'->(∀b H2,H' b=none->ay H' H2->H2 b=some (.lst [.int (g i 0),.int (g i 1),.int (g i 2)]) ->Q' (.ref b) H2) ->te (some x::σ) H' Q')
  (hq:∀bs H',ay H1 H'->(∀b∈bs,H1 b=none) ->D∉bs->Tab H' D bs (mk3 g) ->Q (.ref D) H'):lQ 1 (dP 0) te σ J H1 D Q:=by
 refine qZ jw (by rw[h3];decide) hD (λpre acc H'=> ∃bs:List Addr,acc=bs.map V.ref/\(∀b∈bs,H1 b=none)/\D∉bs/\Paired (λi b=>H' b=some (.lst [.int (g i 0),.int (g i 1),.int (g i 2)])) (abx pre.length) bs) ⟨[],rfl,λ_ h=>(nomatch h),by simp,.nil⟩ (λpre x post acc H' Q' e hl sm eD p k=> ?_) (λacc H' hl sm eD p=> ?_)
 ·obtain⟨bs,rfl,fr,nD,pr⟩:=p
  have hlen:pre.length<3:=by
   have:=congrArg adP e;rw[h3]at this;simp at this;omega
  refine hs pre.length x hlen (by rw[e];simp) H' _ sm λb H2 hb s2 eb=>k _ _ s2 ⟨bs++ [b],by simp,?_,?_,?_⟩
  ·intro c hc
   rcases aaE.mp hc with z|z
   ·exact fr c z
   ·rw[aap.mp z];exact sm.none hb
  ·intro z
   rcases aaE.mp z with z|z
   ·exact nD z
   ·rw[<-aap.mp z,eD]at hb;cases hb
  ·have nb:b≠D:=λz=>by rw[z,eD]at hb;cases hb
   have er:abx (pre++ [x]).length=abx pre.length++ [pre.length]:=by simp[acv]
   rw[er];refine Paired.snoc (pr.Dm λy c hc q=> ?_) (by rw[aH nb];exact eb);rw[aH (λz=>nD (by rw[<-z];exact hc))];exact s2 _ _ q
 ·obtain⟨bs,rfl,fr,nD,pr⟩:=p
  refine hq bs H' sm fr nD ⟨eD,?_⟩;rw[h3]at pr;have VY:Paired (λi b=>H' b=some (.lst [.int (g i 0),.int (g i 1),.int (g i 2)])) [0,1,2] bs:=pr
  cases VY with
  |cons h0 t0=>cases t0 with
   |cons h1 t1=>cases t1 with
    |cons h2 t2=>
     cases t2;exact .cons h0 (.cons h1 (.cons h2 .nil))
theorem gT{n k:Nat}{x:V}(h:(oH n)[k]?=some x):k<n/\x= .int (k:Int):=by
 unfold oH at h;rw[aby]at h
 cases q:(abx n)[k]? with
 |none=>rw[q]at h;cases h
 |some z=>
  rw[q]at h;have hz:=aat.mp q;obtain⟨h1,h2⟩:=hz;have VZ:k<n:=by simpa using h1
  rw[List.getElem_range]at h2;subst h2;cases h;exact⟨VZ,rfl⟩
theorem Wa(val:Nat->Int):preSum val 3=val 0+val 1+val 2:=by simp[preSum]
theorem Bs{d:PyData}(h:SeqAt.shaped d=true):PyData.eqv d d=true:=SeqAt.eqv_refl d (SeqAt.canLay_of_shaped h)
theorem MV{K:PySem.W.Frag}{H:Hp}{x y:V}{Q:VK}(d:PyData)(hx:yK K H x d)(hy:yK K H y d)(hs:SeqAt.shaped d=true)(q:Q (.bl true) H):Hl K false x y H Q:=
 ⟨d,d,hx,hy,hs,hs,by rw[Bs hs];exact q⟩
theorem MW{K:PySem.W.Frag}{H:Hp}{x y:V}{Q:VK}(d:PyData)(hx:yK K H x d)(hy:yK K H y d)(hs:SeqAt.shaped d=true)(q:Q (.bl false) H):Hl K true x y H Q:=
 ⟨d,d,hx,hy,hs,hs,by rw[Bs hs];exact q⟩
theorem zO(m n:List (List Int)):SeqAt.shaped (.tuple [wu m,wu n])=true:=by
 have h1:=nj m;have h2:=nj n;simp only[SeqAt.shaped,PyData.canLay0,PyData.canLayAll0,PyData.depth,PyData.depthAll,lG,adl,decide_eq_true_eq];exact decide_eq_true (show _<=64 by omega)
theorem FH{K:PySem.W.Frag}{H:Hp}{p t u:Addr}{bs cs:List Addr}{m n:List (List Int)}(e:H p=some (.tup [.ref t,.ref u]))(h1:Tab H t bs m)(h2:Tab H u cs n):yK K H (.ref p) (.tuple [wu m,wu n]):=
 .tup (nZ.of e) (.cons (yL h1) (.cons (yL h2) .nil))
theorem fU{f g:Nat->Nat->Int}(h:∀i j,i<3->j<3->f i j=g i j):mk3 f=mk3 g:=by
 simp only[mk3,h 0 0 (by decide) (by decide),h 0 1 (by decide) (by decide),h 0 2 (by decide) (by decide),h 1 0 (by decide) (by decide),h 1 1 (by decide) (by decide),h 1 2 (by decide) (by decide),h 2 0 (by decide) (by decide),h 2 1 (by decide) (by decide),h 2 2 (by decide) (by decide)]
theorem aS(a b:List (List Int)){i j:Nat}(hi:i<3)(hj:j<3):ent (fY a b) i j=ent a i 0*ent b 0 j+ent a i 1*ent b 1 j+ent a i 2*ent b 2 j:=cZ _ hi hj
theorem bf(a:List (List Int)){i j:Nat}(hi:i<3)(hj:j<3):ent (dI a) i j=ent a j i:=cZ _ hi hj
theorem wD(a b c:List (List Int)):fY (fY a b) c=fY a (fY b c):=by
 refine fU λi j hi hj=> ?_;rw[aS a b hi (by decide),aS a b hi (by decide),aS a b hi (by decide),aS b c (by decide) hj,aS b c (by decide) hj,aS b c (by decide) hj]
 grind
theorem qb(a b:List (List Int)):dI (fY a b)=fY (dI b) (dI a):=by
 refine fU λi j hi hj=> ?_;rw[aS a b hj hi,bf b hi (by decide),bf b hi (by decide),bf b hi (by decide),bf a (by decide) hj,bf a (by decide) hj,bf a (by decide) hj]
 grind
theorem Bt{a:List (List Int)}(h:aY a):dI (dI a)=a:=by
 rw[kG h];refine fU λi j hi hj=> ?_;rw[bf _ hj hi,cZ _ hi hj]
noncomputable def aX(m b:List (List Int)):List (List Int):=fY (fY b m) (dI b)
theorem kc(m b c:List (List Int)):aX (aX m b) c=aX m (fY c b):=by
 unfold aX;simp only[qb,wD]
theorem yN{m:List (List Int)}(b:List (List Int))(hb:aY b):dI (aX m b)=aX (dI m) b:=by
 unfold aX;rw[qb,qb,Bt hb,wD]
noncomputable def iW(m:List (List Int))(i j:Nat):Int:=ent m ((i+1)%3) ((j+1)%3)*ent m ((i+2)%3) ((j+2)%3) -ent m ((i+1)%3) ((j+2)%3)*ent m ((i+2)%3) ((j+1)%3)
noncomputable def aA(m:List (List Int)):Int:=ent m 0 0*iW m 0 0+ent m 0 1*iW m 0 1+ent m 0 2*iW m 0 2
theorem dJ(m:List (List Int)):aA m=ent m 0 0*(ent m 1 1*ent m 2 2-ent m 1 2*ent m 2 1)+ent m 0 1*(ent m 1 2*ent m 2 0-ent m 1 0*ent m 2 2)+ent m 0 2*(ent m 1 0*ent m 2 1-ent m 1 1*ent m 2 0):=rfl
theorem mL(a b:List (List Int)):aA (fY a b)=aA a*aA b:=by
 rw[dJ,dJ,dJ];simp only[aS a b (show 0<3 by decide) (show 0<3 by decide),aS a b (show 0<3 by decide) (show 1<3 by decide),aS a b (show 0<3 by decide) (show 2<3 by decide),aS a b (show 1<3 by decide) (show 0<3 by decide),aS a b (show 1<3 by decide) (show 1<3 by decide),aS a b (show 1<3 by decide) (show 2<3 by decide),aS a b (show 2<3 by decide) (show 0<3 by decide),aS a b (show 2<3 by decide) (show 1<3 by decide),aS a b (show 2<3 by decide) (show 2<3 by decide)]
 grind
theorem m3(i:Nat)(k:Nat):((i:Int)+(k:Int))%3=(((i+k)%3:Nat):Int):=by omega
theorem xS(i:Nat):i%3<3:=Nat.mod_lt _ (by decide)
theorem zP(f:Nat->Int){c:Nat}(h:c<3):AQ [V.int (f 0),.int (f 1),.int (f 2)] (c:Int)=some (.int (f c)):=by
 rcases aW h with rfl|rfl|rfl<;>rfl
theorem nk{m:List (List Int)}{n:Nat}(h:Bd n m)(i j:Nat):(iW m i j).natAbs<2^(n+n+1):=
 lS (cu (h _ _ (xS _) (xS _)) (h _ _ (xS _) (xS _))) (cu (h _ _ (xS _) (xS _)) (h _ _ (xS _) (xS _)))
theorem MX{m:List (List Int)}{n:Nat}(h:Bd n m):(aA m).natAbs<2^(n+(n+n+1)+2):=
 kH (kH (cu (h 0 0 (by decide) (by decide)) (nk h 0 0)) (cu (h 0 1 (by decide) (by decide)) (nk h 0 1))) (aK (cu (h 0 2 (by decide) (by decide)) (nk h 0 2)) (ab8 _))
theorem nv{H:Hp}{t b0 b1 b2:Addr}(g:Nat->Nat->Int)(e:H t=some (.lst [.ref b0,.ref b1,.ref b2]))(h0:H b0=some (.lst [.int (g 0 0),.int (g 0 1),.int (g 0 2)]))(h1:H b1=some (.lst [.int (g 1 0),.int (g 1 1),.int (g 1 2)]))
  (h2:H b2=some (.lst [.int (g 2 0),.int (g 2 1),.int (g 2 2)])):Tab H t [b0,b1,b2] (mk3 g):=⟨e,.cons h0 (.cons h1 (.cons h2 .nil))⟩
noncomputable def iX(m:List (List Int)):List (List Int):=mk3 λi j=>iW m j i
noncomputable def kI(d:Int):List (List Int):=mk3 λi j=>if i=j then d else 0
theorem kJ(m:List (List Int)){i j:Nat}(hi:i<3)(hj:j<3):ent (iX m) i j=iW m j i:=cZ _ hi hj
theorem Bu(m:List (List Int)):fY (iX m) m=kI (aA m):=by
 refine fU λi j hi hj=> ?_;rw[kJ m hi (by decide),kJ m hi (by decide),kJ m hi (by decide),dJ];rcases aW hi with rfl|rfl|rfl<;>rcases aW hj with rfl|rfl|rfl<;>simp only[iW,Nat.reduceAdd,adZ,adn,if_true,if_false]<;>grind
structure JO(X:Cx)(st:List Stmt)(t:TS):Prop where
 h:zC X st t
theorem nA{X:Cx}{st:List Stmt}{t:TS}(h:JO X st t):zC X st t:=h.h
theorem az{X:Cx}{a:Stmt}{b:List Stmt}{ta tb:TS}(ha:PS X a ta)(hb:JO X b tb):JO X (a::b) (CT ta tb):=⟨IX ha hb.h⟩
theorem aP{X:Cx}{a:Stmt}{ta:TS}(ha:PS X a ta):JO X [a] ta:=⟨dQ ha⟩
section
variable{X:Cx}{pins:List (Addr×Obj)}{σ:St}{H:Hp}{s:Shared}{h':Heap}
theorem Inv.rf{t':Nat}{ch:List Addr}(I:Inv X pins σ H s)(k:∀b o,b∉ch->s.heap.get? b=some o->h'.get? b=some o)(hf:∀b∈ch,gb X pins H b):Inv X pins σ H {s with heap:=h',toks:=t'}:=by
 have RB:∀b u,H b=some u->b∉ch:=λb u e z=>by have:=(hf b z).1;rw[e]at this;cases this
 refine I.step (g':=s.gens) (d':=s.drawn) (ch:=ch) (λb hb=> ?_) (λb o _ _ hc e _=>k b o hc e) (λb o _ _ hc e _=>⟨o.slots,k b o hc e⟩) (λ_ _ _ _ n=>n)
  (λb o hc e=>⟨o,k b o hc e⟩) (λ_ _ e=>e) (λ_ _ _ e=>e) (λb ps e=>⟨#[],by rw[e];simp⟩) (λm hm=> ?_) (λb u e=> ?_) (.refl I.bare.bare)
 ·obtain⟨f0,f1,f2,f3,f4,f5⟩:=hf b hb
  exact⟨f3,f1,f4,f5⟩
 ·obtain⟨o,es,ep,ho,r⟩:=hm
  exact⟨o,es,ep,k _ o (λz=>(hf _ z).2.1 rfl) ho,r⟩
 ·refine(I.hok b u e).stay (λc v hc q=>k c v ?_ q) (λ_ q=>q) λ_ _ q=>q
  rcases hc with z|z
  ·rw[z];exact RB b u e
  ·exact RB c _ z
theorem Inv.OH{T:Addr}{o:HO}(I:Inv X pins σ H s)(hf:gb X pins H T)(new:f6 X.prog X.w (upd H T o) s.heap T o):Inv X pins σ (upd H T o) s:=by
 obtain⟨f0,f1,f2,f3,f4,f5⟩:=hf;have ne:∀{b u},H b=some u->b≠T:=λ {b u} e z=>by rw[z,f0]at e;cases e
 refine I.step (g':=s.gens) (d':=s.drawn) (t':=s.toks) (h':=s.heap) (ch:=[T]) (λb hb=> ?_) (λb o _ _ _ e _=>e) (λb o _ _ _ e _=>⟨o.slots,e⟩) (λb o hc _ n=> ?_)
  (λb o _ e=>⟨o,e⟩) (λb xs e=>by rw[aH (ne e)];exact e) (λb _ _ e=>by rw[aH (ne e)];exact e) (λb ps e=>⟨#[],by rw[aH (ne e),e];simp⟩) (λm hm=>hm) (λb u e=> ?_) (.refl I.bare.bare)
 ·have e:b=T:=by simpa using hb
  subst e;exact⟨f3,f1,f4,f5⟩
 ·rw[aH (λz=>hc (by simp[z]))];exact n
 ·by_cases hb:b=T
  ·subst hb;rw[ao]at e;cases e;exact new
  ·rw[aH hb]at e
   exact(I.hok b u e).stay (λc v _ q=>q) (λc q=>by rw[aH (ne q)];exact q) (λc xs q=>by rw[aH (ne q)];exact q) λc ob xs q=>by rw[aH (ne q)];exact q
end
noncomputable def SA(K:PySem.W.Frag)(a b:Addr):It:=
 ⟨λi H=> ∃xs ys x y,aZ K H a xs/\aZ K H b ys/\xs[i]?=some x/\ys[i]?=some y,
  λi H v H'=> ∃T x y,v= .ref T/\H T=none/\(∀xs,aZ K H a xs->xs[i]?=some x)/\(∀ys,aZ K H b ys->ys[i]?=some y)/\H'=upd H T (.tup [x,y]),
  λi H=> ∃xs ys,aZ K H a xs/\aZ K H b ys/\(xs.length<=i∨ys.length<=i)⟩
noncomputable def SE(z TI TO i1 i2 a b:Addr)(i:Nat)(h:Heap):Prop:=
 IsZip h z TI TO .none/\IsPair h TI (.ref i1) (.ref i2)/\(∃p q,IsPair h TO p q)/\h.IsListIter i1 a i/\h.IsListIter i2 b i
theorem JP{P:Program}{w:World}{K:PySem.W.Frag}{elts:List Expr}{x1}{pos:Pos}(z TI TO i1 i2 a b:Addr)(D:ZipApart z TI TO i1 i2 a b):Turn P w K (.Tuple elts x1 pos) (SA K a b) [z,TI,TO,i1,i2] z (SE z TI TO i1 i2 a b) where
 mem:=by simp
 obj:=λi h st c hc=>by
  obtain⟨hz,hTI,⟨p,q,hTO⟩,⟨o1,e1,c1,d1⟩,⟨o2,e2,c2,d2⟩⟩:=st;simp only[aar,aaJ,or_false]at hc;rcases hc with rfl|rfl|rfl|rfl|rfl
  ·exact⟨_,hz,λv e=>by cases e⟩
  ·exact⟨_,hTI,λv e=>by cases e⟩
  ·exact⟨_,hTO,λv e=>by cases e⟩
  ·exact⟨_,e1,λv e=>by rw[d1]at e;cases e⟩
  ·exact⟨_,e2,λv e=>by rw[d2]at e;cases e⟩
 keep:=λi h h' st k=>by
  obtain⟨hz,hTI,⟨p,q,hTO⟩,h1,h2⟩:=st;exact⟨k z (by simp) _ hz,k TI (by simp) _ hTI,⟨p,q,k TO (by simp) _ hTO⟩,h1.at λo e=>k i1 (by simp) o e,h2.at λo e=>k i2 (by simp) o e⟩
 item:=by
  intro X hP hw hK hc i pins s σ H E I hf st hg;subst hP hw hK;obtain⟨xs,ys,x,y,Uz,UA,hx,hy⟩:=hg;obtain⟨hz,hTI,⟨p,q,hTO⟩,h1,h2⟩:=st;obtain⟨ia,ra,pa,za⟩:=I.list Uz;obtain⟨ib,rb,pb,zb⟩:=I.list UA;obtain⟨u,hu,ru⟩:=ra.get hx;obtain⟨v,hv,rv⟩:=rb.get hy;refine wpAny_pyNext_zip_item D hz hTI hTO h1 h2 pa.isList pb.isList (x:=u) (y:=v) (by simpa using hu) (by simpa using hv) λh' a1 a2 a3 a4 a5 a6 hk=> ?_;refine⟨_,rfl,?_⟩;have Wb:=hk _ _ D.TIz D.TITO D.TIi1 D.TIi2 hTI;have f4:∀c∈ [z,TO,i1,i2],gb X pins H c:=λc hc=>hf c (by simp only[aar,aaJ,or_false]at hc ⊢;rcases hc with rfl|rfl|rfl|rfl<;>simp);have I1:Inv X pins σ H {s with heap:=h'}:=I.rf (t':=s.toks) (ch:=[z,TO,i1,i2]) (λc o hc e=>hk c o (λq=>hc (by simp[q])) (λq=>hc (by simp[q])) (λq=>hc (by simp[q])) (λq=>hc (by simp[q])) e) f4;have hn:H s.heap.objs.size=none:=I.hok.fresh (aav _);have fT:=I.GJ (b:=s.heap.objs.size) (aav _) hn;have I2:Inv X pins σ (upd H s.heap.objs.size (.tup [x,y])) {s with heap:=h'}:=I1.OH fT ⟨by show 2<=sizeLine;decide,[u,v],.cons ru (.cons rv .nil),⟨_,a5,rfl,_,rfl⟩⟩;refine wpAny_letOwnedTupleGo_zip (s:={s with heap:=h'}) a1 λh2' hz' hs'=> ?_;have lt:∀{c o},s.heap.get? c=some o->c≠s.heap.objs.size:=λe=>aaI (Heap.lt_size e);obtain⟨o1,e1,_⟩:=id h1;obtain⟨o2,e2,_⟩:=id h2;have neT:∀c∈ [z,TI,TO,i1,i2],c≠s.heap.objs.size:=λc hc=>by
   simp only[aar,aaJ,or_false]at hc;rcases hc with rfl|rfl|rfl|rfl|rfl
   ·exact lt hz
   ·exact lt hTI
   ·exact lt hTO
   ·exact lt e1
   ·exact lt e2
  obtain⟨g0,g1,g2,g3,g4,g5⟩:=hf z (by simp);have I3:Inv X pins σ (upd H s.heap.objs.size (.tup [x,y])) {s with heap:=h2'}:=Inv.turned (s:={s with heap:=h'}) (h':=h2') I2 (it:=z) (t':=s.toks) (λc o hc e=>hs'.extBut _ _ hc e) (by rw[aH (neT z (by simp))];exact g0) g1 g3 g4 g5;refine⟨.ref s.heap.objs.size,_,I3,rfl,⟨_,x,y,rfl,hn,λzs hzs=>by rw[I.vV hzs Uz];exact hx,λzs hzs=>by rw[I.vV hzs UA];exact hy,rfl⟩,?_,λc hc=> ?_⟩
  ·exact⟨hz',hs'.extBut _ _ D.TIz Wb,⟨_,_,hs'.extBut _ _ D.TOz a2⟩,a3.extBut hs'.extBut D.i1z,a4.extBut hs'.extBut D.i2z⟩
  ·rw[aH (neT c hc)];exact(hf c hc).1
 done:=by
  intro X hP hw hK hc i pins s σ H E I hf st hg;subst hP hw hK;obtain⟨xs,ys,Uz,UA,hend⟩:=hg;obtain⟨hz,hTI,⟨p,q,hTO⟩,h1,h2⟩:=st;obtain⟨ia,ra,pa,za⟩:=I.list Uz;obtain⟨ib,rb,pb,zb⟩:=I.list UA;have la:=ra.length;have lb:=rb.length;have f4:∀c∈ [z,TO,i1,i2],gb X pins H c:=λc hc=>hf c (by simp only[aar,aaJ,or_false]at hc ⊢;rcases hc with rfl|rfl|rfl|rfl<;>simp);refine wpAny_pyNext_zip_end (I.ok.hd hc) D hz hTI hTO h1 h2 pa.isList pb.isList (hend.imp (λq=>by simp;omega) (λq=>by simp;omega)) λh' hk=>⟨rfl,?_⟩;exact I.rf (t':=s.toks) (ch:=[z,TO,i1,i2]) (λc o hc e=>hk c o (λq=>hc (by simp[q])) (λq=>hc (by simp[q])) (λq=>hc (by simp[q])) (λq=>hc (by simp[q])) e) f4
 self:=λ_ _ _ _ _ st h=>wpAny_pyIter_zip st.1 h
noncomputable def Wc(K:PySem.W.Frag)(ta:TA):TI:=λσ H R=>ta σ H λvs H1=> ∃a b xs ys,vs=[.ref a,.ref b]/\aZ K H1 a xs/\aZ K H1 b ys/\R (SA K a b) H1
section
variable{X:Cx}
theorem Dp{elts:List Expr}{x1}{tpos:Pos}{a b:Expr}{ta:TA}{p pos:Pos}(hg:Gl X "zip")(hm:X.mg "zip"=none)(ha:PA X [a,b] ta)(hs:starEach [a,b] X.env=[(false,eval a X.env),(false,eval b X.env)]:=by rfl)(hs2:starEach [b] X.env=[(false,eval b X.env)]:=by rfl):
  PI X (.Tuple elts x1 tpos) (.Call (.Name "zip" p) [a,b] [] pos) (Wc X.K ta):=by
 intro pins s σ H R I h;refine Call_ (m8 I hg hm boot_zip (abL (gD (ha pos pins s σ H _ I h) λus s1 ⟨vs,H1,I1,r1,q1⟩=> ?_) (by rw[hs,hs2]) (by rw[hs2];rfl)));obtain⟨l1,l2,xs,ys,e,q1,q2,q⟩:=q1;subst e
 cases r1 with
 |cons r rr=>
  cases rr with
  |cons r' rr=>
   cases rr;cases r;cases r';obtain⟨ia,ra,pa,za⟩:=I1.list q1;obtain⟨ib,rb,pb,zb⟩:=I1.list q2;have Zj:l1<s1.heap.objs.size:=by obtain⟨o,e,_⟩:=pa.isList;exact Heap.lt_size e
   have FI:l2<s1.heap.objs.size:=by obtain⟨o,e,_⟩:=pb.isList;exact Heap.lt_size e
   refine call_zip_2 pa.isList pb.isList λh' hz hTI hTO hi1 hi2 hsz hk=> ?_;refine wpAny_pyIter_zip hz ?_;refine⟨_,[s1.heap.objs.size+4,s1.heap.objs.size+2,s1.heap.objs.size+3,s1.heap.objs.size,s1.heap.objs.size+1],_,_,H1,rfl,I1.kept (t':=s1.toks) hk,JP _ _ _ _ _ l1 l2 (zipApart_new Zj FI),⟨hz,hTI,⟨_,_,hTO⟩,hi1,hi2⟩,λc hc=> ?_,q⟩;have hc':s1.heap.objs.size<=c:=by
    simp only[aar,aaJ,or_false]at hc;rcases hc with rfl|rfl|rfl|rfl|rfl<;>first|exact aav _|exact acN _ _
   exact I1.GJ hc' (I1.hok.fresh hc')
end
section
variable{X:Cx}{sc:Scope}{N2:List Str}{x y:Str}{px FJ tpos:Pos}{x1:Nat}{elt iter:Expr}{jD p pos:Pos}{wi:TI}{te:TE}{P:Addr}
theorem rg{own:List Str}{i:Nat}{z:Str}(B:qR sc.names X.env.scope.names own N2 X.N)(hz:own[i]?=some z)(s:Shared)(H:Hp)(fp:List Addr):PG (X.comp sc (own++N2) s H fp) (.Name z px) (dP i):=by
 have hi:(X.comp sc (own++N2) s H fp).N[i]?=some z:=by
  show(own++N2)[i]?=some z;rw[aaR (aat.mp hz).1];exact hz
 rcases B.own z (aaA hz)with e|e
 ·exact aI (i:=i) B.MK hi (.inl (kE (env:=X.env) e (.inl rfl))) (.inr (kE (env:=X.env) e (.inl rfl)))
 ·refine aI (i:=i) B.MK hi (.inr (kE (env:=X.env) e (.inr rfl))) (.inl ?_)
  show(sc.names.lookup z==some NameKind.cell)=true;rw[e];rfl
noncomputable def g2(K:PySem.W.Frag):TG:=RQ K 2 (IZ (dP 0) (IZ (dP 1) RO))
theorem JQ(hc:X.calm=true)(B:qR sc.names X.env.scope.names [x,y] N2 X.N)(s:Shared)(H:Hp)(fp:List Addr):PG (X.comp sc ([x,y]++N2) s H fp) (.Tuple [.Name x px,.Name y FJ] x1 tpos) (g2 X.K):=
 kr (X:=X.comp sc ([x,y]++N2) s H fp) hc (aG (rg (i:=0) B rfl s H fp) (aG (rg (i:=1) B rfl s H fp) dW))
theorem Dq(hc:X.calm=true)(hi:PI X (.Tuple [.Name x px,.Name y FJ] x1 tpos) iter wi)(hB:Bg sc.names X.env.scope.names [x,y] N2 X.N=true)(hk:sc.kind= .function)(he:∀s H fp,PE (X.comp sc ([x,y]++N2) s H fp) elt te)
  (hs:∀x,foldedSetIterable iter X.env x=pure x:=by intro _;rfl):PE X (.ListComp elt [⟨.Tuple [.Name x px,.Name y FJ] x1 tpos,iter,[],0⟩] sc pos) (qY 2 wi (g2 X.K) te):=
 Bj (own:=[x,y]) hc hi (kC hB) hk (λs H fp=>JQ hc (kC hB) s H fp) he hs
end
theorem Bv{K:PySem.W.Frag}{H1:Hp}{a b:Addr}{xs ys:List V}{σ:St}{te:TE}{Q:VK}(ha:aZ K H1 a xs)(hb:aZ K H1 b ys)(hl:xs.length=ys.length)(hz:xs.length<=sizeLine){D:Addr}(hD:H1 D=none)(f:V->V->V)
  (hs:∀(i:Nat) x y,xs[i]?=some x->ys[i]?=some y-> ∀H' (Q':VK),ay H1 H'->Q' (f x y) H'->te (some x::some y::σ) H' Q')
  (hq:∀H',ay H1 H'->H' D=some (.lst (List.zipWith f xs ys)) ->Q (.ref D) H'):lQ 2 (g2 K) te σ (SA K a b) H1 D Q:=by
 refine⟨λi m acc σ' H'=>m=xs.length-i/\i<=xs.length/\acc=(List.zipWith f xs ys).take i/\(∃o o',σ'=o::o'::σ)/\ay H1 H'/\H' D=some (.lst acc),⟨xs.length,rfl,aa3 _,by simp,⟨none,none,rfl⟩,ay.up hD,ao⟩,?_⟩;rintro i m acc σ' H' ⟨rfl,hi,hacc,⟨o,o',rfl⟩,sm,eD⟩;have Zk:acc.length=i:=by rw[hacc];simp;omega
 by_cases hlt:i<xs.length
 ·have hlt':i<ys.length:=by omega
  refine .inr ⟨⟨xs,ys,xs[i],ys[i],sm.seq ha,sm.seq hb,by simp[hlt],by simp[hlt']⟩,by omega,λv H2 yl=> ?_⟩;obtain⟨T,x,y,rfl,hT,hx,hy,rfl⟩:=yl;have ex:=hx xs (sm.seq ha);have ey:=hy ys (sm.seq hb);have s2:ay H' (upd H' T (.tup [x,y])):=ay.up hT;refine⟨T,[x,y],rfl,nZ.of ao,rfl,x,[y],rfl,y,[],rfl,rfl,?_⟩;show te (some x::some y::σ) _ _;refine hs i x y ex ey _ _ (sm.trans s2) ?_;refine⟨s2 _ _ eD,xs.length- (i+1),by omega,rfl,hlt,?_,⟨_,_,rfl⟩,(sm.trans s2).upd hD,ao⟩;rw[hacc,List.take_succ,List.getElem?_zipWith,ex,ey]
  rfl
 ·have e:i=xs.length:=by omega
  subst e;refine .inl ⟨⟨xs,ys,sm.seq ha,sm.seq hb,.inl (aav _)⟩,eD,hq H' sm ?_⟩;rw[eD,hacc];rw[aaP (by rw[List.length_zipWith];exact Nat.min_le_left ..)]
section
variable{X:Cx}{sc:Scope}{N2:List Str}{x y:Str}{px FJ:Pos}{elt iter kF:Expr}{jD p pos:Pos}{wi JG:TI}{te:TE}{P:Addr}
theorem FL{B:Around}{own:List Str}{i:Nat}{z:Str}(Bk:qR sc.names X.env.scope.names own N2 X.N)(hnc:∀y∈sc.names,y.2≠ .cell)(hz:own[i]?=some z)(code:Value)(s:Shared)(H:Hp)(fp:List Addr):PG (X.gen B sc (own++N2) code s H fp) (.Name z px) (dP i):=by
 have hi:(X.gen B sc (own++N2) code s H fp).N[i]?=some z:=by
  show(own++N2)[i]?=some z;rw[aaR (aat.mp hz).1];exact hz
 rcases Bk.own z (aaA hz)with e|e
 ·exact aI (i:=i) Bk.MK hi (.inl e) (.inr e)
 ·exact absurd rfl (hnc _ (mem_of_lookup e))
end
section
variable{prog:Program}{w:World}{A:Around}{E:Value->Shared->Prop}{s:Shared}
theorem yO{it t:Addr}{items:Array Value}(hne:t≠it):∀(n i:Nat)(s:Shared)(Q:List Value->Shared->Prop),s.heap.IsListIter it t i->s.heap.IsList t items->i+n<=items.size->
  (∀h',h'.IsListIter it t (i+n) ->Heap.SameBut it s.heap h'->Q ((items.toList.drop i).take n) {s with heap:=h'}) ->wpAny (model prog w) A (draw (.ref it) n) Q E s
 |0,i,s,Q,hit,_,_,hQ=>by
  show wpAny _ _ (pure []) Q E s;exact wpAny_pure (by simpa using hQ s.heap hit (Heap.SameBut.refl ..))
 |n+1,i,s,Q,hit,ht,hle,hQ=>by
  have hlt:i<items.size:=by omega
  show wpAny _ _ (pyNext (.ref it)>>=_) Q E s;refine wpAny_bind (wpAny_pyNext_list_item hit ht (x:=items[i]) (by simp[hlt]) λh₁ Dr hs₁=> ?_);refine wpAny_bind (wpAny_holding (yO hne n (i+1) _ _ Dr (ht.extBut hs₁.extBut hne) (by omega) λh₂ Qe hs₂=>wpAny_pure ?_));have hd:items.toList.drop i=items[i]::items.toList.drop (i+1):=by simp[abi,hlt]
  have:=hQ h₂ (by rw[show i+(n+1)=i+1+n by omega];exact Qe) (hs₁.trans hs₂);rw[hd,List.take_succ_cons]at this;exact this
theorem zQ{t:Addr}{items:Array Value}{targets:List (Bool×(Value->Sem Unit))}{Q:Unit->Shared->Prop}(hh:A.handled=none)(ht:s.heap.IsList t items)
  (hn:targets.length=items.size)(hstar:targets.findIdx? (·.1)=none)
  (h:∀h',Heap.ExtBut s.heap.objs.size s.heap h'->wpAny (model prog w) A (assignInOrder (targets.map (·.2)) items.toList) Q E {s with heap:=h'}):
  wpAny (model prog w) A (unpack (.ref t) targets) Q E s:=by
 have hlt:t≠s.heap.objs.size:=by obtain⟨o,ho,_⟩:=ht;exact aaI (Heap.lt_size ho)
 unfold unpack;rw[hn,hstar];refine wpAny_bind (wpAny_holding ?_);unfold unpackItems;refine wpAny_bind ?_;unfold notIterableAtAll;refine wpAny_bind (wpAny_specialOf ht.typeIs PySem.F.slot_list_iter.lookup ?_);refine wpAny_pure ?_;simp only[aaz,if_false];refine wpAny_bind (wpAny_holding (wpAny_pyIter_list ht ?_));refine wpAny_bind (wpAny_holding (yO hlt items.size 0 _ _ ⟨_,Heap.get?_push_size _ rfl,rfl,rfl⟩ (Heap.IsList.push ht _) (by omega) λh₁ Dr hs₁=> ?_));have hall:List.take items.size (ad0 0 items.toList)=items.toList:=by
  rw[ac8];exact aaP (by simp)
 rw[hall];rw[if_neg (by simp)];have ht₁:h₁.IsList t items:=(Heap.IsList.push ht _).extBut hs₁.extBut hlt;refine wpAny_bind (wpAny_holding (wpAny_pyNext_list_end hh Dr ht₁ (by simp) λh₂ SG=> ?_));simp only[Option.isSome_none,aaz,if_false];refine wpAny_pure (h h₂ λb o hb e=>SG b o hb (hs₁.extBut b o hb (Heap.get?_push_of_some _ e)))
end
section
variable{X:Cx}
noncomputable def SH(K:PySem.W.Frag)(n:Nat)(t:Mt):TG:=λv σ H Q=> ∃a xs,v= .ref a/\aZ K H a xs/\xs.length=n/\t xs σ H Q
theorem jk{es:List Expr}{k:Nat}{t:Mt}{n:Nat}{pos:Pos}(hc:X.calm=true)(h:RM X es t)
  (hn:(assignEach es X.env).length=n:=by rfl)(hst:(assignEach es X.env).findIdx? (·.1)=none:=by rfl):PG X (.Tuple es k pos) (SH X.K n t):=by
 intro pins s σ H v u Q I r hw;obtain⟨a,xs,e1,hq,hl,hw⟩:=hw;subst e1;cases r;obtain⟨its,rv,ht,hz⟩:=I.list hq;rw[PyProof.Rows.assign_Tuple];refine wpAny_bind (wpAny_standAt (zQ (I.ok.hd hc) ht.isList (by simp[hn,<-hl,rv.length]) hst λh' hx=> ?_));have I1:Inv X pins σ H {s with heap:=h'}:=I.kept (t':=s.toks) λb o e=>hx b o (aaI (Heap.lt_size e)) e;exact h pins _ σ H xs _ Q I1 (by simpa using rv) hw
end
theorem Wd{X:Cx}{tg iter:Expr}{wi:TI}(h:PI X tg iter wi):PI X tg iter wi:=h
noncomputable def bJ(H:Hp)(a:Addr)(x:Nat->Int):Prop:=H a=some (.lst [.int (x 0),.int (x 1),.int (x 2)])
theorem bJ.same{H H':Hp}{a:Addr}{x:Nat->Int}(h:bJ H a x)(s:ay H H'):bJ H' a x:=s _ _ h
noncomputable def pairF(m:List (List Int))(x y:Nat->Int)(t:Nat):Int:=x (t/3)*ent m (t/3) (t%3)*y (t%3)
noncomputable def au(m:List (List Int))(x y:Nat->Int):Int:=ac3 (pairF m x y) 9
theorem aT(m:List (List Int))(x y:Nat->Int):au m x y=
  x 0*ent m 0 0*y 0+x 0*ent m 0 1*y 1+x 0*ent m 0 2*y 2+x 1*ent m 1 0*y 0+x 1*ent m 1 1*y 1+x 1*ent m 1 2*y 2+x 2*ent m 2 0*y 0+x 2*ent m 2 1*y 1+x 2*ent m 2 2*y 2:=by
 show ac3 (pairF m x y) 9=_;simp only[ac3,pairF,Nat.reduceDiv,adZ];omega
structure br(m:List (List Int)):Prop where
 sym:ent m 1 0=ent m 0 1/\ent m 2 0=ent m 0 2/\ent m 2 1=ent m 1 2
 MY:∃a b c,ent m 0 0=2*a/\ent m 1 1=2*b/\ent m 2 2=2*c
noncomputable def cN(m:List (List Int))(x:Nat->Int):Int:=au m x x/2
theorem fV{m:List (List Int)}(h:br m)(x:Nat->Int):au m x x=2*cN m x:=by
 obtain⟨⟨s1,s2,s3⟩,a,b,c,e1,e2,e3⟩:=h;have q:au m x x=2*(x 0*a*x 0+x 1*b*x 1+x 2*c*x 2+x 0*ent m 0 1*x 1+x 0*ent m 0 2*x 2+x 1*ent m 1 2*x 2):=by
  rw[aT,s1,s2,s3,e1,e2,e3];grind
 unfold cN;rw[q,adf _ (by decide)]
theorem JR{f:Nat->Int}{n:Nat}:∀k,(∀t,t<k->(f t).natAbs<2^n) ->(ac3 f k).natAbs<2^(n+k)
 |0,_=>Nat.two_pow_pos _
 |k+1,h=>kH (JR k λt ht=>h t (by omega)) (aK (h k (by omega)) (acN n k))
theorem jq{m:List (List Int)}{x y:Nat->Int}{a b c:Nat}(hm:Bd a m)(hx:∀i,i<3->(x i).natAbs<2^b)(hy:∀i,i<3->(y i).natAbs<2^c):(au m x y).natAbs<2^(b+a+c+9):=
 JR 9 λt ht=>cu (cu (hx _ (by omega)) (hm _ _ (by omega) (Nat.mod_lt _ (by decide)))) (hy _ (Nat.mod_lt _ (by decide)))
section
variable{X:Cx}{pos:Pos}
noncomputable def SI(i j k:Nat)(ta:TA):TS:=λD σ H=>ta σ H λvs H1=> ∃v w u,vs=[v,w,u]/\D.nx (((σ.set i (some v)).set j (some w)).set k (some u)) H1
theorem MZ{i j k:Nat}{x y z:Str}{a b c:Expr}{ta:TA}{px py pz pt:Pos}{kt k2 Ph}(hc:X.calm=true)(hN:X.N.Nodup)(hi:X.N[i]?=some x)(hj:X.N[j]?=some y)(hk:X.N[k]?=some z)(hij:i≠j)(hik:i≠k)(hjk:j≠k)
  (hx:X.env.scope.names.lookup x=some .local)(hy:X.env.scope.names.lookup y=some .local)(hz:X.env.scope.names.lookup z=some .local)(ha:PA X [a,b,c] ta)
  (hw:swappedStores [.Tuple [.Name x px,.Name y py,.Name z pz] kt pt] (.Tuple [a,b,c] k2 Ph) X.env=pure (some [x,y,z]))
  (hs:swapsWithSole [.Tuple [.Name x px,.Name y py,.Name z pz] kt pt] (.Tuple [a,b,c] k2 Ph) pos.line X.env=pure false:=by rfl):
  PS X (.Assign [.Tuple [.Name x px,.Name y py,.Name z pz] kt pt] (.Tuple [a,b,c] k2 Ph) pos) (SI i j k ta):=by
 intro pins s σ H D I h;rw[exec_Assign_arm];refine wpAny_bind (wpAny_standAt ?_);rw[hs];refine wpAny_bind (wpAny_pure ?_);rw[if_neg (by decide)];refine wpAny_bind (Tuple_ (gD (ha _ pins s σ H _ I h) λus s1 ⟨vs,H1,I1,r1,q1⟩=> ?_));obtain⟨v,w,u,e1,q1⟩:=q1;subst e1;obtain⟨u1,u2,u3,rfl,rv,rw',ru⟩:∃u1 u2 u3,us=[u1,u2,u3]/\RelV v u1/\RelV w u2/\RelV u u3:=by
  cases r1 with
  |cons p q=>
   cases q with
   |cons p' q'=>
    cases q' with
    |cons p'' Zl=>
     cases Zl;exact⟨_,_,_,rfl,p,p',p''⟩
 refine wpAny_newObj_type ?_ (by show 3<=sizeLine;decide);have I2:Inv X pins σ H1 {s1 with heap:=s1.heap.push {cls:= .type "tuple",data:= .seq [u1,u2,u3].toArray}}:=I1.kept (t':=s1.toks) λb o e=>Heap.get?_push_of_some _ e;rw[hw];refine wpAny_bind (wpAny_pure ?_);show wpAny (model X.prog X.w) X.A (do rule "assign.swapped-stores";let items<-unpackItems (.ref s1.heap.objs.size) 3 none;assignInOrder [λv=>bindName X.env z v,λv=>bindName X.env y v,λv=>bindName X.env x v] items.reverse;pure Flow.next) _ _ _;refine wpAny_bind (wpAny_rule (wpAny_bind (unpackItems_tuple (items:= #[u1,u2,u3]) (I.ok.hd hc) (IsTup.new s1.heap _) λh' hx'=> ?_)));have I3:=I2.kept (h':=h') (t':=s1.toks) λb o e=>hx' b o (aaI (Heap.lt_size e)) e;show wpAny _ _ (assignInOrder [λv=>bindName X.env z v,λv=>bindName X.env y v,λv=>bindName X.env x v] [u3,u2,u1]>>=λ_=>pure Flow.next) _ _ _;refine wpAny_bind (assignInOrder_cons (wpAny_bindName (kq I3 hN hk (.inl hz) ru (λs2 I4=> ?_) (.inr hz))));refine assignInOrder_cons (wpAny_bindName (kq I4 hN hj (.inl hy) rw' (λs3 I5=> ?_) (.inr hy)));refine assignInOrder_cons (wpAny_bindName (kq I5 hN hi (.inl hx) rv (λs4 I6=>assignInOrder_nil (wpAny_pure ?_)) (.inr hx)));have e:((σ.set k (some u)).set j (some w)).set i (some v)=((σ.set i (some v)).set j (some w)).set k (some u):=by
  rw[adk _ _ (Ne.symm hjk),adk _ _ (Ne.symm hik),adk _ _ (Ne.symm hij)]
 rw[e]at I6;exact⟨_,H1,I6,q1⟩
end
noncomputable def nC(a b c p q r:Int):List (List Int):=mk3 λi j=>match i,j with|0,0=>a|0,1=>p|0,_=>q|1,0=>p|1,1=>b|1,_=>r|_,0=>q|_,1=>r|_,_=>c
theorem JS(a b c p q r:Int):aA (nC a b c p q r)=a*b*c+2*(p*q*r) -a*(r*r) -b*(q*q) -c*(p*p):=by
 rw[dJ];show a*(b*c-r*r)+p*(r*q-p*c)+q*(p*r-b*q)=_
 grind
theorem FN{n:Nat}{a b c p q r:Int}(ha:a.natAbs<2^n)(hb:b.natAbs<2^n)(hc:c.natAbs<2^n)(hp:p.natAbs<2^n)(hq:q.natAbs<2^n)(hr:r.natAbs<2^n):Bd n (nC a b c p q r):=λi j hi hj=>by
 unfold nC;rw[cZ _ hi hj];rcases aW hi with rfl|rfl|rfl<;>rcases aW hj with rfl|rfl|rfl<;>assumption
theorem yP(a b c p q r:Int):br (nC (2*a) (2*b) (2*c) p q r):=⟨⟨rfl,rfl,rfl⟩,a,b,c,rfl,rfl,rfl⟩
theorem SJ{p a:Int}(h: -a<=p)(h':p<=a):p*p<=a*a:=by
 have h1:0<=a-p:=by omega
 have h2:0<=a+p:=by omega
 have:=Rg h1 h2
 grind
theorem Ds{H:Hp}{a b c d:Addr}{x y z:HO}(h0:H a=none)(h1:upd H a x b=none)(h2:upd (upd H a x) b y c=none)(h3:upd (upd (upd H a x) b y) c z d=none):H d=none/\(∀e∈ [a,b,c],H e=none)/\d∉ [a,b,c]:=by
 have s0:ay H (upd H a x):=ay.up h0;have s1:ay (upd H a x) (upd (upd H a x) b y):=ay.up h1;have s2:ay (upd (upd H a x) b y) (upd (upd (upd H a x) b y) c z):=ay.up h2;refine⟨(s0.trans (s1.trans s2)).none h3,λe he=> ?_,λhd=> ?_⟩
 ·simp only[aar,aaJ,or_false]at he
  rcases he with rfl|rfl|rfl
  ·exact h0
  ·exact s0.none h1
  ·exact(s0.trans s1).none h2
 ·simp only[aar,aaJ,or_false]at hd
  rcases hd with rfl|rfl|rfl
  ·have:=(s1.trans s2) _ _ (ao (H:=H) (a:=d) (o:=x));rw[h3]at this;cases this
  ·have:=s2 _ _ (ao (H:=upd H a x) (a:=d) (o:=y));rw[h3]at this;cases this
  ·rw[ao]at h3;cases h3
noncomputable def x6(m:List (List Int))(i:Nat)(g:Nat->Int):List (List Int):=mk3 λr s=>if r=i then g s else ent m r s
theorem zR{H:Hp}{D R:Addr}{bs:List Addr}{m:List (List Int)}{i:Nat}{g:Nat->Int}(hT:Tab H D bs m)(cg:aY m)(hi:i<3)(hR:H R=some (.lst [.int (g 0),.int (g 1),.int (g 2)]))(nR:R≠D)(nD:D∉bs):
  Tab (upd H D (.lst ((bs.map V.ref).set i (.ref R)))) D (bs.set i R) (x6 m i g):=by
 obtain⟨b0,x1,x2,_⟩:=bC hT cg (i:=0) (by decide);obtain⟨b1,y1,y2,_⟩:=bC hT cg (i:=1) (by decide);obtain⟨b2,w1,w2,_⟩:=bC hT cg (i:=2) (by decide);have hl3:bs.length=3:=by rw[<-hT.2.length,cg.1]
 obtain⟨a0,a1,a2,rfl⟩:∃a0 a1 a2,bs=[a0,a1,a2]:=by
  match bs,hl3 with
  | [a,b,c],_=>exact⟨a,b,c,rfl⟩
 obtain rfl:a0=b0:=V.ref.inj (Option.some.inj x1);obtain rfl:a1=b1:=V.ref.inj (Option.some.inj y1);obtain rfl:a2=b2:=V.ref.inj (Option.some.inj w1);have n0:a0≠D:=λz=>nD (by rw[<-z];simp);have n1:a1≠D:=λz=>nD (by rw[<-z];simp);have n2:a2≠D:=λz=>nD (by rw[<-z];simp);rcases aW hi with rfl|rfl|rfl
 ·exact nv _ ao (by rw[aH nR];exact hR) (by rw[aH n1];exact y2) (by rw[aH n2];exact w2)
 ·exact nv _ ao (by rw[aH n0];exact x2) (by rw[aH nR];exact hR) (by rw[aH n2];exact w2)
 ·exact nv _ ao (by rw[aH n0];exact x2) (by rw[aH n1];exact y2) (by rw[aH nR];exact hR)
theorem cX(m:List (List Int)){i r s:Nat}(g:Nat->Int)(hr:r<3)(hs:s<3):ent (x6 m i g) r s=if r=i then g s else ent m r s:=cZ _ hr hs
theorem Na(m:List (List Int)){i j:Nat}(hi:i<3)(hj:j<3)(hij:i≠j)(o:Int):aA (x6 m i λs=>ent m i s+o*ent m j s)=aA m:=by
 rw[dJ,dJ];simp only[cX m _ (show 0<3 by decide) (show 0<3 by decide),cX m _ (show 0<3 by decide) (show 1<3 by decide),cX m _ (show 0<3 by decide) (show 2<3 by decide),cX m _ (show 1<3 by decide) (show 0<3 by decide),cX m _ (show 1<3 by decide) (show 1<3 by decide),cX m _ (show 1<3 by decide) (show 2<3 by decide),cX m _ (show 2<3 by decide) (show 0<3 by decide),cX m _ (show 2<3 by decide) (show 1<3 by decide),cX m _ (show 2<3 by decide) (show 2<3 by decide)];rcases aW hi with rfl|rfl|rfl<;>rcases aW hj with rfl|rfl|rfl<;>first|(exact absurd rfl hij)|(simp only[adn,if_true,if_false];grind)
structure FE(X:Cx)(e:Expr)(t:TE):Prop where
 h:PE X e t
structure FA(X:Cx)(es:List Expr)(t:TA):Prop where
 h:PA X es t
variable{X:Cx}
theorem fm{i j pos}:FE X (.Constant (.int i) j pos) (tC (.int i)):=⟨ak⟩
theorem fe{e t}(h:PE X e t):FE X e t:=⟨h⟩
theorem lT:FA X [] jB:=⟨ah⟩
theorem bZ{e es te t}(ha:FE X e te)(hr:FA X es t)(hs:starEach (e::es) X.env=(false,eval e X.env)::starEach es X.env):FA X (e::es) (cV te t):=⟨af ha.h hr.h hs⟩
theorem lU{es t pos}(h:FA X es t):FE X (.List es pos) (Sa t):=⟨eU h.h⟩
theorem JT{i:Nat}{x:Str}{e:Expr}{te:TE}{pos' pos:Pos}{b:List Stmt}{tb:TS}(hN:X.N.Nodup)(hi:X.N[i]?=some x)(hx:Loc X.env.scope x)(he:FE X e te)(hs:swapsWith e (some (.Name x pos')) pos.line X.env=pure false)(hf:X.fn x=true∨X.env.scope.names.lookup x=some .local)(hb:JO X b tb):
  JO X (.Assign [.Name x pos'] e pos::b) (CT (Ja te (dP i)) tb):=az (aV hN hi hx he.h hs hf) hb
theorem JU{e:Expr}{te:TE}{pos:Pos}(he:FE X e te):JO X [.Return (some e) pos] (RJ te):=aP (aU he.h)
theorem toF{st:List Stmt}{R:TS->Prop}(h:∃t,JO X st t/\R t):∃t,zC X st t/\R t:=by
 obtain⟨t,a,b⟩:=h;exact⟨t,a.h,b⟩
noncomputable def bQ(m:List (List Int)):Bool:=decide (0<ent m 0 0) && (decide (ent m 0 1*ent m 0 1<ent m 0 0*ent m 1 1) && decide (0<aA m))
theorem jl{m:List (List Int)}(h:dI m=m){i j:Nat}(hi:i<3)(hj:j<3):ent m j i=ent m i j:=by
 rw[<-bf m hi hj,h]
theorem SK(m:List (List Int)):au m (λi=>if i=0 then 1 else 0) (λi=>if i=0 then 1 else 0)=ent m 0 0:=by
 rw[aT];simp
theorem SM{m:List (List Int)}(h:dI m=m)(x:Nat->Int)(h0:x 0= -ent m 0 1)(h1:x 1=ent m 0 0)(h2:x 2=0):au m x x=ent m 0 0*(ent m 0 0*ent m 1 1-ent m 0 1*ent m 0 1):=by
 rw[aT,h0,h1,h2,jl h (i:=0) (j:=1) (by decide) (by decide)]
 grind
theorem SN(m:List (List Int)):au m (λj=>ent (iX m) 2 j) (λj=>ent (iX m) 2 j)=aA m*ent (iX m) 2 2:=by
 have e:∀j,j<3->ent (iX m) 2 0*ent m 0 j+ent (iX m) 2 1*ent m 1 j+ent (iX m) 2 2*ent m 2 j=if 2=j then aA m else 0:=λj hj=>by
  rw[<-aS _ _ (by decide) hj,Bu,kI,cZ _ (by decide) hj]
 have e0:=e 0 (by decide);have e1:=e 1 (by decide);have e2:=e 2 (by decide);rw[if_neg (by decide)]at e0 e1;rw[if_pos rfl]at e2;rw[aT,<-e2]
 grind
theorem OI(m:List (List Int)):ent (iX m) 2 2=ent m 0 0*ent m 1 1-ent m 0 1*ent m 1 0:=by
 rw[kJ m (by decide) (by decide)]
 rfl
theorem JV{H:Hp}{a b c:Addr}{x y:HO}(h0:H a=none)(h1:upd H a x b=none)(h2:upd (upd H a x) b y c=none): [a,b,c].Nodup:=by
 have n1:a≠b:=λe=>by rw[e,ao]at h1;cases h1
 have n2:b≠c:=λe=>by rw[e,ao]at h2;cases h2
 have n3:a≠c:=λe=>by rw[aH (λz=>n2 z.symm),e,ao]at h2;cases h2
 simp[n1,n2,n3]
theorem Qg{a:Bool}{X A B:Prop}(hB:B)(h:a=true->B->X):if a=true then X else(if false=true then A else B):=by
 cases a with
 |false=>exact oB (oB hB)
 |true=>exact wg (h rfl hB)
section
variable{X:Cx}
end
noncomputable def wF(x:Nat->Int)(b:List (List Int)):Nat->Int:=λj=>x 0*ent b 0 j+x 1*ent b 1 j+x 2*ent b 2 j
theorem Hr(b m:List (List Int))(x y:Nat->Int):au (fY b m) x y=au m (wF x b) y:=by
 rw[aT,aT];unfold wF;simp only[aS b m (show 0<3 by decide) (show 0<3 by decide),aS b m (show 0<3 by decide) (show 1<3 by decide),aS b m (show 0<3 by decide) (show 2<3 by decide),aS b m (show 1<3 by decide) (show 0<3 by decide),aS b m (show 1<3 by decide) (show 1<3 by decide),aS b m (show 1<3 by decide) (show 2<3 by decide),aS b m (show 2<3 by decide) (show 0<3 by decide),aS b m (show 2<3 by decide) (show 1<3 by decide),aS b m (show 2<3 by decide) (show 2<3 by decide)]
 grind
theorem Dt(b m:List (List Int))(x y:Nat->Int):au (fY m (dI b)) x y=au m x (wF y b):=by
 rw[aT,aT];unfold wF;simp only[aS m (dI b) (show 0<3 by decide) (show 0<3 by decide),aS m (dI b) (show 0<3 by decide) (show 1<3 by decide),aS m (dI b) (show 0<3 by decide) (show 2<3 by decide),aS m (dI b) (show 1<3 by decide) (show 0<3 by decide),aS m (dI b) (show 1<3 by decide) (show 1<3 by decide),aS m (dI b) (show 1<3 by decide) (show 2<3 by decide),aS m (dI b) (show 2<3 by decide) (show 0<3 by decide),aS m (dI b) (show 2<3 by decide) (show 1<3 by decide),aS m (dI b) (show 2<3 by decide) (show 2<3 by decide),
  bf b (show 0<3 by decide) (show 0<3 by decide),bf b (show 0<3 by decide) (show 1<3 by decide),bf b (show 0<3 by decide) (show 2<3 by decide),bf b (show 1<3 by decide) (show 0<3 by decide),bf b (show 1<3 by decide) (show 1<3 by decide),bf b (show 1<3 by decide) (show 2<3 by decide),bf b (show 2<3 by decide) (show 0<3 by decide),bf b (show 2<3 by decide) (show 1<3 by decide),bf b (show 2<3 by decide) (show 2<3 by decide)]
 grind
theorem yQ(m b:List (List Int))(x y:Nat->Int):au (aX m b) x y=au m (wF x b) (wF y b):=by
 unfold aX;rw[Dt,Hr]
theorem zS{a b:Int}(h:0<a*b)(ha:0<a):0<b:=by
 rcases abH 0 b with z|z
 ·exact z
 ·have:=acp (show 0<=a by omega) z
  omega
noncomputable def Du(m:List (List Int)):Prop:=∀x:Nat->Int,¬(x 0=0/\x 1=0/\x 2=0) ->0<au m x x
theorem yR{m:List (List Int)}(hS:dI m=m)(h:Du m):bQ m=true:=by
 have c1:0<ent m 0 0:=by
  have:=h (λi=>if i=0 then 1 else 0) (λz=>by simp at z);rw[SK]at this;exact this
 have c2:ent m 0 1*ent m 0 1<ent m 0 0*ent m 1 1:=by
  have:=h (λi=>match i with|0=> -ent m 0 1|1=>ent m 0 0|_=>0) (λz=>by have y:ent m 0 0=0:=z.2.1;omega);rw[SM hS _ rfl rfl rfl]at this;have:=zS this c1;omega
 have Xx:0<ent (iX m) 2 2:=by
  rw[OI,jl hS (i:=0) (j:=1) (by decide) (by decide)];omega
 have c3:0<aA m:=by
  have:=h (λj=>ent (iX m) 2 j) (λz=>by have y:ent (iX m) 2 2=0:=z.2.2;omega);rw[SN]at this;exact zS (by rw[abb];exact this) Xx
 unfold bQ;rw[decide_eq_true c1,decide_eq_true c2,decide_eq_true c3]
 rfl
theorem gU{m:List (List Int)}(h:bQ m=true):0<ent m 0 0/\ent m 0 1*ent m 0 1<ent m 0 0*ent m 1 1/\0<aA m:=by
 unfold bQ at h;simp only[aa5,decide_eq_true_eq]at h;exact⟨h.1,h.2.1,h.2.2⟩
theorem bI(a:Int):0<=a*a:=by
 rcases abc 0 a with h|h
 ·exact Rg h h
 ·have:=Rg (show 0<= -a by omega) (show 0<= -a by omega)
  rwa [ab9]at this
theorem zT{a:Int}(h:a*a<=0):a=0:=by
 have:=bI a;have:a*a=0:=by omega
 rcases acw.mp this with z|z<;>exact z
theorem JX{m:List (List Int)}(hS:dI m=m)(x:Nat->Int):ent m 0 0*(ent m 0 0*ent m 1 1-ent m 0 1*ent m 0 1)*au m x x=
  (ent m 0 0*ent m 1 1-ent m 0 1*ent m 0 1)*((ent m 0 0*x 0+ent m 0 1*x 1+ent m 0 2*x 2)*(ent m 0 0*x 0+ent m 0 1*x 1+ent m 0 2*x 2))
  +((ent m 0 0*ent m 1 1-ent m 0 1*ent m 0 1)*x 1+(ent m 0 0*ent m 1 2-ent m 0 1*ent m 0 2)*x 2)*((ent m 0 0*ent m 1 1-ent m 0 1*ent m 0 1)*x 1+(ent m 0 0*ent m 1 2-ent m 0 1*ent m 0 2)*x 2)
  +ent m 0 0*aA m*(x 2*x 2):=by
 rw[aT,dJ,jl hS (i:=0) (j:=1) (by decide) (by decide),jl hS (i:=0) (j:=2) (by decide) (by decide),jl hS (i:=1) (j:=2) (by decide) (by decide)];generalize ent m 0 0=a,ent m 0 1=p,ent m 0 2=q,ent m 1 1=b,ent m 1 2=r,ent m 2 2=c;generalize x 0=u,x 1=v,x 2=w
 grind
theorem kg{m:List (List Int)}(hS:dI m=m)(h:bQ m=true):Du m:=by
 intro x n0;obtain⟨c1,c2,c3⟩:=gU h;have e:=JX hS x;have f1:0<ent m 0 0*ent m 1 1-ent m 0 1*ent m 0 1:=by omega
 generalize ent m 0 0*ent m 1 1-ent m 0 1*ent m 0 1=fl at e f1;have q1:=bI (ent m 0 0*x 0+ent m 0 1*x 1+ent m 0 2*x 2);have q2:=bI (fl*x 1+(ent m 0 0*ent m 1 2-ent m 0 1*ent m 0 2)*x 2);have q3:=bI (x 2);have r1:=Rg (show 0<=fl by(clear q3 q2 q1 e c3 c2 c1 n0 h hS;omega)) q1;have d1:=abT c1 c3;have r3:=Rg (show 0<=ent m 0 0*aA m by(clear r1 q3 q2 q1 f1 e c3 c2 c1 n0 h hS;omega)) q3;have g1:=abT c1 f1;refine zS ?_ g1;rcases abH 0 (ent m 0 0*fl*au m x x)with z|z
 ·exact z
 ·exfalso
  have s3:ent m 0 0*aA m*(x 2*x 2)<=0:=by(clear g1 r3 d1 q3 q1 f1 c3 c2 c1 n0 h hS;omega)
  have s2:=zT (a:=fl*x 1+(ent m 0 0*ent m 1 2-ent m 0 1*ent m 0 2)*x 2) (by(clear g1 d1 q3 q2 q1 f1 c3 c2 c1 n0 h hS;omega));have s1:fl*((ent m 0 0*x 0+ent m 0 1*x 1+ent m 0 2*x 2)*(ent m 0 0*x 0+ent m 0 1*x 1+ent m 0 2*x 2))<=0:=by(clear s2 g1 d1 r1 q3 q1 f1 c3 c2 c1 n0 h hS;omega)
  have x2:x 2=0:=by
   refine zT ?_;rcases abH 0 (x 2*x 2)with y|y
   ·have:=abT d1 y
    omega
   ·exact y
  rw[x2,adE,ad8]at s2;have x1:x 1=0:=by
   rcases acw.mp s2 with y|y
   ·omega
   ·exact y
  rw[x1,x2,adE,adE,ad8,ad8]at s1;have x0:x 0=0:=by
   have:ent m 0 0*x 0=0:=by
    refine zT ?_;rcases abH 0 (ent m 0 0*x 0*(ent m 0 0*x 0))with y|y
    ·have:=abT f1 y
     omega
    ·exact y
   rcases acw.mp this with y|y
   ·omega
   ·exact y
  exact n0 ⟨x0,x1,x2⟩
theorem Dv(b:List (List Int)):aA (dI b)=aA b:=by
 rw[dJ,dJ];simp only[bf b (show 0<3 by decide) (show 0<3 by decide),bf b (show 0<3 by decide) (show 1<3 by decide),bf b (show 0<3 by decide) (show 2<3 by decide),bf b (show 1<3 by decide) (show 0<3 by decide),bf b (show 1<3 by decide) (show 1<3 by decide),bf b (show 1<3 by decide) (show 2<3 by decide),bf b (show 2<3 by decide) (show 0<3 by decide),bf b (show 2<3 by decide) (show 1<3 by decide),bf b (show 2<3 by decide) (show 2<3 by decide)]
 grind
noncomputable def cy(d:Int):Prop:=d=1∨d= -1
theorem wG{m b:List (List Int)}(hb:cy (aA b)):aA (aX m b)=aA m:=by
 unfold aX;rw[mL,mL,Dv];rcases hb with h|h<;>rw[h]<;>omega
noncomputable def lI(b:List (List Int)):List (List Int):=mk3 λi j=>aA b*ent (iX b) i j
theorem yS{b:List (List Int)}(hb:cy (aA b)):fY (lI b) b=kI 1:=by
 have e:=Bu b;have h2:aA b*aA b=1:=by rcases hb with h|h<;>rw[h]<;>rfl
 refine fU λi j hi hj=> ?_;have e':ent (fY (iX b) b) i j=ent (kI (aA b)) i j:=by rw[e]
 rw[aS _ _ hi hj,kI,cZ _ hi hj]at e';unfold lI;rw[cZ _ hi (show 0<3 by decide),cZ _ hi (show 1<3 by decide),cZ _ hi (show 2<3 by decide)];have:aA b*ent (iX b) i 0*ent b 0 j+aA b*ent (iX b) i 1*ent b 1 j+aA b*ent (iX b) i 2*ent b 2 j=aA b*(ent (iX b) i 0*ent b 0 j+ent (iX b) i 1*ent b 1 j+ent (iX b) i 2*ent b 2 j):=by grind
 rw[this,e']
 split
 ·exact h2
 ·exact adE _
theorem yT{m:List (List Int)}(h:aY m):fY (kI 1) m=m:=by
 rw[kG h];refine fU λi j hi hj=> ?_;unfold kI;rw[cZ _ hi (show 0<3 by decide),cZ _ hi (show 1<3 by decide),cZ _ hi (show 2<3 by decide),<-kG h];rcases aW hi with rfl|rfl|rfl<;>simp
theorem yU:dI (kI 1)=kI 1:=rfl
theorem wH{m:List (List Int)}(h:aY m):fY m (kI 1)=m:=by
 rw[kG h];refine fU λi j hi hj=> ?_;unfold kI;rw[cZ _ (show 0<3 by decide) hj,cZ _ (show 1<3 by decide) hj,cZ _ (show 2<3 by decide) hj,<-kG h];rcases aW hj with rfl|rfl|rfl<;>simp
theorem rj{m b:List (List Int)}(hm:aY m)(hb:cy (aA b)):aX (aX m b) (lI b)=m:=by
 rw[kc,yS hb];unfold aX;rw[yU,yT hm,wH hm]
theorem JY{b:List (List Int)}(hb:cy (aA b))(x:Nat->Int)(h:wF x b 0=0/\wF x b 1=0/\wF x b 2=0):x 0=0/\x 1=0/\x 2=0:=by
 obtain⟨h0,h1,h2⟩:=h;unfold wF at h0 h1 h2;have d0:aA b≠0:=by rcases hb with z|z<;>rw[z]<;>decide
 have k:∀z:Int,aA b*z=0->z=0:=λz e=>by
  rcases acw.mp e with y|y
  ·exact absurd y d0
  ·exact y
 refine⟨k _ ?_,k _ ?_,k _ ?_⟩<;>rw[dJ]<;>grind
theorem JZ{m b:List (List Int)}(h:Du m)(hb:cy (aA b)):Du (aX m b):=λx n0=>by
 rw[yQ];exact h _ λz=>n0 (JY hb x z)
theorem qc{m b:List (List Int)}(hS:dI m=m)(h:bQ m=true)(cb:aY b)(hb:cy (aA b)):bQ (aX m b)=true:=
 yR ((yN b cb).trans (congrArg (aX · b) hS)) (JZ (kg hS h) hb)
theorem fG{m:List (List Int)}(h:br m)(c:aY m):dI m=m:=by
 obtain⟨⟨s1,s2,s3⟩,_⟩:=h
 conv=>rhs;rw[kG c]
 refine fU λi j hi hj=> ?_;rcases aW hi with rfl|rfl|rfl<;>rcases aW hj with rfl|rfl|rfl<;>first|rfl|assumption|(symm;assumption)
theorem jr(m b:List (List Int)){i j:Nat}(hi:i<3)(hj:j<3):ent (aX m b) i j=au m (λk=>ent b i k) (λk=>ent b j k):=by
 unfold aX;rw[aS _ _ hi hj,aS _ _ hi (by decide),aS _ _ hi (by decide),aS _ _ hi (by decide),bf b (by decide) hj,bf b (by decide) hj,bf b (by decide) hj,aT]
 grind
theorem r9{m b:List (List Int)}(h:br m)(c:aY m)(cb:aY b):br (aX m b):=by
 have hS:=(yN b cb).trans (congrArg (aX · b) (fG h c));refine⟨⟨jl hS (i:=0) (j:=1) (by decide) (by decide),jl hS (i:=0) (j:=2) (by decide) (by decide),jl hS (i:=1) (j:=2) (by decide) (by decide)⟩,cN m (λk=>ent b 0 k),cN m (λk=>ent b 1 k),cN m (λk=>ent b 2 k),?_,?_,?_⟩<;>rw[jr m b (by decide) (by decide),fV h]
theorem wI{a b c p q r:Int}(ha:0<a)(hab:a<=b)(hp: -a<=p)(lD:p<=a)(hd:0<aA (nC (2*a) (2*b) (2*c) p q r)):bQ (nC (2*a) (2*b) (2*c) p q r)=true:=by
 have h1:=SJ hp lD;have h2:a*a<=a*b:=aal hab (by omega);have h3:0<a*b:=abT ha (by omega);have h4:p*p<2*a*(2*b):=by
  have:2*a*(2*b)=4*(a*b):=by grind
  (clear hd lD hp hab ha;omega)
 unfold bQ;rw[decide_eq_true hd,decide_eq_true (p:=0<ent (nC (2*a) (2*b) (2*c) p q r) 0 0) (by show 0<2*a;omega),decide_eq_true (p:=ent (nC (2*a) (2*b) (2*c) p q r) 0 1*ent (nC (2*a) (2*b) (2*c) p q r) 0 1<ent (nC (2*a) (2*b) (2*c) p q r) 0 0*ent (nC (2*a) (2*b) (2*c) p q r) 1 1) h4]
 rfl
theorem Ka{b:List (List Int)}{n:Nat}(h:Bd n b)(hb:cy (aA b)):Bd (n+n+2) (lI b):=λi j hi hj=>by
 unfold lI;rw[cZ _ hi hj,kJ b hi hj];exact aK (cu (show(aA b).natAbs<2^1 by rcases hb with z|z<;>rw[z]<;>decide) (nk h j i)) (by omega)
section
variable{X:Cx}{sc:Scope}{N2:List Str}{x y:Str}{px FJ tpos:Pos}{x1:Nat}{elt iter:Expr}{jD p pos:Pos}{wi:TI}{te:TE}{P:Addr}
end
mutual
inductive DV(H:Hp):V->PyData->Prop
 |gF:DV H .gF .none
 |bl(b:Bool):DV H (.bl b) (.bool b)
 |int(i:Int):DV H (.int i) (.int i)
 |str(x:Str):DV H (.str x) (.str x)
 |lst{a:Addr}{xs:List V}{ds:List PyData}:H a=some (.lst xs) ->Bw H xs ds->DV H (.ref a) (.list ds)
 |tup{a:Addr}{xs:List V}{ds:List PyData}:H a=some (.tup xs) ->Bw H xs ds->DV H (.ref a) (.tuple ds)
inductive Bw(H:Hp):List V->List PyData->Prop
 |nil:Bw H [] []
 |cons{x:V}{d:PyData}{xs:List V}{ds:List PyData}:DV H x d->Bw H xs ds->Bw H (x::xs) (d::ds)
end
mutual
theorem DV.same{H H':Hp}(s:ay H H'):∀{x:V}{d:PyData},DV H x d->DV H' x d
 |_,_,.gF=> .gF
 |_,_,.bl b=> .bl b
 |_,_,.int i=> .int i
 |_,_,.str x=> .str x
 |_,_,.lst e q=> .lst (s _ _ e) (Bw.same s q)
 |_,_,.tup e q=> .tup (s _ _ e) (Bw.same s q)
theorem Bw.same{H H':Hp}(s:ay H H'):∀{xs:List V}{ds:List PyData},Bw H xs ds->Bw H' xs ds
 |_,_,.nil=> .nil
 |_,_,.cons a q=> .cons (DV.same s a) (Bw.same s q)
end
theorem Bw.length{H:Hp}:∀{xs:List V}{ds:List PyData},Bw H xs ds->xs.length=ds.length
 |_,_,.nil=>rfl
 |_,_,.cons _ q=>congrArg (· +1) (Bw.length q)
theorem Bw.get{H:Hp}:∀{xs:List V}{ds:List PyData}{i:Nat}{x:V},Bw H xs ds->xs[i]?=some x-> ∃d,ds[i]?=some d/\DV H x d
 |_,_,0,_,.cons a q,e=>by cases e;exact⟨_,rfl,a⟩
 |_,_,i+1,_,.cons a q,e=>Bw.get (i:=i) q (by simpa using e)
theorem Dw{J:It}{H1:Hp}{xs:List V}{σ:St}{te:TE}{Q:VK}(jw:JW J H1 xs)(hz:xs.length<=sizeLine){D:Addr}(hD:H1 D=none)(f:V->HO)
  (hs:∀x∈xs,∀H' (Q':VK),ay H1 H'->(∀b H2,H' b=none->ay H' H2->H2 b=some (f x) ->Q' (.ref b) H2) ->te (some x::σ) H' Q')
  (hq:∀bs H',ay H1 H'->H' D=some (.lst (bs.map V.ref)) ->(∀b∈bs,H1 b=none) ->D∉bs->bs.Nodup->Paired (λx b=>H' b=some (f x)) xs bs->Q (.ref D) H'):
  lQ 1 (dP 0) te σ J H1 D Q:=by
 refine qZ jw hz hD (λpre acc H'=> ∃bs:List Addr,acc=bs.map V.ref/\(∀b∈bs,H1 b=none/\H' b≠none)/\D∉bs/\bs.Nodup/\Paired (λx b=>H' b=some (f x)) pre bs) ⟨[],rfl,λ_ h=>(nomatch h),by simp,ab3,.nil⟩ (λpre x post acc H' Q' e hl sm eD p k=> ?_) (λacc H' hl sm eD p=> ?_)
 ·obtain⟨bs,rfl,fr,nD,nn,pr⟩:=p
  refine hs x (by rw[e];simp) H' _ sm λb H2 hb s2 eb=> ?_;have nb:b≠D:=λz=>by rw[z,eD]at hb;cases hb
  refine k _ _ s2 ⟨bs++ [b],by simp,?_,?_,?_,?_⟩
  ·intro c hc
   rcases aaE.mp hc with z|z
   ·refine⟨(fr c z).1,λy=> ?_⟩
    rw[aH (λw=>nD (by rw[<-w];exact z))]at y;exact(fr c z).2 (s2.none y)
   ·rw[aap.mp z]
    refine⟨sm.none hb,λy=> ?_⟩;rw[aH nb,eb]at y;cases y
  ·intro z
   rcases aaE.mp z with z|z
   ·exact nD z
   ·exact nb (aap.mp z).symm
  ·rw[abn]
   refine⟨nn,by simp,λc hc d hd z=> ?_⟩;rw[aap.mp hd]at z;exact(fr c hc).2 (by rw[z];exact hb)
  ·refine Paired.snoc (pr.Dm λy c hc q=> ?_) (by rw[aH nb];exact eb)
   rw[aH (λz=>nD (by rw[<-z];exact hc))];exact s2 _ _ q
 ·obtain⟨bs,rfl,fr,nD,nn,pr⟩:=p
  exact hq bs H' sm eD (λb hb=>(fr b hb).1) nD nn pr
theorem Bx{K:PySem.W.Frag}{H:Hp}{t:Addr}{bs:List Addr}{m:List (List Int)}{σ:St}{Q:VK}(h:Tab H t bs m)(hz:m.length<=sizeLine){D:Addr}(hD:H D=none)
  (hq:∀bs' H',ay H H'->(∀b∈bs',H b=none) ->D∉bs'->bs'.Nodup->Tab H' D bs' m->Q (.ref D) H'):lQ 1 (dP 0) (Pz (zN K) (cV (bU 0) jB)) σ (Mu K t) H D Q:=by
 refine Dw (ji (aZ.of h.1)) (by rw[aau,<-h.2.length];exact hz) hD (λx=> .lst (itemsOf H id x)) (λx hx H' Q' sm k=> ?_) (λbs' H' sm eD fr nD nn pr=> ?_)
 ·obtain⟨b,rfl,hb⟩:=mJ hx
  obtain⟨row,Zm,eb⟩:=Qc h.2 hb;refine⟨_,rfl,b,_,rfl,.inl (aZ.of (sm _ _ eb)),λl hl=>k l _ hl (ay.up hl) ?_⟩;rw[ao,uH eb,adT]
 ·refine hq bs' H' sm fr nD nn ⟨eD,?_⟩
  have:=yM (g:=id) h.2 pr λrow b e=>by rw[uH e,adT];rfl
  rwa [adT]at this
section
variable{X:Cx}
theorem SO{r:R2}{e i:Expr}{te ti:TE}{pos:Pos}(hr:Uv X r)(he:FE X e te)(hi:PE X i ti)(hs:∀v u,subscripted i false v u=operate [v,u] (getItem v u)):FE X (.Subscript e i pos) (ku r te ti):=⟨aO hr he.h hi hs⟩
theorem eE:JO X [] Ot:=⟨Ms⟩
end
theorem eF{X:Cx}{c:Expr}{a b:List Stmt}{tc:TT}{t u:TS}{pos:Pos}(hc:PT X c tc)(ha:JO X a t)(hb:JO X b u):PS X (.If c a b pos) (RK tc t u):=RL hc ha.h hb.h
theorem Kc{J:It}{xs:List V}{H1:Hp}{σ:St}{te:TE}{Q:VK}{D:Addr}(jw:JW J H1 xs)(h3:xs.length=3)(hD:H1 D=none)(g:Nat->Nat->Int)
  (hs:∀i x,i<3->xs[i]?=some x-> ∀H' (Q':VK),ay H1 H'->(∀b H2,H' b=none->ay H' H2->H2 b=some (.lst [.int (g i 0),.int (g i 1),.int (g i 2)]) ->Q' (.ref b) H2) ->te (some x::σ) H' Q')
  (hq:∀bs H',ay H1 H'->(∀b∈bs,H1 b=none) ->D∉bs->bs.Nodup->Tab H' D bs (mk3 g) ->Q (.ref D) H'):lQ 1 (dP 0) te σ J H1 D Q:=by
 refine qZ jw (by rw[h3];decide) hD (λpre acc H'=> ∃bs:List Addr,acc=bs.map V.ref/\(∀b∈bs,H1 b=none/\H' b≠none)/\D∉bs/\bs.Nodup/\Paired (λi b=>H' b=some (.lst [.int (g i 0),.int (g i 1),.int (g i 2)])) (abx pre.length) bs) ⟨[],rfl,λ_ h=>(nomatch h),by simp,ab3,.nil⟩ (λpre x post acc H' Q' e hl sm eD p k=> ?_) (λacc H' hl sm eD p=> ?_)
 ·obtain⟨bs,rfl,fr,nD,nn,pr⟩:=p
  have hlen:pre.length<3:=by
   have:=congrArg adP e;rw[h3]at this;simp at this;omega
  refine hs pre.length x hlen (by rw[e];simp) H' _ sm λb H2 hb s2 eb=> ?_;have nb:b≠D:=λz=>by rw[z,eD]at hb;cases hb
  refine k _ _ s2 ⟨bs++ [b],by simp,?_,?_,?_,?_⟩
  ·intro c hc
   rcases aaE.mp hc with z|z
   ·refine⟨(fr c z).1,λy=> ?_⟩
    rw[aH (λw=>nD (by rw[<-w];exact z))]at y;exact(fr c z).2 (s2.none y)
   ·rw[aap.mp z]
    refine⟨sm.none hb,λy=> ?_⟩;rw[aH nb,eb]at y;cases y
  ·intro z
   rcases aaE.mp z with z|z
   ·exact nD z
   ·exact nb (aap.mp z).symm
  ·rw[abn]
   refine⟨nn,by simp,λc hc d hd z=> ?_⟩;rw[aap.mp hd]at z;exact(fr c hc).2 (by rw[z];exact hb)
  ·have er:abx (pre++ [x]).length=abx pre.length++ [pre.length]:=by simp[acv]
   rw[er];refine Paired.snoc (pr.Dm λy c hc q=> ?_) (by rw[aH nb];exact eb);rw[aH (λz=>nD (by rw[<-z];exact hc))];exact s2 _ _ q
 ·obtain⟨bs,rfl,fr,nD,nn,pr⟩:=p
  refine hq bs H' sm (λb hb=>(fr b hb).1) nD nn ⟨eD,?_⟩;rw[h3]at pr;have VY:Paired (λi b=>H' b=some (.lst [.int (g i 0),.int (g i 1),.int (g i 2)])) [0,1,2] bs:=pr
  cases VY with
  |cons h0 t0=>cases t0 with
   |cons h1 t1=>cases t1 with
    |cons h2 t2=>
     cases t2;exact .cons h0 (.cons h1 (.cons h2 .nil))
theorem Kd{c:Bool}{K:St->Hp->Prop}{A:Prop}{σ:St}{H:Hp}(P:St->Hp->Prop)(hK:∀σ' H',P σ' H'->K σ' H')(hA:c=true->(∀σ' H',P σ' H'->K σ' H') ->A)(hB:P σ H):if c=true then A else K σ H:=by
 cases c with
 |true=>exact wg (hA rfl hK)
 |false=>exact oB (hK _ _ hB)
theorem By(elt target iter c:Expr)(scope:Scope)(pos:Pos)(it acc:Value)(env:Env):
  compTurn (.ListComp elt [⟨target,iter,[c],0⟩] scope pos) 0 it acc env=(standAt iter.pos>>=λ_=>pyNext it>>=λr=>match r with
   |none=>pure (.done .next)
   |some v=>letOwnedTupleGo target it v>>=λ_=>assign target env v>>=λ_=>
    (forIn [c] true λc r=>if r=true then(do let ok<-isTrue c env (eval c env);pure (ForInStep.yield ok))else pure (ForInStep.yield r))>>=λok=>
     if ok=true then(eval elt env>>=λx=>call (.builtin "list.append") [acc,x]>>=λ_=>pure ())>>=λ_=>again (.compLoop (.ListComp elt [⟨target,iter,[c],0⟩] scope pos) 0 it acc env)
     else again (.compLoop (.ListComp elt [⟨target,iter,[c],0⟩] scope pos) 0 it acc env)):=by rfl
section
variable{prog:Program}{w:World}{A:Around}{R:Result->Shared->Prop}{s:Shared}
theorem pN{elt target iter c:Expr}{scope:Scope}{pos:Pos}{it acc:Value}{env:Env}(I:Nat->Shared->Prop)
  (turn:∀n s,I n s->wpAny (model prog w) A (pyNext it) (λr s₁=>match r with
   |none=>R (.ok .next) s₁
   |some v=>wpAny (model prog w) A (letOwnedTupleGo target it v) (λ_ s₁'=>wpAny (model prog w) A (assign target env v) (λ_ s₂=>wpAny (model prog w) A (isTrue c env (eval c env)) (λok s₂'=>
     if ok=true then wpAny (model prog w) A (eval elt env) (λx s₃=>wpAny (model prog w) A (call (.builtin "list.append") [acc,x]) (λ_ s₄=> ∃m,m<n/\I m s₄) (λ_ _=>False) s₃) (λ_ _=>False) s₂'
     else ∃m,m<n/\I m s₂') (λ_ _=>False) s₂) (λ_ _=>False) s₁') (λ_ _=>False) s₁) (λ_ _=>False) s)
  (n:Nat)(h:I n s):
  codeAny (model prog w) A (.compLoop (.ListComp elt [⟨target,iter,[c],0⟩] scope pos) 0 it acc env) R s:=by
 refine codeAny_loop rfl I (λn s hI=> ?_) n h;show wpAny _ _ ((compTurn (.ListComp elt [⟨target,iter,[c],0⟩] scope pos) 0 it acc env).onRaise (λx=>do noteFrame x env;theTreesLotGoes x)) _ _ s;refine wpAny_noted ?_;rw[By];refine wpAny_bind (wpAny_standAt (wpAny_bind (wpAny_mono (turn n s hI) (λr s₁ h₁=> ?_) λ_ _ h'=>h'.elim)))
 cases r with
 |none=>exact wpAny_pure h₁
 |some v=>
  refine wpAny_bind (wpAny_mono h₁ (λ_ s₁' h₁'=>wpAny_bind (wpAny_mono h₁' (λ_ s₂ h₂=> ?_) λ_ _ h'=>h'.elim)) λ_ _ h'=>h'.elim);refine wpAny_bind ?_;simp only[adB,acC,if_true];refine wpAny_bind (wpAny_bind (wpAny_mono h₂ (λok s₂' h₂'=>wpAny_pure (wpAny_pure ?_)) λ_ _ h'=>h'.elim))
  cases ok with
  |true=>
   rw[if_pos rfl]at h₂';show wpAny _ _ _ _ _ _;refine wpAny_bind (wpAny_bind (wpAny_mono h₂' (λx s₃ h₃=>wpAny_bind (wpAny_mono h₃ (λ_ s₄ h₄=>wpAny_pure (wpAny_pure ⟨rfl,h₄⟩)) λ_ _ h'=>h'.elim)) λ_ _ h'=>h'.elim))
  |false=>
   rw[if_neg aaw]at h₂';exact wpAny_pure ⟨rfl,h₂'⟩
end
noncomputable def FO(k:Nat)(g:TG)(tt:TT)(te:TE)(σ:St)(J:It)(H1:Hp)(D:Addr)(Q:VK):Prop:=∃W:Nat->Nat->List V->St->Hp->Prop,(∃m,W 0 m [] (abh k none++σ) (upd H1 D (.lst [])))/\
 ∀i m acc σ' H',W i m acc σ' H'->(J.stop i H'/\H' D=some (.lst acc)/\Q (.ref D) H')∨
  (J.go i H'/\acc.length<sizeLine/\ ∀x H2,J.AN i H' x H2->g x σ' H2 λσ3 H3=>tt σ3 H3 λb H4=>if b=true then te σ3 H4 λv H5=>H5 D=some (.lst acc)/\ ∃m',m'<m/\W (i+1) m' (acc++ [v]) σ3 (upd H5 D (.lst (acc++ [v])))else ∃m',m'<m/\W (i+1) m' acc σ3 H4)
noncomputable def Dy(k:Nat)(wi:TI)(g:TG)(tt:TT)(te:TE):TE:=λσ H Q=>wi σ H λJ H1=> ∀D,H1 D=none->FO k g tt te σ J H1 D Q
section
variable{X:Cx}{sc:Scope}{own N2:List Str}
theorem BA{elt iter tg c:Expr}{pos Jq:Pos}{wi:TI}{g:TG}{tt:TT}{te:TE}{use:Option (Value->Sem Unit)}{Qf:Value->Shared->Prop}(hc:X.calm=true)(hi:PI X tg iter wi)(B:qR sc.names X.env.scope.names own N2 X.N)(hk:sc.kind= .function)
  (hg:∀s H fp,PG (X.comp sc (own++N2) s H fp) tg g)(ht:∀s H fp,PT (X.comp sc (own++N2) s H fp) c tt)(he:∀s H fp,PE (X.comp sc (own++N2) s H fp) elt te)
  (hs:∀x,foldedSetIterable iter X.env x=pure x){pins:List (Addr×Obj)}{s0:Shared}{σ:St}{H0:Hp}{Q:VK}(I0:Inv X pins σ H0 s0)(h0:Dy own.length wi g tt te σ H0 Q)
  (Jr:∀s H fp,Inv X pins σ H s->(∀b∈fp,gb X pins H b) -> ∀(σ':St)(H':Hp)(s':Shared),Inv (X.comp sc (own++N2) s H fp) [] σ' H' s'->Q (.ref s.heap.objs.size) H'->
   compPost (model X.prog X.w) X.A X.xe use Qf (.ref s.heap.objs.size) (s.heap.objs.size+1) (.ok .next) s'):
  wpAny (model X.prog X.w) X.A (comprehension (.ListComp elt [⟨tg,iter,[c],0⟩] sc pos) sc X.env Jq (newList []) false (eval iter X.env) use) Qf X.xe s0:=by
 refine wpAny_comprehension_free (use:=use) rfl hs (pq I0 B) hk (λy hy hl=>cH B.nd (by rw[<-hl];exact hy)) ?_;refine wpAny_mono (hi pins s0 σ H0 _ I0 h0) (λv s1 h1=>wpAny_mono h1 (λitv s h2=> ?_) λ_ _ e=>e) λ_ _ e=>e;obtain⟨it,fp,tn,J,H,e,I,T,st,hf,rd⟩:=h2;subst e;have ho:∀b∈fp,∃o,s.heap.get? b=some o:=λb hb=>let⟨o,e,_⟩:=T.obj 0 _ st b hb;⟨o,e⟩
 obtain⟨W,⟨m0,w0⟩,turn⟩:=rd s.heap.objs.size I.fresh;refine wpAny_newObj_type ?_;refine iI ?_;have IB:=wo I B hk hf ho;have MM:∀{H':Hp},(∀b∈fp,H' b=none) -> ∀b∈fp,gb (X.comp sc (own++N2) s H fp) [] H' b:=λhn b hb=>by
  have ok:=IB.ok;refine⟨hn b hb,(ok.Mb b hb).1,ok.AS b hb,.inl hb,λy c hc=>(ok.Mb b hb).2 y c hc,λp hp=> ?_⟩;have lD:p∈([]:List (Addr×Obj)):=hp;cases lD
 have lt:∀b∈fp,b≠s.heap.objs.size:=λb hb=>let⟨o,e⟩:=ho b hb;aaI (Heap.lt_size e)
 have fin:=Jr s H fp I hf;have loop:∀s3:Shared,s3={s with heap:=pushCells ((s.heap.push {cls:= .type "list",dict:=none,data:= .seq ([]:List Value).toArray}).push {cls:= .type "dict",data:= .dict #[]}) sc.names} ->
   codeAny (model X.prog X.w) X.A (.compLoop (.ListComp elt [⟨tg,iter,[c],0⟩] sc pos) 0 (.ref it) (.ref s.heap.objs.size) (X.comp sc (own++N2) s H fp).env)
    (compPost (model X.prog X.w) X.A X.xe use Qf (.ref s.heap.objs.size) (s.heap.objs.size+1)) s3:=by
  rintro s3 rfl;refine pN (λn s'=> ∃i acc σ' H',Inv (X.comp sc (own++N2) s H fp) [] σ' H' s'/\tn i s'.heap/\(∀b∈fp,H' b=none)/\W i n acc σ' H') ?_ m0
   ⟨0,[],_,_,IB,T.keep _ _ _ st λb _ o e=>pushCells_keeps _ _ b o (Heap.get?_push_of_some _ (Heap.get?_push_of_some _ e)),λb hb=> ?_,w0⟩
  ·rintro n s3 ⟨i,acc,σ3,H3,I3,st3,yD,w3⟩
   rcases turn i n acc σ3 H3 w3 with⟨stop,hD,qn⟩|⟨go,hz,step⟩
   ·refine gD (T.done (X.comp sc (own++N2) s H fp) rfl rfl rfl hc i [] s3 σ3 H3 _ I3 (MM yD) st3 stop) λr s4 ⟨hr,I4⟩=> ?_
    subst hr;exact fin σ3 H3 s4 I4 qn
   ·refine gD (T.item (X.comp sc (own++N2) s H fp) rfl rfl rfl hc i [] s3 σ3 H3 _ I3 (MM yD) st3 go) λr s4 ⟨u,hr,h4⟩=> ?_
    subst hr;refine gD h4 λ_ s5 ⟨x,H5,I5,r5,y5,AW,Pj⟩=> ?_;have Pk:=I5.pinned (MM Pj) (T.obj _ _ AW);refine gD (hg s H fp _ s5 σ3 H5 x u _ Pk r5 (step x H5 y5)) λ_ s6 ⟨Fe,H6,I6,q6⟩=> ?_;refine gD (ht s H fp _ s6 Fe H6 _ I6 q6) λok We ⟨Wf,Qh,Nb⟩=> ?_
    cases ok with
    |false=>
     rw[if_neg aaw]at Nb ⊢;obtain⟨m',hm',w7⟩:=Nb;refine⟨m',hm',i+1,acc,Fe,_,Qh.jn,T.keep _ _ _ AW λb hb o e=>(Qh.pin (b,o) (aam _ (aam _ (cM hb e)))).1,λb hb=> ?_,w7⟩;obtain⟨o,e,d⟩:=T.obj _ _ AW b hb;exact(Qh.pin (b,o) (aam _ (aam _ (cM hb e)))).2.1
    |true=>
    rw[if_pos rfl]at Nb ⊢;refine gD (he s H fp _ We Fe Wf _ Qh Nb) λv s7 ⟨y,H7,I7,r7,Sk,m',hm',w7⟩=> ?_;refine gD (mF _ s7 Fe H7 (.ref s.heap.objs.size) [y] (.ref s.heap.objs.size) [v] (λz H8=>z= .gF/\H8=upd H7 s.heap.objs.size (.lst (acc++ [y]))) I7 rfl (.cons r7 .nil) ⟨s.heap.objs.size,acc,y,rfl,rfl,Sk,hz,rfl,rfl⟩) λz s8 ⟨zz,H8,I8,_,_,e8⟩=> ?_;subst e8;refine⟨m',hm',i+1,acc++ [y],Fe,_,I8.jn,T.keep _ _ _ AW λb hb o e=>(I8.pin (b,o) (aam _ (aam _ (cM hb e)))).1,λb hb=> ?_,w7⟩;obtain⟨o,e,d⟩:=T.obj _ _ AW b hb;exact(I8.pin (b,o) (aam _ (aam _ (cM hb e)))).2.1
  ·rw[aH (lt b hb)]
   exact(hf b hb).1
 have e1:(s.heap.push {cls:= .type "list",dict:=none,data:= .seq ([]:List Value).toArray}).objs.size=s.heap.objs.size+1:=Heap.size_push ..;dsimp only;rw[e1];exact codeAny_compStart_list (loop _ rfl) (T.self _ 0 _ _ _ (T.keep _ _ _ st λb _ o e=>pushCells_keeps _ _ b o (Heap.get?_push_of_some _ (Heap.get?_push_of_some _ e))) (loop _ rfl))
theorem Hs{elt iter tg c:Expr}{pos:Pos}{wi:TI}{g:TG}{tt:TT}{te:TE}(hc:X.calm=true)(hi:PI X tg iter wi)(B:qR sc.names X.env.scope.names own N2 X.N)(hk:sc.kind= .function)
  (hg:∀s H fp,PG (X.comp sc (own++N2) s H fp) tg g)(ht:∀s H fp,PT (X.comp sc (own++N2) s H fp) c tt)(he:∀s H fp,PE (X.comp sc (own++N2) s H fp) elt te)
  (hs:∀x,foldedSetIterable iter X.env x=pure x:=by intro _;rfl):PE X (.ListComp elt [⟨tg,iter,[c],0⟩] sc pos) (Dy own.length wi g tt te):=by
 intro pins s0 σ H0 Q I0 h0;rw[eval_ListComp];refine BA (use:=none) hc hi B hk hg ht he hs I0 h0 λs H fp I hf σ' H' s' JB q=> ?_;obtain⟨m,hn,_⟩:=JB.loc;exact⟨m,hn,λh' sb=>⟨.ref s.heap.objs.size,H',I.Js (I.Df hf JB) JB.free sb,rfl,q⟩⟩
end
section
variable{X:Cx}{sc:Scope}{N2:List Str}{x:Str}{px:Pos}{elt iter c:Expr}{pos:Pos}{wi:TI}{tt:TT}{te:TE}
theorem Nc(hc:X.calm=true)(hi:PI X (.Name x px) iter wi)(hB:Bg sc.names X.env.scope.names [x] N2 X.N=true)(hk:sc.kind= .function)(ht:∀s H fp,PT (X.comp sc ([x]++N2) s H fp) c tt)(he:∀s H fp,PE (X.comp sc ([x]++N2) s H fp) elt te)
  (hs:∀x,foldedSetIterable iter X.env x=pure x:=by intro _;rfl):PE X (.ListComp elt [⟨.Name x px,iter,[c],0⟩] sc pos) (Dy 1 wi (dP 0) tt te):=
 Hs (own:=[x]) hc hi (kC hB) hk (λs H fp=>Fz (kC hB) s H fp) ht he hs
end
theorem BC{J:It}{H1:Hp}{xs:List V}{σ:St}{tt:TT}{te:TE}{Q:VK}(jw:JW J H1 xs)(hz:xs.length<=sizeLine){D:Addr}(hD:H1 D=none)(p:V->Bool)(f:V->V)
  (ht:∀x∈xs,∀H' (R:Bool->Hp->Prop),ay H1 H'->(∀H2,ay H' H2->R (p x) H2) ->tt (some x::σ) H' R)
  (hs:∀x∈xs,p x=true-> ∀H' (Q':VK),ay H1 H'->(∀H2,ay H' H2->Q' (f x) H2) ->te (some x::σ) H' Q')
  (hq:∀H',ay H1 H'->H' D=some (.lst ((xs.filter p).map f)) ->Q (.ref D) H'):FO 1 (dP 0) tt te σ J H1 D Q:=by
 refine⟨λi m acc σ' H'=>m=xs.length-i/\i<=xs.length/\acc=((xs.take i).filter p).map f/\(∃o,σ'=o::σ)/\ay H1 H'/\H' D=some (.lst acc),⟨xs.length,rfl,aa3 _,by simp,⟨none,rfl⟩,ay.up hD,ao⟩,?_⟩;rintro i m acc σ' H' ⟨rfl,hi,rfl,⟨o,rfl⟩,sm,eD⟩
 by_cases hlt:i<xs.length
 ·refine .inr ⟨jw.go i H' sm hlt,?_,λx H2 y=> ?_⟩
  ·rw[aau]
   have:=List.length_filter_le p (xs.take i);rw[aaX]at this;omega
  ·obtain⟨e2,ex⟩:=jw.AN i H' x H2 sm hlt y
   subst e2;have hx:x∈xs:=aaA ex;have tk:xs.take (i+1)=xs.take i++ [x]:=by rw[abz,ex];rfl
   refine ht x hx H2 _ sm λH3 s3=> ?_
   cases hp:p x with
   |false=>
    rw[if_neg aaw];exact⟨xs.length- (i+1),by omega,rfl,by omega,by rw[tk,List.filter_append];simp[hp],⟨_,rfl⟩,sm.trans s3,s3 _ _ eD⟩
   |true=>
    rw[if_pos rfl];refine hs x hx hp H3 _ (sm.trans s3) λH4 s4=>⟨s4 _ _ (s3 _ _ eD),xs.length- (i+1),by omega,rfl,by omega,by rw[tk,List.filter_append];simp[hp],⟨_,rfl⟩,((sm.trans s3).trans s4).upd hD,ao⟩
 ·obtain rfl:i=xs.length:=by omega
  rw[abE]at eD ⊢;exact .inl ⟨jw.stop H' sm,eD,hq H' sm eD⟩
end L2
namespace L2
theorem Wg{X:Cx}{e:PySem.Expr}{t:TT}(h:PT X e t):PT X e t:=h
end L2
namespace L2
open PySem PySem.Spec PyProof.Rows
noncomputable def mO(H:Hp)(B:Addr):Prop:=∃g s:Int,H B=some (.lst [.int g,.int s])/\0<=g/\0<=s
noncomputable def SB(B:Addr)(H H':Hp):Prop:=(∀a o,a≠B->H a=some o->H' a=some o)/\mO H' B
theorem SB.refl{B:Addr}{H:Hp}(h:mO H B):SB B H H:=⟨λ_ _ _ e=>e,h⟩
theorem SB.trans{B:Addr}{H H' SQ:Hp}(h:SB B H H')(h':SB B H' SQ):SB B H SQ:=⟨λa o n e=>h'.1 a o n (h.1 a o n e),h'.2⟩
theorem mO.same{H H':Hp}{B:Addr}(h:mO H B)(s:ay H H'):mO H' B:=by
 obtain⟨g,t,e,r⟩:=h;exact⟨g,t,s _ _ e,r⟩
theorem SB.of{B:Addr}{H H':Hp}(b:mO H B)(s:ay H H'):SB B H H':=⟨λa o _ e=>s _ _ e,b.same s⟩
theorem SB.gone{B:Addr}{H H':Hp}(h:SB B H H'){r:Addr}(e:H' r=none):H r=none:=by
 cases q:H r with
 |none=>rfl
 |some o=>
  by_cases z:r=B
  ·obtain⟨g,t,e2,_⟩:=h.2
   rw[<-z,e]at e2;cases e2
  ·rw[h.1 r o z q]at e
   cases e
theorem SB.ne{B:Addr}{H H':Hp}(h:SB B H H'){r:Addr}(e:H' r=none):r≠B:=λz=>by
 obtain⟨g,t,e2,_⟩:=h.2;rw[<-z,e]at e2;cases e2
theorem mO.ne{H:Hp}{B r:Addr}(h:mO H B)(e:H r=none):r≠B:=(SB.refl h).ne e
theorem Tab.sb{B:Addr}{H H':Hp}{t:Addr}{bs:List Addr}{m:List (List Int)}(h:Tab H t bs m)(s:SB B H H')(nt:t≠B)(nb:B∉bs):Tab H' t bs m:=
 ⟨s.1 _ _ nt h.1,h.2.Dm λr b hb e=>s.1 _ _ (λz=>nb (by rw[<-z];exact hb)) e⟩
theorem Ke{B:Addr}{H:Hp}{g s:Int}(hg:0<=g)(hs:0<=s):SB B H (upd H B (.lst [.int g,.int s])):=
 ⟨λa o n e=>by rw[aH n];exact e,g,s,ao,hg,hs⟩
end L2
namespace L2
theorem log2_small{z:Int}(h0:0<=z)(h:z<2^60):z.natAbs.log2<9000:=by
 by_cases hz:z.natAbs=0
 ·rw[hz];decide
 ·have:z.natAbs<2^60:=by omega
  exact acG ((acT hz).mpr this) (by decide)
end L2
namespace L2
open PySem PySem.Spec PyProof.Rows
theorem Kf(m:List (List Int)){i j:Nat}(hi:i<3)(hj:j<3)(hij:i≠j):aA (x6 (x6 m i λs=>ent m j s) j λs=>0-ent m i s)=aA m:=by
 rw[dJ,dJ];simp only[cX _ _ (show 0<3 by decide) (show 0<3 by decide),cX _ _ (show 0<3 by decide) (show 1<3 by decide),cX _ _ (show 0<3 by decide) (show 2<3 by decide),cX _ _ (show 1<3 by decide) (show 0<3 by decide),cX _ _ (show 1<3 by decide) (show 1<3 by decide),cX _ _ (show 1<3 by decide) (show 2<3 by decide),cX _ _ (show 2<3 by decide) (show 0<3 by decide),cX _ _ (show 2<3 by decide) (show 1<3 by decide),cX _ _ (show 2<3 by decide) (show 2<3 by decide)];rcases aW hi with rfl|rfl|rfl<;>rcases aW hj with rfl|rfl|rfl<;>first|(exact absurd rfl hij)|(simp only[adn,if_true,if_false];grind)
theorem SB.Qi{B D:Addr}{H H':Hp}{o:HO}(h:SB B H H')(f:H D=none)(n:D≠B):SB B H (upd H' D o):=by
 refine⟨λa u na e=> ?_,?_⟩
 ·rw[aH (λz=>by rw[z,f]at e;cases e)]
  exact h.1 a u na e
 ·obtain⟨g,s,e,r⟩:=h.2
  exact⟨g,s,by rw[aH (Ne.symm n)];exact e,r⟩
noncomputable def aL(r:List Int):Nat->Int:=λi=>r.getD i 0
section
variable{X:Cx}{sc:Scope}{N2:List Str}{x y:Str}{px FJ tpos:Pos}{x1:Nat}{elt iter:Expr}{jD p pos:Pos}{wi:TI}{te:TE}{P:Addr}
theorem Nd{B:Around}(hc:X.calm=true)(Bk:qR sc.names X.env.scope.names [x,y] N2 X.N)(hnc:∀y∈sc.names,y.2≠ .cell)(code:Value)(s:Shared)(H:Hp)(fp:List Addr):PG (X.gen B sc ([x,y]++N2) code s H fp) (.Tuple [.Name x px,.Name y FJ] x1 tpos) (g2 X.K):=
 kr (X:=X.gen B sc ([x,y]++N2) code s H fp) hc (aG (FL (i:=0) Bk hnc rfl code s H fp) (aG (FL (i:=1) Bk hnc rfl code s H fp) dW))
theorem Nf(hc:X.calm=true)(hr:X.A.depth<recursionLimit)(cd:gZ X.K X.env.code P)(bm:BM X.mg X.base)(JF:Gl X "sum")(hm:X.mg "sum"=none)(hi:PI X (.Tuple [.Name x px,.Name y FJ] x1 tpos) iter wi)(hB:JL sc X.env.scope.names [x,y] N2 X.N=true)
  (he:∀code s H fp,PE (X.gen X.A.in1.in1 sc ([x,y]++N2) code s H fp) elt te)
  (hs:∀x,genFold iter X.env x=pure x:=by intro _;rfl)(hst:starEach [.GeneratorExp elt [⟨.Tuple [.Name x px,.Name y FJ] x1 tpos,iter,[],0⟩] sc jD] X.env=[(false,eval (.GeneratorExp elt [⟨.Tuple [.Name x px,.Name y FJ] x1 tpos,iter,[],0⟩] sc jD) X.env)]:=by rfl):
  PE X (.Call (.Name "sum" p) [.GeneratorExp elt [⟨.Tuple [.Name x px,.Name y FJ] x1 tpos,iter,[],0⟩] sc jD] [] pos) (Bm 2 P wi (g2 X.K) te):=
 have K:=wC hc hr cd bm hB
 Fx (own:=[x,y]) K JF hm hi (λcode s H fp=>Nd hc K.Sw K.nc code s H fp) he hs hst
end
theorem Ng{K:PySem.W.Frag}{H1:Hp}{a b:Addr}{xs ys:List V}{σ:St}{te:TE}{F:Nat->(Nat->V->Prop) ->(Nat->St->Hp->Prop) ->Prop}(ha:aZ K H1 a xs)(hb:aZ K H1 b ys)(hl:xs.length=ys.length)(R:Nat->V->Prop)
  (hs:∀(i:Nat) x y,xs[i]?=some x->ys[i]?=some y-> ∀H' (Q':VK),ay H1 H'->(∀v H2,R i v->ay H' H2->Q' v H2) ->te (some x::some y::σ) H' Q')
  (hF:F xs.length R (λ_ σ' H'=>(∃o o',σ'=o::o'::σ)/\ay H1 H')):yJ 2 (g2 K) te σ F (SA K a b) H1:=by
 refine⟨xs.length,R,_,⟨⟨none,none,rfl⟩,ay.refl _⟩,λi σ' H' hi w=> ?_,λσ' H' w=>⟨xs,ys,w.2.seq ha,w.2.seq hb,.inl (aav _)⟩,hF⟩;obtain⟨⟨o,o',rfl⟩,sm⟩:=w;have hi':i<ys.length:=by omega
 refine⟨⟨xs,ys,xs[i],ys[i],sm.seq ha,sm.seq hb,by simp[hi],by simp[hi']⟩,λv H2 yl=> ?_⟩;obtain⟨T,x,y,rfl,hT,hx,hy,rfl⟩:=yl;have ex:=hx xs (sm.seq ha);have ey:=hy ys (sm.seq hb);have s2:ay H' (upd H' T (.tup [x,y])):=ay.up hT;refine⟨T,[x,y],rfl,nZ.of ao,rfl,x,[y],rfl,y,[],rfl,rfl,?_⟩;show te (some x::some y::σ) _ _;exact hs i x y ex ey _ _ (sm.trans s2) λv H3 r s3=>⟨r,⟨_,_,rfl⟩,(sm.trans s2).trans s3⟩
theorem Nh{K:PySem.W.Frag}{H1:Hp}{a b:Addr}{xs ys:List V}{σ:St}{te:TE}{Q:VK}{P:Addr}(ha:aZ K H1 a xs)(hb:aZ K H1 b ys)(hl:xs.length=ys.length)(hP:H1 P=some (eN P))(val:Nat->Int)
  (hs:∀(i:Nat) x y,xs[i]?=some x->ys[i]?=some y-> ∀H' (Q':VK),ay H1 H'->(∀H2,ay H' H2->Q' (.int (val i)) H2) ->te (some x::some y::σ) H' Q')
  (hq:∀H',ay H1 H'->Q (.int (preSum val xs.length)) H'):JD 2 P (g2 K) te σ (SA K a b) H1 Q:=
 ⟨hP,Ng ha hb hl (λi v=>v= .int (val i)) (λi x y ex ey H' Q' sm k=>hs i x y ex ey H' Q' sm λH2 s2=>k _ _ rfl s2) ⟨val,λi v _ r=>r,λσ' H' w=>hq H' w.2⟩⟩
section
variable{X:Cx}{sc:Scope}{N2:List Str}{x:Str}{px:Pos}{elt iter:Expr}{jD p pos:Pos}{wi:TI}{te:TE}{P:Addr}
end
theorem Kg{v:V}{r:List V}:AQ (v::r) 0=some v:=gS (i:=0) rfl
theorem Dz{K:PySem.W.Frag}{H:Hp}{a:Addr}{xs:List Int}(h:aZ K H a (xs.map V.int)):yK K H (.ref a) (g6 xs):= .lst h (JN xs)
theorem Qj{K:PySem.W.Frag}{H:Hp}{a b:Addr}{xs ys:List Int}{Q:VK}(ha:aZ K H a (xs.map V.int))(hb:aZ K H b (ys.map V.int))(q:Q (.bl (!decide (xs=ys))) H):Hl K true (.ref a) (.ref b) H Q:=
 ⟨g6 xs,g6 ys,Dz ha,Dz hb,qa _,qa _,by rw[vH];exact q⟩
noncomputable def rk(sel:Nat->Bool)(k:Nat):Nat:=(abx k).countP sel
section
variable{X:Cx}{B:Around}{sc:Scope}{N':List Str}{code:Value}{sC:Shared}{HC:Hp}{fp Ss:List Addr}{tn:Nat->Heap->Prop}{N:Nat}{sel:Nat->Bool}{R:Nat->V->Prop}{W:St->Hp->Prop}
variable{elt iter tg c:Expr}{pos:Pos}{it:Addr}{J:It}{g:TG}{tt:TT}{te:TE}
end
section
variable{X:Cx}{sc:Scope}{own N2:List Str}{elt iter tg c:Expr}{pos:Pos}{wi:TI}{g:TG}{tt:TT}{te:TE}{P:Addr}
end
noncomputable def mx(val:Nat->Int):Nat->Int
 |0=>val 0
 |k+1=>if val (k+1)>mx val k then val (k+1)else mx val k
section
variable{X:Cx}{sc:Scope}{N':List Str}{code:Value}{sC:Shared}{HC:Hp}{fp:List Addr}{tn:Nat->Heap->Prop}{cnt:Nat}{R:Nat->V->Prop}{W:Nat->St->Hp->Prop}{a S:Addr}{pins:List (Addr×Obj)}{σ:St}{Rr:Result->Shared->Prop}
end
section
variable{X:Cx}{sc:Scope}{N2:List Str}{x:Str}{px:Pos}{elt iter c:Expr}{jD p pos:Pos}{wi:TI}{tt:TT}{te:TE}{P:Addr}
end
noncomputable def Ni(ifs:List Expr)(env:Env):Sem Bool:=forIn ifs true λc r=>if r=true then(do let ok<-isTrue c env (eval c env);pure (ForInStep.yield ok))else pure (ForInStep.yield r)
noncomputable def SR(elt:Expr)(acc:Value)(env:Env):Sem Unit:=eval elt env>>=λx=>call (.builtin "list.append") [acc,x]>>=λ_=>pure ()
section
variable{X:Cx}
noncomputable def wJ(X:Cx)(e elt:Expr)(gens:List Comprehension)(d:Nat)(acc:Value)(Post:Shared->Prop)(s:Shared):Prop:=
 match gens[d+1]? with
 |none=>wpAny (model X.prog X.w) X.A (eval elt X.env) (λx s₃=>wpAny (model X.prog X.w) X.A (call (.builtin "list.append") [acc,x]) (λ_ s₄=>Post s₄) (λ_ _=>False) s₃) (λ_ _=>False) s
 |some g'=>wpAny (model X.prog X.w) X.A (eval g'.iter X.env) (λx s₃=>wpAny (model X.prog X.w) X.A (pyIter x) (λy s₄=>codeAny (model X.prog X.w) X.A (.compStart e (d+1) y acc X.env) (λr s'=>r= .ok .next/\Post s') s₄) (λ_ _=>False) s₃) (λ_ _=>False) s
noncomputable def SS(e:Expr)(d:Nat)(tg iter:Expr)(ifs:List Expr)(next:Sem Unit)(it acc:Value)(env:Env):Sem Fin:=standAt iter.pos>>=λ_=>pyNext it>>=λr=>match r with
 |none=>pure (.done .next)
 |some v=>letOwnedTupleGo tg it v>>=λ_=>assign tg env v>>=λ_=>Ni ifs env>>=λok=>if ok=true then next>>=λ_=>again (.compLoop e d it acc env)else again (.compLoop e d it acc env)
noncomputable def SV(e:Expr)(d:Nat)(tg iter:Expr)(ifs:List Expr)(kF:Expr)(it acc:Value)(env:Env):Sem Fin:=standAt iter.pos>>=λ_=>pyNext it>>=λr=>match r with
 |none=>pure (.done .next)
 |some v=>letOwnedTupleGo tg it v>>=λ_=>assign tg env v>>=λ_=>Ni ifs env>>=λok=>if ok=true then(eval kF env>>=λx=>standAt kF.pos>>=λ_=>foldedSetIterable kF env x>>=λx=>holding [x] (pyIter x)>>=λy=>runOwn (.compStart e (d+1) y acc env) env>>=λ_=>again (.compLoop e d it acc env))else again (.compLoop e d it acc env)
theorem x8{elt tg iter:Expr}{ifs:List Expr}{gens:List Comprehension}{sc:Scope}{pos:Pos}{d:Nat}{it acc:Value}{env:Env}(h0:gens[d]?=some ⟨tg,iter,ifs,0⟩)(h1:gens[d+1]?=none):
  compTurn (.ListComp elt gens sc pos) d it acc env=SS (.ListComp elt gens sc pos) d tg iter ifs (SR elt acc env) it acc env:=by
 unfold compTurn;simp only[h0,h1]
 rfl
theorem x9{elt tg iter Sx kF:Expr}{ifs SW:List Expr}{gens:List Comprehension}{sc:Scope}{pos:Pos}{d:Nat}{it acc:Value}{env:Env}(h0:gens[d]?=some ⟨tg,iter,ifs,0⟩)(h1:gens[d+1]?=some ⟨Sx,kF,SW,0⟩):
  compTurn (.ListComp elt gens sc pos) d it acc env=SV (.ListComp elt gens sc pos) d tg iter ifs kF it acc env:=by
 unfold compTurn;simp only[h0,h1]
 rfl
theorem rm{elt tg iter:Expr}{ifs:List Expr}{gens:List Comprehension}{sc:Scope}{pos:Pos}{d:Nat}{it acc:Value}{R:Result->Shared->Prop}{s:Shared}(h0:gens[d]?=some ⟨tg,iter,ifs,0⟩)
  (Nj:∀g',gens[d+1]?=some g'->g'.is_async=0/\ ∀x,foldedSetIterable g'.iter X.env x=pure x)(I:Nat->Shared->Prop)
  (turn:∀n s,I n s->wpAny (model X.prog X.w) X.A (pyNext it) (λr s₁=>match r with
   |none=>R (.ok .next) s₁
   |some v=>wpAny (model X.prog X.w) X.A (letOwnedTupleGo tg it v) (λ_ s₁'=>wpAny (model X.prog X.w) X.A (assign tg X.env v) (λ_ s₂=>wpAny (model X.prog X.w) X.A (Ni ifs X.env) (λok s₂'=>
     if ok=true then wJ X (.ListComp elt gens sc pos) elt gens d acc (λs₄=> ∃m,m<n/\I m s₄) s₂' else ∃m,m<n/\I m s₂') (λ_ _=>False) s₂) (λ_ _=>False) s₁') (λ_ _=>False) s₁) (λ_ _=>False) s)
  (n:Nat)(h:I n s):codeAny (model X.prog X.w) X.A (.compLoop (.ListComp elt gens sc pos) d it acc X.env) R s:=by
 refine codeAny_loop rfl I (λn s hI=> ?_) n h;show wpAny _ _ ((compTurn (.ListComp elt gens sc pos) d it acc X.env).onRaise (λx=>do noteFrame x X.env;theTreesLotGoes x)) _ _ s;refine wpAny_noted ?_
 cases h1:gens[d+1]? with
 |none=>
  rw[x8 h0 h1];refine wpAny_bind (wpAny_standAt (wpAny_bind (wpAny_mono (turn n s hI) (λr s₁ h₁=> ?_) λ_ _ h'=>h'.elim)))
  cases r with
  |none=>exact wpAny_pure h₁
  |some v=>
   refine wpAny_bind (wpAny_mono h₁ (λ_ s₁' h₁'=>wpAny_bind (wpAny_mono h₁' (λ_ s₂ h₂=> ?_) λ_ _ h'=>h'.elim)) λ_ _ h'=>h'.elim);refine wpAny_bind (wpAny_mono h₂ (λok s₂' h₂'=> ?_) λ_ _ h'=>h'.elim)
   cases ok with
   |true=>
    rw[if_pos rfl]at h₂' ⊢;unfold wJ at h₂';rw[h1]at h₂';exact wpAny_bind (wpAny_bind (wpAny_mono h₂' (λx s₃ h₃=>wpAny_bind (wpAny_mono h₃ (λ_ s₄ h₄=>wpAny_pure (wpAny_pure ⟨rfl,h₄⟩)) λ_ _ h'=>h'.elim)) λ_ _ h'=>h'.elim))
   |false=>
    rw[if_neg aaw]at h₂' ⊢;exact wpAny_pure ⟨rfl,h₂'⟩
 |some g'=>
  obtain⟨Sx,kF,SW,k⟩:=g';obtain⟨hk,hs⟩:=Nj _ h1;have hk':k=0:=hk;subst hk';rw[x9 h0 h1];refine wpAny_bind (wpAny_standAt (wpAny_bind (wpAny_mono (turn n s hI) (λr s₁ h₁=> ?_) λ_ _ h'=>h'.elim)))
  cases r with
  |none=>exact wpAny_pure h₁
  |some v=>
   refine wpAny_bind (wpAny_mono h₁ (λ_ s₁' h₁'=>wpAny_bind (wpAny_mono h₁' (λ_ s₂ h₂=> ?_) λ_ _ h'=>h'.elim)) λ_ _ h'=>h'.elim);refine wpAny_bind (wpAny_mono h₂ (λok s₂' h₂'=> ?_) λ_ _ h'=>h'.elim)
   cases ok with
   |true=>
    rw[if_pos rfl]at h₂' ⊢;unfold wJ at h₂';rw[h1]at h₂';refine wpAny_bind (wpAny_mono h₂' (λx s₃ h₃=> ?_) λ_ _ h'=>h'.elim);refine wpAny_bind (wpAny_standAt (wpAny_bind (wpAny_of_eq (hs x) ?_)));refine wpAny_bind (wpAny_holding (wpAny_mono h₃ (λy s₄ h₄=> ?_) λ_ _ h'=>h'.elim));refine wpAny_bind (wpAny_runOwn (h:=none) ?_);rw[Around.mark_none];refine codeAny_mono h₄ λr s' hr=> ?_;obtain⟨rfl,hp⟩:=hr;exact wpAny_pure ⟨rfl,hp⟩
   |false=>
    rw[if_neg aaw]at h₂' ⊢;exact wpAny_pure ⟨rfl,h₂'⟩
theorem qd{elt tg iter:Expr}{ifs:List Expr}{gens:List Comprehension}{sc:Scope}{pos:Pos}{d:Nat}{it acc:Value}{R:Result->Shared->Prop}{s:Shared}(hg:gens[d]?=some ⟨tg,iter,ifs,0⟩)
  (h0:codeAny (model X.prog X.w) X.A (.compLoop (.ListComp elt gens sc pos) d it acc X.env) R s)
  (h:wpAny (model X.prog X.w) X.A (pyIter it) (λit' s'=>codeAny (model X.prog X.w) X.A (.compLoop (.ListComp elt gens sc pos) d it' acc X.env) R s') (λ_ _=>False) s):
  codeAny (model X.prog X.w) X.A (.compStart (.ListComp elt gens sc pos) d it acc X.env) R s:=by
 refine codeAny_of_tree ?_;show wpAny _ _ ((compStart (.ListComp elt gens sc pos) d it acc X.env).onRaise (λx=>do noteFrame x X.env;standAt theWindowsPlace)) _ _ s;refine wpAny_notedAt ?_;unfold compStart;have e1:(clausesOf (.ListComp elt gens sc pos))[d]?=some ⟨tg,iter,ifs,0⟩:=hg;simp only[e1];show wpAny _ _ (ask>>=_) _ _ s;refine wpAny_bind (wpAny_askSetting (wpAny_ite ?_))
 split
 ·first
   |exact wpAny_bind (wpAny_pure (wpAny_pure (And.intro rfl h0)))
   |exact wpAny_pure (And.intro rfl h0)
 ·first
   |exact wpAny_bind (wpAny_rule (wpAny_bind (wpAny_standAt (wpAny_bind (wpAny_mono h (λit' s' h'=>wpAny_pure (And.intro rfl h')) λ_ _ x=>x.elim)))))
   |(refine wpAny_bind (wpAny_rule ?_);show wpAny _ _ (standAt iter.pos>>=_) _ _ s;exact wpAny_bind (wpAny_standAt (wpAny_bind (wpAny_mono h (λit' s' h'=>wpAny_pure (And.intro rfl h')) λ_ _ x=>x.elim))))
noncomputable def SX(X:Cx)(ifs:List Expr)(tt:TT):Prop:=∀pins s σ H Q,Inv X pins σ H s->tt σ H Q->wpAny (model X.prog X.w) X.A (Ni ifs X.env) (λb s'=> ∃H',Inv X pins σ H' s'/\Q b H') X.xe s
noncomputable def Kh:TT:=λ_ H Q=>Q true H
theorem FP:SX X [] Kh:=λpins s σ H Q I h=>wpAny_pure ⟨H,I,h⟩
noncomputable abbrev TB:=St->Hp->(St->Hp->Prop) ->Prop
noncomputable def PN(X:Cx)(e elt:Expr)(gens:List Comprehension)(d:Nat)(D:Addr)(b:TB):Prop:=∀pins s σ H K,Inv X pins σ H s->b σ H K->wJ X e elt gens d (.ref D) (λs'=> ∃σ' H',Inv X pins σ' H' s'/\K σ' H') s
noncomputable def Kl(te:TE)(D:Addr):TB:=λσ H K=>te σ H λv H'=> ∃acc,H' D=some (.lst acc)/\acc.length<sizeLine/\K σ (upd H' D (.lst (acc++ [v])))
theorem Nk{e elt:Expr}{gens:List Comprehension}{d:Nat}{D:Addr}{te:TE}(hx:∀v s,X.xe v s->False)(h1:gens[d+1]?=none)(he:PE X elt te):PN X e elt gens d D (Kl te D):=by
 intro pins s σ H K I h;unfold wJ;rw[h1];refine wpAny_mono (he pins s σ H _ I h) (λv s7 ⟨y,H7,I7,r7,acc,Sk,hz,k7⟩=> ?_) λ_ _ z=>(hx _ _ z).elim;refine wpAny_mono (mF _ s7 σ H7 (.ref D) [y] (.ref D) [v] (λz H8=>z= .gF/\H8=upd H7 D (.lst (acc++ [y]))) I7 rfl (.cons r7 .nil) ⟨D,acc,y,rfl,rfl,Sk,hz,rfl,rfl⟩) (λz s8 ⟨zz,H8,I8,_,_,e8⟩=> ?_) λ_ _ z=>(hx _ _ z).elim;subst e8;exact⟨_,_,I8,k7⟩
noncomputable def DC(J:It)(g:TG)(tt:TT)(b:TB)(σ:St)(H1:Hp)(K:St->Hp->Prop):Prop:=∃W:Nat->Nat->St->Hp->Prop,(∃m,W 0 m σ H1)/\ ∀i m σ' H',W i m σ' H'->
 (J.stop i H'/\K σ' H')∨(J.go i H'/\ ∀x H2,J.AN i H' x H2->g x σ' H2 λσ3 H3=>tt σ3 H3 λok H4=>if ok=true then b σ3 H4 (λZn H5=> ∃m',m'<m/\W (i+1) m' Zn H5)else ∃m',m'<m/\W (i+1) m' σ3 H4)
noncomputable def zU(wi:TI)(g:TG)(tt:TT)(b:TB):TB:=λσ H K=>wi σ H λJ H1=>DC J g tt b σ H1 K
theorem uI{elt tg iter:Expr}{ifs:List Expr}{gens:List Comprehension}{sc:Scope}{pos:Pos}{d:Nat}{D it:Addr}{fp:List Addr}{tn:Nat->Heap->Prop}{J:It}{g:TG}{tt:TT}{b:TB}{pins:List (Addr×Obj)}{σ:St}{H:Hp}{s:Shared}{R:Result->Shared->Prop}{K:St->Hp->Prop}
  (hx:∀v s,X.xe v s->False)(hc:X.calm=true)(h0:gens[d]?=some ⟨tg,iter,ifs,0⟩)(Nj:∀g',gens[d+1]?=some g'->g'.is_async=0/\ ∀x,foldedSetIterable g'.iter X.env x=pure x)
  (T:Turn X.prog X.w X.K tg J fp it tn)(hg:PG X tg g)(ht:SX X ifs tt)(hb:PN X (.ListComp elt gens sc pos) elt gens d D b)
  (zD:∀{H':Hp},(∀b∈fp,H' b=none) -> ∀b∈fp,gb X pins H' b)(I:Inv X pins σ H s)(st:tn 0 s.heap)(fr:∀b∈fp,H b=none)(lp:DC J g tt b σ H K)(hR:∀σ' H' s',Inv X pins σ' H' s'->K σ' H'->R (.ok .next) s'):
  codeAny (model X.prog X.w) X.A (.compLoop (.ListComp elt gens sc pos) d (.ref it) (.ref D) X.env) R s:=by
 obtain⟨W,⟨m0,w0⟩,turn⟩:=lp;refine rm h0 Nj (λn s'=> ∃i σ' H',Inv X pins σ' H' s'/\tn i s'.heap/\(∀b∈fp,H' b=none)/\W i n σ' H') ?_ m0 ⟨0,σ,H,I,st,fr,w0⟩;rintro n s3 ⟨i,σ3,H3,I3,st3,yD,w3⟩;rcases turn i n σ3 H3 w3 with⟨stop,qn⟩|⟨go,step⟩
 ·refine wpAny_mono (T.done X rfl rfl rfl hc i pins s3 σ3 H3 X.xe I3 (zD yD) st3 stop) (λr s4 ⟨hr,I4⟩=> ?_) λ_ _ z=>(hx _ _ z).elim
  subst hr;exact hR _ _ _ I4 qn
 ·refine wpAny_mono (T.item X rfl rfl rfl hc i pins s3 σ3 H3 X.xe I3 (zD yD) st3 go) (λr s4 ⟨u,hr,h4⟩=> ?_) λ_ _ z=>(hx _ _ z).elim
  subst hr;refine wpAny_mono h4 (λ_ s5 ⟨x,H5,I5,r5,y5,AW,Pj⟩=> ?_) λ_ _ z=>(hx _ _ z).elim;have Pk:=I5.pinned (zD Pj) (T.obj _ _ AW);refine wpAny_mono (hg _ s5 σ3 H5 x u _ Pk r5 (step x H5 y5)) (λ_ s6 ⟨Fe,H6,I6,q6⟩=> ?_) λ_ _ z=>(hx _ _ z).elim;have back:∀{AO:St}{H7:Hp}{s7:Shared},Inv X (pins++dG fp s5.heap) AO H7 s7->(∃m',m'<n/\W (i+1) m' AO H7) -> ∃m,m<n/\ ∃i σ' H',Inv X pins σ' H' s7/\tn i s7.heap/\(∀b∈fp,H' b=none)/\W i m σ' H':=λ {AO H7 s7} I7 ⟨m',hm,w7⟩=>by
   refine⟨m',hm,i+1,AO,H7,I7.jn,T.keep _ _ _ AW λb hb o e=>(I7.pin (b,o) (aam _ (aam _ (cM hb e)))).1,λb hb=> ?_,w7⟩;obtain⟨o,e,dd⟩:=T.obj _ _ AW b hb;exact(I7.pin (b,o) (aam _ (aam _ (cM hb e)))).2.1
  refine wpAny_mono (ht _ s6 Fe H6 _ I6 q6) (λok We ⟨Wf,Qh,Nb⟩=> ?_) λ_ _ z=>(hx _ _ z).elim
  cases ok with
  |false=>
   rw[if_neg aaw]at Nb ⊢;exact back Qh Nb
  |true=>
   rw[if_pos rfl]at Nb ⊢;have nx:=hb _ We Fe Wf _ Qh Nb;unfold wJ at nx ⊢
   cases h1:gens[d+1]? with
   |none=>
    rw[h1]at nx;exact wpAny_mono nx (λx s₃ h₃=>wpAny_mono h₃ (λ_ s₄ ⟨AO,H7,I7,w7⟩=>back I7 w7) λ_ _ z=>z) λ_ _ z=>z
   |some g'=>
    rw[h1]at nx;exact wpAny_mono nx (λx s₃ h₃=>wpAny_mono h₃ (λy s₄ h₄=>codeAny_mono h₄ λr s' ⟨hr,AO,H7,I7,w7⟩=>⟨hr,back I7 w7⟩) λ_ _ z=>z) λ_ _ z=>z
theorem Ht{elt tg iter:Expr}{ifs:List Expr}{gens:List Comprehension}{sc:Scope}{pos:Pos}{d:Nat}{D:Addr}{wi:TI}{g:TG}{tt:TT}{b:TB}(hx:∀v s,X.xe v s->False)(hc:X.calm=true)(h1:gens[d+1]?=some ⟨tg,iter,ifs,0⟩)
  (Nj:∀g',gens[d+1+1]?=some g'->g'.is_async=0/\ ∀x,foldedSetIterable g'.iter X.env x=pure x)(hi:PI X tg iter wi)(hg:PG X tg g)(ht:SX X ifs tt)(hb:PN X (.ListComp elt gens sc pos) elt gens (d+1) D b):
  PN X (.ListComp elt gens sc pos) elt gens d D (zU wi g tt b):=by
 intro pins s σ H K I h;unfold wJ;rw[h1];refine wpAny_mono (hi pins s σ H _ I h) (λv s1 VZ=>wpAny_mono VZ (λitv s2 h2=> ?_) λ_ _ z=>(hx _ _ z).elim) λ_ _ z=>(hx _ _ z).elim;obtain⟨it,fp,tn,J,H2,e,I2,T,st2,f2,lp⟩:=h2;subst e;have zD:∀{H':Hp},(∀b∈fp,H' b=none) -> ∀b∈fp,gb X pins H' b:=λhn b hb=>⟨hn b hb,(f2 b hb).2⟩;have loop:=uI (elt:=elt) (sc:=sc) (pos:=pos) (R:=λr s'=>r= .ok .next/\ ∃σ' H',Inv X pins σ' H' s'/\K σ' H') hx hc h1 Nj T hg ht hb zD I2 st2 (λb hb=>(f2 b hb).1) lp (λσ' H' s' I' k=>⟨rfl,σ',H',I',k⟩);exact qd h1 loop (T.self _ 0 _ _ _ st2 loop)
end
noncomputable def zV(k:Nat)(g:TG)(tt:TT)(b:Addr->TB)(σ:St)(J:It)(H1:Hp)(D:Addr)(Q:VK):Prop:=DC J g tt (b D) (abh k none++σ) (upd H1 D (.lst [])) (λ_ H'=>Q (.ref D) H')
noncomputable def DE(k:Nat)(wi:TI)(g:TG)(tt:TT)(b:Addr->TB):TE:=λσ H Q=>wi σ H λJ H1=> ∀D,H1 D=none->zV k g tt b σ J H1 D Q
section
variable{X:Cx}{sc:Scope}{own N2:List Str}
theorem BD{elt iter tg:Expr}{ifs:List Expr}{cls:List Comprehension}{pos Jq:Pos}{wi:TI}{g:TG}{tt:TT}{b:Addr->TB}{use:Option (Value->Sem Unit)}{Qf:Value->Shared->Prop}(hc:X.calm=true)(hi:PI X tg iter wi)(B:qR sc.names X.env.scope.names own N2 X.N)(hk:sc.kind= .function)
  (hg:∀s H fp,PG (X.comp sc (own++N2) s H fp) tg g)(ht:∀s H fp,SX (X.comp sc (own++N2) s H fp) ifs tt)(hb:∀s H fp D,PN (X.comp sc (own++N2) s H fp) (.ListComp elt (⟨tg,iter,ifs,0⟩::cls) sc pos) elt (⟨tg,iter,ifs,0⟩::cls) 0 D (b D))
  (Nj:∀s H fp g',(⟨tg,iter,ifs,0⟩::cls:List Comprehension)[0+1]?=some g'->g'.is_async=0/\ ∀x,foldedSetIterable g'.iter (X.comp sc (own++N2) s H fp).env x=pure x)
  (hs:∀x,foldedSetIterable iter X.env x=pure x){pins:List (Addr×Obj)}{s0:Shared}{σ:St}{H0:Hp}{Q:VK}(I0:Inv X pins σ H0 s0)(h0:DE own.length wi g tt b σ H0 Q)
  (Jr:∀s H fp,Inv X pins σ H s->(∀b∈fp,gb X pins H b) -> ∀(σ':St)(H':Hp)(s':Shared),Inv (X.comp sc (own++N2) s H fp) [] σ' H' s'->Q (.ref s.heap.objs.size) H'->
   compPost (model X.prog X.w) X.A X.xe use Qf (.ref s.heap.objs.size) (s.heap.objs.size+1) (.ok .next) s'):
  wpAny (model X.prog X.w) X.A (comprehension (.ListComp elt (⟨tg,iter,ifs,0⟩::cls) sc pos) sc X.env Jq (newList []) false (eval iter X.env) use) Qf X.xe s0:=by
 refine wpAny_comprehension_free (use:=use) rfl hs (pq I0 B) hk (λy hy hl=>cH B.nd (by rw[<-hl];exact hy)) ?_;refine wpAny_mono (hi pins s0 σ H0 _ I0 h0) (λv s1 h1=>wpAny_mono h1 (λitv s h2=> ?_) λ_ _ e=>e) λ_ _ e=>e;obtain⟨it,fp,tn,J,H,e,I,T,st,hf,rd⟩:=h2;subst e;have ho:∀b∈fp,∃o,s.heap.get? b=some o:=λb hb=>let⟨o,e,_⟩:=T.obj 0 _ st b hb;⟨o,e⟩
 have lp:=rd s.heap.objs.size I.fresh;unfold zV at lp;refine wpAny_newObj_type ?_;refine iI ?_;have IB:=wo I B hk hf ho;have MM:∀{H':Hp},(∀b∈fp,H' b=none) -> ∀b∈fp,gb (X.comp sc (own++N2) s H fp) [] H' b:=λhn b hb=>by
  have ok:=IB.ok;refine⟨hn b hb,(ok.Mb b hb).1,ok.AS b hb,.inl hb,λy c hc=>(ok.Mb b hb).2 y c hc,λp hp=> ?_⟩;have lD:p∈([]:List (Addr×Obj)):=hp;cases lD
 have lt:∀b∈fp,b≠s.heap.objs.size:=λb hb=>let⟨o,e⟩:=ho b hb;aaI (Heap.lt_size e)
 have fin:=Jr s H fp I hf;have loop:∀s3:Shared,s3={s with heap:=pushCells ((s.heap.push {cls:= .type "list",dict:=none,data:= .seq ([]:List Value).toArray}).push {cls:= .type "dict",data:= .dict #[]}) sc.names} ->
   codeAny (model X.prog X.w) X.A (.compLoop (.ListComp elt (⟨tg,iter,ifs,0⟩::cls) sc pos) 0 (.ref it) (.ref s.heap.objs.size) (X.comp sc (own++N2) s H fp).env)
    (compPost (model X.prog X.w) X.A X.xe use Qf (.ref s.heap.objs.size) (s.heap.objs.size+1)) s3:=by
  rintro s3 rfl;refine uI (X:=X.comp sc (own++N2) s H fp) (λ_ _ z=>z) hc rfl (Nj s H fp) T (hg s H fp) (ht s H fp) (hb s H fp s.heap.objs.size) MM IB (T.keep _ _ _ st λb _ o e=>pushCells_keeps _ _ b o (Heap.get?_push_of_some _ (Heap.get?_push_of_some _ e))) (λb hb=> ?_) lp (λσ' H' s' I' k=>fin σ' H' s' I' k);rw[aH (lt b hb)];exact(hf b hb).1
 have e1:(s.heap.push {cls:= .type "list",dict:=none,data:= .seq ([]:List Value).toArray}).objs.size=s.heap.objs.size+1:=Heap.size_push ..;dsimp only;rw[e1];exact codeAny_compStart_list (loop _ rfl) (T.self _ 0 _ _ _ (T.keep _ _ _ st λb _ o e=>pushCells_keeps _ _ b o (Heap.get?_push_of_some _ (Heap.get?_push_of_some _ e))) (loop _ rfl))
theorem Hu{elt iter tg:Expr}{ifs:List Expr}{cls:List Comprehension}{pos:Pos}{wi:TI}{g:TG}{tt:TT}{b:Addr->TB}(hc:X.calm=true)(hi:PI X tg iter wi)(B:qR sc.names X.env.scope.names own N2 X.N)(hk:sc.kind= .function)
  (hg:∀s H fp,PG (X.comp sc (own++N2) s H fp) tg g)(ht:∀s H fp,SX (X.comp sc (own++N2) s H fp) ifs tt)(hb:∀s H fp D,PN (X.comp sc (own++N2) s H fp) (.ListComp elt (⟨tg,iter,ifs,0⟩::cls) sc pos) elt (⟨tg,iter,ifs,0⟩::cls) 0 D (b D))
  (Nj:∀s H fp g',(⟨tg,iter,ifs,0⟩::cls:List Comprehension)[0+1]?=some g'->g'.is_async=0/\ ∀x,foldedSetIterable g'.iter (X.comp sc (own++N2) s H fp).env x=pure x)
  (hs:∀x,foldedSetIterable iter X.env x=pure x:=by intro _;rfl):PE X (.ListComp elt (⟨tg,iter,ifs,0⟩::cls) sc pos) (DE own.length wi g tt b):=by
 intro pins s0 σ H0 Q I0 h0;rw[eval_ListComp];refine BD (use:=none) hc hi B hk hg ht hb Nj hs I0 h0 λs H fp I hf σ' H' s' JB q=> ?_;obtain⟨m,hn,_⟩:=JB.loc;exact⟨m,hn,λh' sb=>⟨.ref s.heap.objs.size,H',I.Js (I.Df hf JB) JB.free sb,rfl,q⟩⟩
variable{x y:Str}{px FJ:Pos}{elt iter kF:Expr}{pos:Pos}{wi JG:TI}{te:TE}
theorem Nl(hc:X.calm=true)(hi:PI X (.Name x px) iter wi)(hB:Bg sc.names X.env.scope.names [x,y] N2 X.N=true)(hk:sc.kind= .function)(hi2:∀s H fp,PI (X.comp sc ([x,y]++N2) s H fp) (.Name y FJ) kF JG)(he:∀s H fp,PE (X.comp sc ([x,y]++N2) s H fp) elt te)
  (hs2:∀s H fp z,foldedSetIterable kF (X.comp sc ([x,y]++N2) s H fp).env z=pure z:=by intro _ _ _ _;rfl)(hs:∀x,foldedSetIterable iter X.env x=pure x:=by intro _;rfl):
  PE X (.ListComp elt [⟨.Name x px,iter,[],0⟩,⟨.Name y FJ,kF,[],0⟩] sc pos) (DE 2 wi (dP 0) Kh λD=>zU JG (dP 1) Kh (Kl te D)):=
 Hu (own:=[x,y]) hc hi (kC hB) hk (λs H fp=>rg (i:=0) (kC hB) rfl s H fp) (λs H fp=>FP)
  (λs H fp D=>Ht (X:=X.comp sc ([x,y]++N2) s H fp) (λ_ _ z=>z) hc rfl (λg' h=>by cases h) (hi2 s H fp) (rg (i:=1) (kC hB) rfl s H fp) FP (Nk (X:=X.comp sc ([x,y]++N2) s H fp) (λ_ _ z=>z) rfl (he s H fp)))
  (λs H fp g' h=>by cases h;exact⟨rfl,hs2 s H fp⟩) hs
end
section
variable{X:Cx}
end
noncomputable def yV(i:Nat)(z:Int):Nat->Int:=λj=>if j=i then z else 0
theorem kh{m:List (List Int)}(h:br m)(x y:Nat->Int):au m x y=au m y x:=by
 obtain⟨⟨s1,s2,s3⟩,_⟩:=h;rw[aT,aT,s1,s2,s3]
 grind
theorem eH{m:List (List Int)}{x y x' y':Nat->Int}(h:∀i,i<3->x i=x' i)(k:∀i,i<3->y i=y' i):au m x y=au m x' y':=by
 rw[aT,aT,h 0 (by decide),h 1 (by decide),h 2 (by decide),k 0 (by decide),k 1 (by decide),k 2 (by decide)]
noncomputable def In(M:(Nat->Int) ->Prop)(L:List (List Int)):Prop:=∀r∈L,M (aL r)
end L2
namespace zW
open PySem PyProof.Rows
noncomputable def Nm:Bool->Keyed->Array Keyed->Nat->Nat->Nat->StateT SortSt Sem (Option Nat):=sortPriv%PySem.Builtin.gallop
noncomputable def Wh:Array Keyed->Array Keyed->StateT SortSt Sem (Array Keyed):=sortPriv%PySem.Builtin.mergeLo
noncomputable def Wi:Array Keyed->Array Keyed->StateT SortSt Sem (Array Keyed):=sortPriv%PySem.Builtin.mergeHi
noncomputable def SY:Nat->StateT SortSt Sem Unit:=sortPriv%PySem.Builtin.setMinGallop
noncomputable def Xy(lf:Bool)(ky:Keyed)(ar:Array Keyed)(b0 i:Nat):StateT SortSt Sem (Option Bool):=do
 let x<-elem' ar (b0+i)
 if lf then lt' x ky else return(<-lt' ky x).map (!·)
noncomputable abbrev GS:=Option (Option Nat)×Nat×Nat
noncomputable def UB(bd:Nat->StateT SortSt Sem (Option Bool))(n h mx:Nat):StateT SortSt Sem GS:=
 forIn [:n] ((none,0,1):GS) λ_ c=>
  if c.2.2≥mx then pure (ForInStep.done (none,c.2.1,c.2.2))else do
   let r<-bd (h+c.2.2)
   match r with
   |some more=>if(!more)=true then pure (ForInStep.done (none,c.2.1,c.2.2))else pure (ForInStep.yield (none,c.2.2,2*c.2.2+1))
   |_=>pure (ForInStep.done (some none,c.2.1,c.2.2))
noncomputable def UC(bd:Nat->StateT SortSt Sem (Option Bool))(n h mx:Nat):StateT SortSt Sem GS:=
 forIn [:n] ((none,0,1):GS) λ_ c=>
  if c.2.2≥mx then pure (ForInStep.done (none,c.2.1,c.2.2))else do
   let r<-bd (h-c.2.2)
   match r with
   |some f=>if f=true then pure (ForInStep.done (none,c.2.1,c.2.2))else pure (ForInStep.yield (none,c.2.2,2*c.2.2+1))
   |_=>pure (ForInStep.done (some none,c.2.1,c.2.2))
noncomputable def Tc(bd:Nat->StateT SortSt Sem (Option Bool))(n lo hi:Nat):StateT SortSt Sem (Option Nat):=do
 let c<-forIn [:n] ((none,lo,hi):GS) λ_ c=>
  if c.2.1≥c.2.2 then pure (ForInStep.done (none,c.2.1,c.2.2))else do
   let r<-bd (c.2.1+(c.2.2-c.2.1)/2)
   match r with
   |some more=>if more=true then pure (ForInStep.yield (none,c.2.1+(c.2.2-c.2.1)/2+1,c.2.2))else pure (ForInStep.yield (none,c.2.1,c.2.1+(c.2.2-c.2.1)/2))
   |_=>pure (ForInStep.done (some none,c.2.1,c.2.2))
 match c.1 with
 |some r=>pure r
 |none=>pure (some c.2.2)
noncomputable def Nn(bd:Nat->StateT SortSt Sem (Option Bool))(n h:Nat):StateT SortSt Sem (Option Nat):=do
 let r<-bd h
 match r with
 |some right=>
  if right=true then do
   let c<-UB bd n h (n-h)
   match c.1 with
   |some r=>pure r
   |none=>Tc bd n (h+c.2.1+1) (h+min c.2.2 (n-h))
  else do
   let c<-UC bd n h (h+1)
   match c.1 with
   |some r=>pure r
   |none=>Tc bd n (h+1-min c.2.2 (h+1)) (h-c.2.1)
 |_=>pure none
theorem Qk(lf:Bool)(ky:Keyed)(ar:Array Keyed)(b0 n h:Nat):Nm lf ky ar b0 n h=(do
 let bd (i:Nat):StateT SortSt Sem (Option Bool):=do
  let x<-elem' ar (b0+i)
  if lf then lt' x ky else return(<-lt' ky x).map (!·)
 let mut l:=0
 let mut o:=1
 let mut u:=0
 let mut v:=0
 let some r<-bd h|return none
 if r then
  let mx:=n-h
  for _ in [0:n] do
   if o≥mx then break
   let some m<-bd (h+o)|return none
   if !m then break
   l:=o
   o:=2*o+1
  u:=h+l+1
  v:=h+min o mx
 else
  let mx:=h+1
  for _ in [0:n] do
   if o≥mx then break
   let some m<-bd (h-o)|return none
   if m then break
   l:=o
   o:=2*o+1
  u:=h+1-min o mx
  v:=h-l
 for _ in [0:n] do
  if u≥v then break
  let q:=u+(v-u)/2
  let some m<-bd q|return none
  if m then u:=q+1 else v:=q
 return some v):=rfl
theorem Ql(lf:Bool)(ky:Keyed)(ar:Array Keyed)(b0 n h:Nat):Nm lf ky ar b0 n h=Nn (Xy lf ky ar b0) n h:=by
 rw[Qk];unfold Nn UB UC Tc;dsimp only
 congr 1
 funext r
 cases r with
 |none=>rfl
 |some r=>
  dsimp only
  split
  ·congr 1
   funext c
   obtain⟨c1,c2,c3⟩:=c
   cases c1 with
   |some c=>rfl
   |none=>
    dsimp only
    congr 1
    funext c
    obtain⟨c1,c2,c3⟩:=c;cases c1<;>rfl
  ·congr 1
   funext c
   obtain⟨c1,c2,c3⟩:=c
   cases c1 with
   |some c=>rfl
   |none=>
    dsimp only
    congr 1
    funext c
    obtain⟨c1,c2,c3⟩:=c;cases c1<;>rfl
section
variable{M:Model}{A:Around}{E:Value->Shared->Prop}{s:Shared}{st:SortSt}{b:Nat->Bool}{n:Nat}{bd:Nat->StateT SortSt Sem (Option Bool)}
theorem w_up{h:Nat}{Q:GS->SortSt->Prop}(hb:∀i,i<n-> ∀Q:Option Bool->SortSt->Prop,Q (some (b i)) st->wpS M A E s (bd i) Q st)(mono:∀i j,i<=j->j<n->b j=true->b i=true)
  (hh:h<n)(h0:b h=true)(hq:∀l o,l<o->h+l<n->b (h+l)=true->(n-h<=o∨(h+o<n/\b (h+o)=false)) ->Q (none,l,o) st):wpS M A E s (UB bd n h (n-h)) Q st:=by
 unfold UB;refine wpS_forRange (I:=λx c st'=>st'=st/\ ∃l o,c=(none,l,o)/\l<o/\h+l<n/\b (h+l)=true/\x<o) ?_ ?_ ⟨rfl,0,1,rfl,by omega,by omega,h0,by omega⟩
 ·rintro x c st' _ hx ⟨rfl,l,o,rfl,h1,h2,h3,h4⟩
  dsimp only
  by_cases hm:o≥n-h
  ·rw[if_pos hm]
   exact wpS_pure (hq l o h1 h2 h3 (.inl hm))
  ·rw[if_neg hm]
   refine wpS_bind (hb _ (by omega) _ ?_);dsimp only;cases e:b (h+o)with
   |true=>
    simp only[ad1,aaz,if_false];exact wpS_pure ⟨rfl,o,2*o+1,rfl,by omega,by omega,e,by omega⟩
   |false=>
    simp only[Bool.not_false,if_true];exact wpS_pure (hq l o h1 h2 h3 (.inr ⟨by omega,e⟩))
 ·rintro c st' ⟨rfl,l,o,rfl,h1,h2,h3,h4⟩
  exact hq l o h1 h2 h3 (.inl (by omega))
theorem Wj{h:Nat}{Q:GS->SortSt->Prop}(hb:∀i,i<n-> ∀Q:Option Bool->SortSt->Prop,Q (some (b i)) st->wpS M A E s (bd i) Q st)
  (hh:h<n)(h0:b h=false)(hq:∀l o,l<o->l<=h->b (h-l)=false->(h+1<=o∨(o<=h/\b (h-o)=true)) ->Q (none,l,o) st):wpS M A E s (UC bd n h (h+1)) Q st:=by
 unfold UC;refine wpS_forRange (I:=λx c st'=>st'=st/\ ∃l o,c=(none,l,o)/\l<o/\l<=h/\b (h-l)=false/\x<o) ?_ ?_ ⟨rfl,0,1,rfl,by omega,by omega,h0,by omega⟩
 ·rintro x c st' _ hx ⟨rfl,l,o,rfl,h1,h2,h3,h4⟩
  dsimp only
  by_cases hm:o≥h+1
  ·rw[if_pos hm]
   exact wpS_pure (hq l o h1 h2 h3 (.inl hm))
  ·rw[if_neg hm]
   refine wpS_bind (hb _ (by omega) _ ?_);dsimp only;cases e:b (h-o)with
   |true=>
    simp only[if_true];exact wpS_pure (hq l o h1 h2 h3 (.inr ⟨by omega,e⟩))
   |false=>
    simp only[aaz,if_false];exact wpS_pure ⟨rfl,o,2*o+1,rfl,by omega,by omega,e,by omega⟩
 ·rintro c st' ⟨rfl,l,o,rfl,h1,h2,h3,h4⟩
  exact hq l o h1 h2 h3 (.inl (by omega))
theorem Td{lo hi:Nat}{Q:Option Nat->SortSt->Prop}(hb:∀i,i<n-> ∀Q:Option Bool->SortSt->Prop,Q (some (b i)) st->wpS M A E s (bd i) Q st)(mono:∀i j,i<=j->j<n->b j=true->b i=true)
  (Te:lo<=hi)(hn:hi<=n)(h1:∀i,i<lo->b i=true)(h2:∀i,hi<=i->i<n->b i=false)(hq:∀k,k<=n->(∀i,i<k->b i=true) ->(∀i,k<=i->i<n->b i=false) ->Q (some k) st):
  wpS M A E s (Tc bd n lo hi) Q st:=by
 unfold Tc;refine wpS_bind (wpS_mono (wpS_forRange (I:=λx c st'=>st'=st/\ ∃l o,c=(none,l,o)/\l<=o/\o<=n/\(∀i,i<l->b i=true)/\(∀i,o<=i->i<n->b i=false)/\(o-l)+x<=n)
  (Q:=λc st'=>st'=st/\ ∃o,c=(none,o,o)/\o<=n/\(∀i,i<o->b i=true)/\(∀i,o<=i->i<n->b i=false)) ?_ ?_ ⟨rfl,lo,hi,rfl,Te,hn,h1,h2,by omega⟩) ?_)
 ·rintro x c st' _ hx ⟨rfl,l,o,rfl,a1,a2,a3,a4,a5⟩
  dsimp only
  by_cases hm:l≥o
  ·rw[if_pos hm]
   have e:l=o:=by omega
   subst e;exact wpS_pure ⟨rfl,l,rfl,a2,a3,a4⟩
  ·rw[if_neg hm]
   refine wpS_bind (hb _ (by omega) _ ?_);dsimp only;cases e:b (l+(o-l)/2)with
   |true=>
    simp only[if_true];exact wpS_pure ⟨rfl,_,_,rfl,by(clear e a5 a4 a3 a2 a1 hq hb hx h2 h1 hn Te mono;omega),a2,λi hi=>mono i _ (by omega) (by omega) e,a4,by(clear e a4 a3 a2 a1 hq hb h2 h1 hn Te mono;omega)⟩
   |false=>
    simp only[aaz,if_false];refine wpS_pure ⟨rfl,_,_,rfl,by omega,by omega,a3,λi hi hin=> ?_,by(clear e hm a4 a3 a2 a1 hq hb h2 h1 hn Te mono;omega)⟩
    cases e2:b i with
    |false=>rfl
    |true=>rw[mono _ i hi hin e2]at e;cases e
 ·rintro c st' ⟨rfl,l,o,rfl,a1,a2,a3,a4,a5⟩
  have e:l=o:=by(clear a4 a3 a2 hq hb h2 h1 hn Te mono;omega)
  subst e;exact⟨rfl,l,rfl,a2,a3,a4⟩
 ·rintro c st' ⟨rfl,o,rfl,a2,a3,a4⟩
  exact wpS_pure (hq o a2 a3 a4)
theorem Qm{h:Nat}{Q:Option Nat->SortSt->Prop}(hb:∀i,i<n-> ∀Q:Option Bool->SortSt->Prop,Q (some (b i)) st->wpS M A E s (bd i) Q st)(mono:∀i j,i<=j->j<n->b j=true->b i=true)
  (hh:h<n)(hq:∀k,k<=n->(∀i,i<k->b i=true) ->(∀i,k<=i->i<n->b i=false) ->Q (some k) st):wpS M A E s (Nn bd n h) Q st:=by
 unfold Nn;have anti:∀i j,i<=j->j<n->b i=false->b j=false:=λi j h1 h2 h3=>by
  cases e:b j with
  |false=>rfl
  |true=>rw[mono i j h1 h2 e]at h3;cases h3
 refine wpS_bind (hb h hh _ ?_);dsimp only
 cases e:b h with
 |true=>
  simp only[if_true];refine wpS_bind (w_up hb mono hh e λl o a1 a2 a3 a4=> ?_);dsimp only;refine Td hb mono (by omega) (by omega) (λi hi=>mono i (h+l) (by omega) a2 a3) (λi hi hin=> ?_) hq;rcases a4 with a4|a4
  ·omega
  ·exact anti (h+o) i (by omega) hin a4.2
 |false=>
  simp only[aaz,if_false];refine wpS_bind (Wj hb hh e λl o a1 a2 a3 a4=> ?_);dsimp only;refine Td hb mono (by(clear a4 a3 e anti hq hh mono hb;omega)) (by omega) (λi hi=> ?_) (λi hi hin=>anti (h-l) i (by omega) hin a3) hq;rcases a4 with a4|a4
  ·(clear a3 a2 a1 e anti hq hh mono hb;omega)
  ·exact mono i (h-o) (by(clear a3 a2 a1 e anti hq hh mono hb;omega)) (by omega) a4.2
end
noncomputable def rq(prog:Program)(w:World)(A:Around)(E:Value->Shared->Prop)(s:Shared)(κ:SortKind)(K:Keyed->Int)(D:Keyed->Prop):Prop:=
 ∀(st:SortSt)(x y:Keyed)(Q:Option Bool->SortSt->Prop),kindOf st=κ->D x->D y->Q (some (decide (K x<K y))) st->wpS (model prog w) A E s (lt' x y) Q st
section
variable{prog:Program}{w:World}{A:Around}{E:Value->Shared->Prop}{s:Shared}{κ:SortKind}{K:Keyed->Int}{D:Keyed->Prop}{st:SortSt}
theorem bu{ar:Array Keyed}{i:Nat}{x:Keyed}{Q:Keyed->SortSt->Prop}{M:Model}(h:ar[i]?=some x)(hq:Q x st):wpS M A E s (elem' ar i) Q st:=by
 rw[elem'_eq,h];exact wpS_pure hq
theorem lJ(hL:rq prog w A E s κ K D){lf:Bool}{ky:Keyed}{ar:Array Keyed}{b0 n h:Nat}{Q:Option Nat->SortSt->Prop}(hk:kindOf st=κ)(xs:List Keyed)(hx:∀i,i<n->ar[b0+i]?=xs[i]?)(hn:n=xs.length)
  (hD:∀x∈xs,D x)(Xz:D ky)(hs:xs.Pairwise λx y=>K x<=K y)(hh:h<n)
  (hq:∀k,k<=n->(∀x∈xs.take k,if lf then K x<K ky else K x<=K ky) ->(∀x∈xs.drop k,if lf then K ky<=K x else K ky<K x) ->Q (some k) st):wpS (model prog w) A E s (Nm lf ky ar b0 n h) Q st:=by
 rw[Ql];have gd:∀i,i<n-> ∃x,xs[i]?=some x/\x∈xs:=λi hi=>⟨xs[i]'(by omega),aaq _,ado _⟩;refine Qm (b:=λi=>match xs[i]? with|some x=>(if lf then decide (K x<K ky)else !decide (K ky<K x))|none=>false) (λi hi Q hQ=> ?_) (λi j hij hj hb=> ?_) hh (λk hk1 h1 h2=>hq k hk1 (λx hx=> ?_) (λx hx=> ?_))
 ·obtain⟨x,e,m⟩:=gd i hi
  rw[e]at hQ;dsimp only at hQ;unfold Xy;refine wpS_bind (bu ((hx i hi).trans e) ?_)
  cases lf with
  |true=>
   simp only[if_true]at hQ ⊢;exact hL st x ky Q hk (hD x m) Xz hQ
  |false=>
   simp only[aaz,if_false]at hQ ⊢;refine wpS_bind (hL st ky x _ hk Xz (hD x m) ?_);exact wpS_pure hQ
 ·obtain⟨x,ex,mx⟩:=gd i (by omega)
  obtain⟨y,ey,my⟩:=gd j hj;have le:K x<=K y:=by
   rcases acF i j with q|q
   ·have a:=abj.mp hs i j (by omega) (by omega) q
    rw[aaq (by omega)]at ex ey;rw[<-Option.some.inj ex,<-Option.some.inj ey];exact a
   ·have:i=j:=by omega
    subst this;rw[ex]at ey;rw[Option.some.inj ey];exact aaZ _
  rw[ey]at hb;rw[ex];dsimp only at hb ⊢
  cases lf with
  |true=>
   simp only[if_true,decide_eq_true_eq]at hb ⊢;omega
  |false=>
   simp only[aaz,if_false,Bool.not_eq_true',decide_eq_false_iff_not]at hb ⊢;omega
 ·obtain⟨i,hi,rfl⟩:=ac9.mp hx
  have hi':i<k:=by omega
  have b:=h1 i hi';rw[aaq (by omega)]at b;dsimp only at b
  cases lf with
  |true=>simpa using b
  |false=>simpa using b
 ·obtain⟨i,hi,rfl⟩:=List.mem_drop_iff_getElem.mp hx
  have b:=h2 (k+i) (by omega) (by omega);rw[aaq (by omega)]at b;dsimp only at b
  cases lf with
  |true=>simpa using b
  |false=>simpa using b
end
theorem se(g:Nat):SY g=modify λz=>SortSt.mk' (kindOf z) (arrOf z) (pendingOf z) g (failedOf z):=rfl
structure MG(K:Keyed->Int)(tot out ra rb:List Keyed):Prop where
 perm:(out++(ra++rb)).Perm tot
 so:out.Pairwise λx y=>K x<=K y
 sa:ra.Pairwise λx y=>K x<=K y
 sb:rb.Pairwise λx y=>K x<=K y
 oa:∀x∈out,∀y∈ra,K x<=K y
 ob:∀x∈out,∀y∈rb,K x<=K y
theorem MG.yW{K:Keyed->Int}{tot out l ra rb:List Keyed}(h:MG K tot out (l++ra) rb)(hb:∀x∈l,∀y∈rb,K x<=K y):MG K tot (out++l) ra rb:=by
 have sa:=aa2.mp h.sa;refine⟨?_,aa2.mpr ⟨h.so,sa.1,λx hx y hy=>h.oa x hx y (aa1 _ hy)⟩,sa.2.1,h.sb,λx hx y hy=> ?_,λx hx y hy=> ?_⟩
 ·have:=h.perm
  simpa [abo]using this
 ·rcases aaE.mp hx with q|q
  ·exact h.oa x q y (aam _ hy)
  ·exact sa.2.2 x q y hy
 ·rcases aaE.mp hx with q|q
  ·exact h.ob x q y hy
  ·exact hb x q y hy
theorem MG.swap{K:Keyed->Int}{tot out ra rb:List Keyed}(h:MG K tot out ra rb):MG K tot out rb ra:=
 ⟨(List.Perm.append_left out acH).trans h.perm,h.so,h.sb,h.sa,h.ob,h.oa⟩
theorem MG.uJ{K:Keyed->Int}{tot out l ra rb:List Keyed}(h:MG K tot out ra (l++rb))(hb:∀x∈l,∀y∈ra,K x<=K y):MG K tot (out++l) ra rb:=(h.swap.yW hb).swap
theorem MG.iL{K:Keyed->Int}{tot out ra rb:List Keyed}{x:Keyed}(h:MG K tot out (x::ra) rb)(hb:∀y∈rb,K x<=K y):MG K tot (out++ [x]) ra rb:=
 MG.yW (l:=[x]) h λz hz y hy=>by rw[aap.mp hz];exact hb y hy
theorem MG.pT{K:Keyed->Int}{tot out ra rb:List Keyed}{x:Keyed}(h:MG K tot out ra (x::rb))(hb:∀y∈ra,K x<=K y):MG K tot (out++ [x]) ra rb:=(h.swap.iL hb).swap
noncomputable def Good(K:Keyed->Int)(tot r:List Keyed):Prop:=r.Perm tot/\r.Pairwise λx y=>K x<=K y
theorem MG.fin{K:Keyed->Int}{tot out ra rb r:List Keyed}(h:MG K tot out ra rb)(p:r.Perm (ra++rb))(s:r.Pairwise λx y=>K x<=K y):Good K tot (out++r):=by
 refine⟨(List.Perm.append_left out p).trans h.perm,aa2.mpr ⟨h.so,s,λx hx y hy=> ?_⟩⟩;rcases aaE.mp (p.mem_iff.mp hy)with q|q
 ·exact h.oa x hx y q
 ·exact h.ob x hx y q
theorem fE{K:Keyed->Int}{x:Keyed}{l:List Keyed}(h:(x::l).Pairwise λx y=>K x<=K y):∀y∈x::l,K x<=K y:=λy hy=>by
 rcases aar.mp hy with e|hy
 ·rw[e];exact aaZ _
 ·exact(ab7.mp h).1 y hy
theorem Qn(a b:Array Keyed):Wh a b=(do
 rule "list.sort.merge-lo"
 let tt:=a.size+b.size
 let fin (o:Array Keyed) (i j:Nat):=o++a.extract i a.size++b.extract j b.size
 let fla (o:Array Keyed) (i j:Nat):=o++b.extract j b.size++a.extract i a.size
 let mut o:Array Keyed:= #[<-elem' b 0]
 let mut i:=0
 let mut j:=1
 if j==b.size then return fin o i j
 if i+1==a.size then return fla o i j
 let mut g:=gallopOf (<-get)
 for _ in [0:tt] do
  let mut ca:=0
  let mut cb:=0
  for _ in [0:tt] do
   let some bw<-lt' (<-elem' b j) (<-elem' a i)|return fin o i j
   if bw then
    o:=o.push (<-elem' b j);j:=j+1;cb:=cb+1;ca:=0
    if j==b.size then return fin o i j
    if cb≥g then break
   else
    o:=o.push (<-elem' a i);i:=i+1;ca:=ca+1;cb:=0
    if i+1==a.size then return fla o i j
    if ca≥g then break
  rule "list.sort.gallop"
  g:=g+1
  for _ in [0:tt] do
   if g>1 then g:=g-1
   SY g
   let some k<-Nm false (<-elem' b j) a i (a.size-i) 0|return fin o i j
   ca:=k
   if k>0 then
    o:=o++a.extract i (i+k);i:=i+k
    if i+1==a.size then return fla o i j
    if i==a.size then return fin o i j
   o:=o.push (<-elem' b j);j:=j+1
   if j==b.size then return fin o i j
   let some k<-Nm true (<-elem' a i) b j (b.size-j) 0|return fin o i j
   cb:=k
   if k>0 then
    o:=o++b.extract j (j+k);j:=j+k
    if j==b.size then return fin o i j
   o:=o.push (<-elem' a i);i:=i+1
   if i+1==a.size then return fla o i j
   if ca<7 && cb<7 then break
  g:=g+1
  SY g
 @unsupported _ "internal:list.sort.merge-bound"):=rfl
noncomputable def Sg(st st':SortSt):Prop:=kindOf st'=kindOf st/\arrOf st'=arrOf st/\pendingOf st'=pendingOf st/\failedOf st'=failedOf st
theorem Sg.refl(st:SortSt):Sg st st:=⟨rfl,rfl,rfl,rfl⟩
theorem Sg.set{st st':SortSt}(h:Sg st st')(g:Nat):Sg st (SortSt.mk' (kindOf st') (arrOf st') (pendingOf st') g (failedOf st')):=h
section
variable{prog:Program}{w:World}{A:Around}{E:Value->Shared->Prop}{s:Shared}{κ:SortKind}{K:Keyed->Int}{D:Keyed->Prop}{st:SortSt}
noncomputable def LI(K:Keyed->Int)(a b o:Array Keyed)(i j:Nat):Prop:=MG K (a.toList++b.toList) o.toList (a.toList.drop i) (b.toList.drop j)/\i+1<a.size/\j<b.size
theorem jm{a:Array Keyed}{i:Nat}(h:i<a.size):∃x,a[i]?=some x/\x∈a.toList/\a.toList.drop i=x::a.toList.drop (i+1):=
 ⟨a[i],getElem?_pos a i h,by simp,by rw[abi (by simpa using h)];simp⟩
theorem iZ(a:Array Keyed)(i k:Nat):a.toList.drop i=(a.toList.drop i).take k++a.toList.drop (i+k):=by
 rw[<-abk,aaV]
theorem Km{o a b:Array Keyed}{i j:Nat}:(o++a.extract i a.size++b.extract j b.size).toList=o.toList++(a.toList.drop i++b.toList.drop j):=by
 have e1:List.take (a.size-i) (ad0 i a.toList)=ad0 i a.toList:=aaP (by simp);have e2:List.take (b.size-j) (ad0 j b.toList)=ad0 j b.toList:=aaP (by simp);simp[abo,e1,e2]
theorem pD{a:Array Keyed}{i k:Nat}:(a.extract i (i+k)).toList=(a.toList.drop i).take k:=by
 simp[List.take_drop,ac4]
theorem LI.fin{a b o:Array Keyed}{i j:Nat}(h:MG K (a.toList++b.toList) o.toList (a.toList.drop i) (b.toList.drop j))(hj:i=a.size∨j=b.size):Good K (a.toList++b.toList) (o++a.extract i a.size++b.extract j b.size).toList:=by
 rw[Km];refine h.fin (.refl _) ?_;rcases hj with rfl|rfl
 ·rw[ab6 (by simp),acU]
  exact h.sb
 ·rw[ab6 (as:=b.toList) (by simp),aba]
  exact h.sa
theorem LI.fla{a b o:Array Keyed}{i j:Nat}(h:MG K (a.toList++b.toList) o.toList (a.toList.drop i) (b.toList.drop j))(hj:i+1=a.size)(hl:∀y∈b.toList,∀x∈a.toList.drop (a.size-1),K y<=K x):Good K (a.toList++b.toList) (o++b.extract j b.size++a.extract i a.size).toList:=by
 rw[Km];refine h.fin acH (aa2.mpr ⟨h.sb,h.sa,λy hy x hx=>hl y (aaS hy) x ?_⟩);rw[<-hj,Nat.add_sub_cancel];exact hx
theorem Tg(hL:rq prog w A E s κ K D){a b:Array Keyed}{Q:Array Keyed->SortSt->Prop}(hk:kindOf st=κ)(ha:0<a.size)(hb:0<b.size)(Da:∀x∈a.toList,D x)(Db:∀x∈b.toList,D x)
  (sa:a.toList.Pairwise λx y=>K x<=K y)(sb:b.toList.Pairwise λx y=>K x<=K y)(h1:∀y∈b.toList.take 1,∀x∈a.toList,K y<=K x)(h2:∀y∈b.toList,∀x∈a.toList.drop (a.size-1),K y<=K x)
  (hq:∀r st',Sg st st'->Good K (a.toList++b.toList) r.toList->Q r st'):wpS (model prog w) A E s (Wh a b) Q st:=by
 rw[Qn];refine wpS_bind (wpS_lift (wpAny_rule ⟨rfl,?_⟩));dsimp only;obtain⟨b0,e0,m0,d0⟩:=jm (a:=b) (i:=0) hb;refine wpS_bind (bu e0 ?_);have M0:MG K (a.toList++b.toList) (#[b0]:Array Keyed).toList (a.toList.drop 0) (b.toList.drop 1):=by
  refine⟨?_,adm _ _,sa,?_,λx hx y hy=> ?_,λx hx y hy=> ?_⟩
  ·show([b0]++(a.toList++b.toList.drop 1)).Perm _
   have e:b.toList=b0::b.toList.drop 1:=d0
   conv=>rhs;rw[e]
   exact(List.perm_middle (l₁:=a.toList) (l₂:=b.toList.drop 1) (a:=b0)).symm
  ·exact List.Pairwise.sublist (List.drop_sublist _ _) sb
  ·rw[aap.mp hx]
   have e:b.toList=b0::b.toList.drop 1:=d0;exact h1 b0 (by rw[e];simp) y hy
  ·rw[aap.mp hx]
   have e:b.toList=b0::b.toList.drop 1:=d0;rw[e]at sb;exact fE sb y (aay _ hy)
 by_cases c1:(1==b.size)=true
 ·rw[if_pos c1]
  exact wpS_pure (hq _ _ (Sg.refl _) (LI.fin M0 (.inr (by simpa using c1))))
 rw[if_neg c1]
 by_cases c2:(0+1==a.size)=true
 ·rw[if_pos c2]
  exact wpS_pure (hq _ _ (Sg.refl _) (LI.fla M0 (by simpa using c2) h2))
 rw[if_neg c2];have n1:b.size≠1:=λe=>c1 (by rw[e];rfl);have n2:a.size≠1:=λe=>c2 (by rw[e];rfl);refine wpS_bind (wpS_get ?_);have L0:LI K a b #[b0] 0 1:=⟨M0,by omega,by omega⟩;refine wpS_bind (wpS_mono (wpS_forRange (I:=λx c st'=>Sg st st'/\ ∃o i j g,c=(none,o,i,j,g)/\LI K a b o i j/\x<=i+j)
  (Q:=λc st'=>Sg st st'/\ ∃r z,c=(some r,z)/\Good K (a.toList++b.toList) r.toList) ?_ ?_ ⟨Sg.refl _,_,0,1,_,rfl,L0,by omega⟩) ?_)
 ·rintro x c s1 _ hx ⟨S1,o,i,j,g,rfl,I1,p1⟩
  dsimp only;refine wpS_bind (wpS_mono (wpS_forRange (I:=λy c st'=>Sg st st'/\ ∃o i j ca cb,c=(none,o,i,j,ca,cb)/\LI K a b o i j/\y+x<=i+j)
   (Q:=λc st'=>Sg st st'/\((∃r z,c=(some r,z)/\Good K (a.toList++b.toList) r.toList)∨ ∃o i j ca cb,c=(none,o,i,j,ca,cb)/\LI K a b o i j/\x+1<=i+j)) ?_ ?_ ⟨S1,o,i,j,_,_,rfl,I1,by omega⟩) ?_)
  ·rintro y c s2 _ hy ⟨S2,o,i,j,ca,cb,rfl,⟨I2,l1,l2⟩,p2⟩
   dsimp only;obtain⟨xb,eb,mb,db⟩:=jm (a:=b) (i:=j) l2;obtain⟨xa,ea,ma,da⟩:=jm (a:=a) (i:=i) (by omega);have sa':=I2.sa;have sb':=I2.sb;rw[da]at sa';rw[db]at sb';refine wpS_bind (bu eb (wpS_bind (bu ea (wpS_bind (hL s2 xb xa _ (S2.1.trans hk) (Db _ mb) (Da _ ma) ?_)))));dsimp only
   by_cases lt:K xb<K xa
   ·rw[decide_eq_true lt,if_pos rfl]
    have I3:MG K (a.toList++b.toList) (o.push xb).toList (a.toList.drop i) (b.toList.drop (j+1)):=by
     rw[aax];refine MG.pT (by rw[<-db];exact I2) λz hz=> ?_;rw[da]at hz;exact aaB (aas lt) (fE sa' z hz)
    refine wpS_bind (bu eb ?_)
    by_cases c3:(j+1==b.size)=true
    ·rw[if_pos c3]
     exact wpS_pure ⟨S2,.inl ⟨_,_,rfl,LI.fin I3 (.inr (by simpa using c3))⟩⟩
    rw[if_neg c3];have n3:j+1≠b.size:=λe=>c3 (by rw[e];simp)
    split
    ·exact wpS_pure ⟨S2,.inr ⟨_,_,_,_,_,rfl,⟨I3,l1,by omega⟩,by omega⟩⟩
    ·exact wpS_pure ⟨S2,_,_,_,_,_,rfl,⟨I3,l1,by omega⟩,by omega⟩
   ·rw[decide_eq_false lt,if_neg (by simp)]
    have I3:MG K (a.toList++b.toList) (o.push xa).toList (a.toList.drop (i+1)) (b.toList.drop j):=by
     rw[aax];refine MG.iL (by rw[<-da];exact I2) λz hz=> ?_;rw[db]at hz;exact aaB (Int.not_lt.mp lt) (fE sb' z hz)
    refine wpS_bind (bu ea ?_)
    by_cases c3:(i+1+1==a.size)=true
    ·rw[if_pos c3]
     exact wpS_pure ⟨S2,.inl ⟨_,_,rfl,LI.fla I3 (by simpa using c3) h2⟩⟩
    rw[if_neg c3];have n3:i+1+1≠a.size:=λe=>c3 (by rw[e];simp)
    split
    ·exact wpS_pure ⟨S2,.inr ⟨_,_,_,_,_,rfl,⟨I3,by omega,l2⟩,by omega⟩⟩
    ·exact wpS_pure ⟨S2,_,_,_,_,_,rfl,⟨I3,by omega,l2⟩,by omega⟩
  ·rintro c s2 ⟨S2,o,i,j,ca,cb,rfl,⟨I2,l1,l2⟩,p2⟩
   omega
  ·rintro c s2 ⟨S2,⟨r,z,rfl,hr⟩|⟨o,i,j,ca,cb,rfl,I2,p2⟩⟩
   ·exact wpS_pure ⟨S2,r,_,rfl,hr⟩
   dsimp only;refine wpS_bind (wpS_lift (wpAny_rule ⟨rfl,?_⟩));refine wpS_bind (wpS_mono (wpS_forRange (I:=λy c st'=>Sg st st'/\ ∃o i j g ca cb,c=(none,o,i,j,g,ca,cb)/\LI K a b o i j/\y+x+1<=i+j)
    (Q:=λc st'=>Sg st st'/\((∃r z,c=(some r,z)/\Good K (a.toList++b.toList) r.toList)∨ ∃o i j g ca cb,c=(none,o,i,j,g,ca,cb)/\LI K a b o i j/\x+1<=i+j)) ?_ ?_ ⟨S2,o,i,j,_,_,_,rfl,I2,by omega⟩) ?_)
   ·rintro y c s3 _ hy ⟨S3,o,i,j,g,ca,cb,rfl,⟨I2,l1,l2⟩,p2⟩
    dsimp only
    by_cases hg:g>1
    ·rw[if_pos hg]
     rw[se];refine wpS_bind (wpS_modify ?_);obtain⟨xb,eb,mb,db⟩:=jm (a:=b) (i:=j) l2;have sb':=I2.sb;rw[db]at sb';refine wpS_bind (bu eb (wpS_bind (lJ hL ((S3.set _).1.trans hk) (a.toList.drop i) (λz hz=>by simp) (by simp) (λx hx=>Da x (aaS hx)) (Db _ mb) I2.sa (by omega) λk hk1 t1 t2=> ?_)));simp only[aaz,if_false]at t1 t2;rw[abk]at t2;dsimp only;have J:MG K (a.toList++b.toList) (o++a.extract i (i+k)).toList (a.toList.drop (i+k)) (b.toList.drop j):=by
      rw[aa0,pD];refine MG.yW (by rw[<-iZ];exact I2) λx hx y hy=> ?_;rw[db]at hy;exact aaB (t1 x hx) (fE sb' y hy)
     have tJ:=t2
     by_cases hk0:k>0
     ·rw[if_pos hk0]
      by_cases c3:(i+k+1==a.size)=true
      ·rw[if_pos c3]
       exact wpS_pure ⟨S3.set _,.inl ⟨_,_,rfl,LI.fla J (by simpa using c3) h2⟩⟩
      rw[if_neg c3];have n3:i+k+1≠a.size:=λe=>c3 (by rw[e];simp)
      by_cases c4:(i+k==a.size)=true
      ·rw[if_pos c4]
       exact wpS_pure ⟨S3.set _,.inl ⟨_,_,rfl,LI.fin J (.inl (by simpa using c4))⟩⟩
      rw[if_neg c4];have n4:i+k≠a.size:=λe=>c4 (by rw[e];simp);obtain⟨xa,ea,ma,da⟩:=jm (a:=a) (i:=i+k) (by omega);have sa':=J.sa;rw[da]at sa';have I4:MG K (a.toList++b.toList) ((o++a.extract i (i+k)).push xb).toList (a.toList.drop (i+k)) (b.toList.drop (j+1)):=by
       rw[aax];exact MG.pT (by rw[<-db];exact J) λz hz=>aas (tJ z hz)
      refine wpS_bind (bu eb ?_)
      by_cases c5:(j+1==b.size)=true
      ·rw[if_pos c5]
       exact wpS_pure ⟨S3.set _,.inl ⟨_,_,rfl,LI.fin I4 (.inr (by simpa using c5))⟩⟩
      rw[if_neg c5];have n5:j+1≠b.size:=λe=>c5 (by rw[e];simp);refine wpS_bind (bu ea (wpS_bind (lJ hL ((S3.set _).1.trans hk) (b.toList.drop (j+1)) (λz hz=>by simp) (by simp) (λx hx=>Db x (aaS hx)) (Da _ ma) I4.sb (by omega) λk2 hk2 u1 u2=> ?_)));simp only[if_true]at u1 u2;rw[abk]at u2;dsimp only;have I5:MG K (a.toList++b.toList) ((o++a.extract i (i+k)).push xb++b.extract (j+1) (j+1+k2)).toList (a.toList.drop (i+k)) (b.toList.drop (j+1+k2)):=by
       rw[aa0,pD];refine MG.uJ (by rw[<-iZ];exact I4) λx hx y hy=> ?_;rw[da]at hy;exact aaB (aas (u1 x hx)) (fE sa' y hy)
      by_cases hk2:k2>0
      ·rw[if_pos hk2]
       by_cases c6:(j+1+k2==b.size)=true
       ·rw[if_pos c6]
        exact wpS_pure ⟨S3.set _,.inl ⟨_,_,rfl,LI.fin I5 (.inr (by simpa using c6))⟩⟩
       rw[if_neg c6];have n6:j+1+k2≠b.size:=λe=>c6 (by rw[e];simp);have I6:MG K (a.toList++b.toList) (((o++a.extract i (i+k)).push xb++b.extract (j+1) (j+1+k2)).push xa).toList (a.toList.drop (i+k+1)) (b.toList.drop (j+1+k2)):=by
        rw[aax];exact MG.iL (by rw[<-da];exact I5) u2
       refine wpS_bind (bu ea ?_)
       by_cases c7:(i+k+1+1==a.size)=true
       ·rw[if_pos c7]
        exact wpS_pure ⟨S3.set _,.inl ⟨_,_,rfl,LI.fla I6 (by simpa using c7) h2⟩⟩
       rw[if_neg c7];have n7:i+k+1+1≠a.size:=λe=>c7 (by rw[e];simp)
       split
       ·exact wpS_pure ⟨S3.set _,.inr ⟨_,_,_,_,_,_,rfl,⟨I6,by omega,by omega⟩,by omega⟩⟩
       ·exact wpS_pure ⟨S3.set _,_,_,_,_,_,_,rfl,⟨I6,by omega,by omega⟩,by omega⟩
      ·rw[if_neg hk2]
       have z2:k2=0:=by omega
       subst z2;have I6:MG K (a.toList++b.toList) (((o++a.extract i (i+k)).push xb).push xa).toList (a.toList.drop (i+k+1)) (b.toList.drop (j+1)):=by
        rw[aax];exact MG.iL (by rw[<-da];exact I4) u2
       refine wpS_bind (bu ea ?_)
       by_cases c7:(i+k+1+1==a.size)=true
       ·rw[if_pos c7]
        exact wpS_pure ⟨S3.set _,.inl ⟨_,_,rfl,LI.fla I6 (by simpa using c7) h2⟩⟩
       rw[if_neg c7];have n7:i+k+1+1≠a.size:=λe=>c7 (by rw[e];simp)
       split
       ·exact wpS_pure ⟨S3.set _,.inr ⟨_,_,_,_,_,_,rfl,⟨I6,by omega,by omega⟩,by omega⟩⟩
       ·exact wpS_pure ⟨S3.set _,_,_,_,_,_,_,rfl,⟨I6,by omega,by omega⟩,by omega⟩
     ·rw[if_neg hk0]
      have z0:k=0:=by omega
      subst z0
      replace J:=I2
      obtain⟨xa,ea,ma,da⟩:=jm (a:=a) (i:=i) (by omega);have sa':=J.sa;rw[da]at sa';have I4:MG K (a.toList++b.toList) (o.push xb).toList (a.toList.drop (i)) (b.toList.drop (j+1)):=by
       rw[aax];exact MG.pT (by rw[<-db];exact J) λz hz=>aas (tJ z hz)
      refine wpS_bind (bu eb ?_)
      by_cases c5:(j+1==b.size)=true
      ·rw[if_pos c5]
       exact wpS_pure ⟨S3.set _,.inl ⟨_,_,rfl,LI.fin I4 (.inr (by simpa using c5))⟩⟩
      rw[if_neg c5];have n5:j+1≠b.size:=λe=>c5 (by rw[e];simp);refine wpS_bind (bu ea (wpS_bind (lJ hL ((S3.set _).1.trans hk) (b.toList.drop (j+1)) (λz hz=>by simp) (by simp) (λx hx=>Db x (aaS hx)) (Da _ ma) I4.sb (by omega) λk2 hk2 u1 u2=> ?_)));simp only[if_true]at u1 u2;rw[abk]at u2;dsimp only;have I5:MG K (a.toList++b.toList) (o.push xb++b.extract (j+1) (j+1+k2)).toList (a.toList.drop (i)) (b.toList.drop (j+1+k2)):=by
       rw[aa0,pD];refine MG.uJ (by rw[<-iZ];exact I4) λx hx y hy=> ?_;rw[da]at hy;exact aaB (aas (u1 x hx)) (fE sa' y hy)
      by_cases hk2:k2>0
      ·rw[if_pos hk2]
       by_cases c6:(j+1+k2==b.size)=true
       ·rw[if_pos c6]
        exact wpS_pure ⟨S3.set _,.inl ⟨_,_,rfl,LI.fin I5 (.inr (by simpa using c6))⟩⟩
       rw[if_neg c6];have n6:j+1+k2≠b.size:=λe=>c6 (by rw[e];simp);have I6:MG K (a.toList++b.toList) ((o.push xb++b.extract (j+1) (j+1+k2)).push xa).toList (a.toList.drop (i+1)) (b.toList.drop (j+1+k2)):=by
        rw[aax];exact MG.iL (by rw[<-da];exact I5) u2
       refine wpS_bind (bu ea ?_)
       by_cases c7:(i+1+1==a.size)=true
       ·rw[if_pos c7]
        exact wpS_pure ⟨S3.set _,.inl ⟨_,_,rfl,LI.fla I6 (by simpa using c7) h2⟩⟩
       rw[if_neg c7];have n7:i+1+1≠a.size:=λe=>c7 (by rw[e];simp)
       split
       ·exact wpS_pure ⟨S3.set _,.inr ⟨_,_,_,_,_,_,rfl,⟨I6,by omega,by omega⟩,by omega⟩⟩
       ·exact wpS_pure ⟨S3.set _,_,_,_,_,_,_,rfl,⟨I6,by omega,by omega⟩,by omega⟩
      ·rw[if_neg hk2]
       have z2:k2=0:=by omega
       subst z2;have I6:MG K (a.toList++b.toList) ((o.push xb).push xa).toList (a.toList.drop (i+1)) (b.toList.drop (j+1)):=by
        rw[aax];exact MG.iL (by rw[<-da];exact I4) u2
       refine wpS_bind (bu ea ?_)
       by_cases c7:(i+1+1==a.size)=true
       ·rw[if_pos c7]
        exact wpS_pure ⟨S3.set _,.inl ⟨_,_,rfl,LI.fla I6 (by simpa using c7) h2⟩⟩
       rw[if_neg c7];have n7:i+1+1≠a.size:=λe=>c7 (by rw[e];simp)
       split
       ·exact wpS_pure ⟨S3.set _,.inr ⟨_,_,_,_,_,_,rfl,⟨I6,by omega,by omega⟩,by omega⟩⟩
       ·exact wpS_pure ⟨S3.set _,_,_,_,_,_,_,rfl,⟨I6,by omega,by omega⟩,by omega⟩
    ·rw[if_neg hg]
     rw[se];refine wpS_bind (wpS_modify ?_);obtain⟨xb,eb,mb,db⟩:=jm (a:=b) (i:=j) l2;have sb':=I2.sb;rw[db]at sb';refine wpS_bind (bu eb (wpS_bind (lJ hL ((S3.set _).1.trans hk) (a.toList.drop i) (λz hz=>by simp) (by simp) (λx hx=>Da x (aaS hx)) (Db _ mb) I2.sa (by omega) λk hk1 t1 t2=> ?_)));simp only[aaz,if_false]at t1 t2;rw[abk]at t2;dsimp only;have J:MG K (a.toList++b.toList) (o++a.extract i (i+k)).toList (a.toList.drop (i+k)) (b.toList.drop j):=by
      rw[aa0,pD];refine MG.yW (by rw[<-iZ];exact I2) λx hx y hy=> ?_;rw[db]at hy;exact aaB (t1 x hx) (fE sb' y hy)
     have tJ:=t2
     by_cases hk0:k>0
     ·rw[if_pos hk0]
      by_cases c3:(i+k+1==a.size)=true
      ·rw[if_pos c3]
       exact wpS_pure ⟨S3.set _,.inl ⟨_,_,rfl,LI.fla J (by simpa using c3) h2⟩⟩
      rw[if_neg c3];have n3:i+k+1≠a.size:=λe=>c3 (by rw[e];simp)
      by_cases c4:(i+k==a.size)=true
      ·rw[if_pos c4]
       exact wpS_pure ⟨S3.set _,.inl ⟨_,_,rfl,LI.fin J (.inl (by simpa using c4))⟩⟩
      rw[if_neg c4];have n4:i+k≠a.size:=λe=>c4 (by rw[e];simp);obtain⟨xa,ea,ma,da⟩:=jm (a:=a) (i:=i+k) (by omega);have sa':=J.sa;rw[da]at sa';have I4:MG K (a.toList++b.toList) ((o++a.extract i (i+k)).push xb).toList (a.toList.drop (i+k)) (b.toList.drop (j+1)):=by
       rw[aax];exact MG.pT (by rw[<-db];exact J) λz hz=>aas (tJ z hz)
      refine wpS_bind (bu eb ?_)
      by_cases c5:(j+1==b.size)=true
      ·rw[if_pos c5]
       exact wpS_pure ⟨S3.set _,.inl ⟨_,_,rfl,LI.fin I4 (.inr (by simpa using c5))⟩⟩
      rw[if_neg c5];have n5:j+1≠b.size:=λe=>c5 (by rw[e];simp);refine wpS_bind (bu ea (wpS_bind (lJ hL ((S3.set _).1.trans hk) (b.toList.drop (j+1)) (λz hz=>by simp) (by simp) (λx hx=>Db x (aaS hx)) (Da _ ma) I4.sb (by omega) λk2 hk2 u1 u2=> ?_)));simp only[if_true]at u1 u2;rw[abk]at u2;dsimp only;have I5:MG K (a.toList++b.toList) ((o++a.extract i (i+k)).push xb++b.extract (j+1) (j+1+k2)).toList (a.toList.drop (i+k)) (b.toList.drop (j+1+k2)):=by
       rw[aa0,pD];refine MG.uJ (by rw[<-iZ];exact I4) λx hx y hy=> ?_;rw[da]at hy;exact aaB (aas (u1 x hx)) (fE sa' y hy)
      by_cases hk2:k2>0
      ·rw[if_pos hk2]
       by_cases c6:(j+1+k2==b.size)=true
       ·rw[if_pos c6]
        exact wpS_pure ⟨S3.set _,.inl ⟨_,_,rfl,LI.fin I5 (.inr (by simpa using c6))⟩⟩
       rw[if_neg c6];have n6:j+1+k2≠b.size:=λe=>c6 (by rw[e];simp);have I6:MG K (a.toList++b.toList) (((o++a.extract i (i+k)).push xb++b.extract (j+1) (j+1+k2)).push xa).toList (a.toList.drop (i+k+1)) (b.toList.drop (j+1+k2)):=by
        rw[aax];exact MG.iL (by rw[<-da];exact I5) u2
       refine wpS_bind (bu ea ?_)
       by_cases c7:(i+k+1+1==a.size)=true
       ·rw[if_pos c7]
        exact wpS_pure ⟨S3.set _,.inl ⟨_,_,rfl,LI.fla I6 (by simpa using c7) h2⟩⟩
       rw[if_neg c7];have n7:i+k+1+1≠a.size:=λe=>c7 (by rw[e];simp)
       split
       ·exact wpS_pure ⟨S3.set _,.inr ⟨_,_,_,_,_,_,rfl,⟨I6,by omega,by omega⟩,by omega⟩⟩
       ·exact wpS_pure ⟨S3.set _,_,_,_,_,_,_,rfl,⟨I6,by omega,by omega⟩,by omega⟩
      ·rw[if_neg hk2]
       have z2:k2=0:=by omega
       subst z2;have I6:MG K (a.toList++b.toList) (((o++a.extract i (i+k)).push xb).push xa).toList (a.toList.drop (i+k+1)) (b.toList.drop (j+1)):=by
        rw[aax];exact MG.iL (by rw[<-da];exact I4) u2
       refine wpS_bind (bu ea ?_)
       by_cases c7:(i+k+1+1==a.size)=true
       ·rw[if_pos c7]
        exact wpS_pure ⟨S3.set _,.inl ⟨_,_,rfl,LI.fla I6 (by simpa using c7) h2⟩⟩
       rw[if_neg c7];have n7:i+k+1+1≠a.size:=λe=>c7 (by rw[e];simp)
       split
       ·exact wpS_pure ⟨S3.set _,.inr ⟨_,_,_,_,_,_,rfl,⟨I6,by omega,by omega⟩,by omega⟩⟩
       ·exact wpS_pure ⟨S3.set _,_,_,_,_,_,_,rfl,⟨I6,by omega,by omega⟩,by omega⟩
     ·rw[if_neg hk0]
      have z0:k=0:=by omega
      subst z0
      replace J:=I2
      obtain⟨xa,ea,ma,da⟩:=jm (a:=a) (i:=i) (by omega);have sa':=J.sa;rw[da]at sa';have I4:MG K (a.toList++b.toList) (o.push xb).toList (a.toList.drop (i)) (b.toList.drop (j+1)):=by
       rw[aax];exact MG.pT (by rw[<-db];exact J) λz hz=>aas (tJ z hz)
      refine wpS_bind (bu eb ?_)
      by_cases c5:(j+1==b.size)=true
      ·rw[if_pos c5]
       exact wpS_pure ⟨S3.set _,.inl ⟨_,_,rfl,LI.fin I4 (.inr (by simpa using c5))⟩⟩
      rw[if_neg c5];have n5:j+1≠b.size:=λe=>c5 (by rw[e];simp);refine wpS_bind (bu ea (wpS_bind (lJ hL ((S3.set _).1.trans hk) (b.toList.drop (j+1)) (λz hz=>by simp) (by simp) (λx hx=>Db x (aaS hx)) (Da _ ma) I4.sb (by omega) λk2 hk2 u1 u2=> ?_)));simp only[if_true]at u1 u2;rw[abk]at u2;dsimp only;have I5:MG K (a.toList++b.toList) (o.push xb++b.extract (j+1) (j+1+k2)).toList (a.toList.drop (i)) (b.toList.drop (j+1+k2)):=by
       rw[aa0,pD];refine MG.uJ (by rw[<-iZ];exact I4) λx hx y hy=> ?_;rw[da]at hy;exact aaB (aas (u1 x hx)) (fE sa' y hy)
      by_cases hk2:k2>0
      ·rw[if_pos hk2]
       by_cases c6:(j+1+k2==b.size)=true
       ·rw[if_pos c6]
        exact wpS_pure ⟨S3.set _,.inl ⟨_,_,rfl,LI.fin I5 (.inr (by simpa using c6))⟩⟩
       rw[if_neg c6];have n6:j+1+k2≠b.size:=λe=>c6 (by rw[e];simp);have I6:MG K (a.toList++b.toList) ((o.push xb++b.extract (j+1) (j+1+k2)).push xa).toList (a.toList.drop (i+1)) (b.toList.drop (j+1+k2)):=by
        rw[aax];exact MG.iL (by rw[<-da];exact I5) u2
       refine wpS_bind (bu ea ?_)
       by_cases c7:(i+1+1==a.size)=true
       ·rw[if_pos c7]
        exact wpS_pure ⟨S3.set _,.inl ⟨_,_,rfl,LI.fla I6 (by simpa using c7) h2⟩⟩
       rw[if_neg c7];have n7:i+1+1≠a.size:=λe=>c7 (by rw[e];simp)
       split
       ·exact wpS_pure ⟨S3.set _,.inr ⟨_,_,_,_,_,_,rfl,⟨I6,by omega,by omega⟩,by omega⟩⟩
       ·exact wpS_pure ⟨S3.set _,_,_,_,_,_,_,rfl,⟨I6,by omega,by omega⟩,by omega⟩
      ·rw[if_neg hk2]
       have z2:k2=0:=by omega
       subst z2;have I6:MG K (a.toList++b.toList) ((o.push xb).push xa).toList (a.toList.drop (i+1)) (b.toList.drop (j+1)):=by
        rw[aax];exact MG.iL (by rw[<-da];exact I4) u2
       refine wpS_bind (bu ea ?_)
       by_cases c7:(i+1+1==a.size)=true
       ·rw[if_pos c7]
        exact wpS_pure ⟨S3.set _,.inl ⟨_,_,rfl,LI.fla I6 (by simpa using c7) h2⟩⟩
       rw[if_neg c7];have n7:i+1+1≠a.size:=λe=>c7 (by rw[e];simp)
       split
       ·exact wpS_pure ⟨S3.set _,.inr ⟨_,_,_,_,_,_,rfl,⟨I6,by omega,by omega⟩,by omega⟩⟩
       ·exact wpS_pure ⟨S3.set _,_,_,_,_,_,_,rfl,⟨I6,by omega,by omega⟩,by omega⟩
   ·rintro c s3 ⟨S3,o,i,j,g,ca,cb,rfl,⟨I2,l1,l2⟩,p2⟩
    (clear p1 hx n2 n1 c2 c1 d0 e0 hq h2 h1 Db Da hb ha hk;omega)
   ·rintro c s3 ⟨S3,⟨r,z,rfl,hr⟩|⟨o,i,j,g,ca,cb,rfl,I2,p2⟩⟩
    ·exact wpS_pure ⟨S3,r,_,rfl,hr⟩
    dsimp only;rw[se];exact wpS_bind (wpS_modify (wpS_pure ⟨S3.set _,_,_,_,_,rfl,I2,by omega⟩))
 ·rintro c s1 ⟨S1,o,i,j,g,rfl,⟨I1,l1,l2⟩,p1⟩
  omega
 ·rintro c s1 ⟨S1,r,z,rfl,hr⟩
  exact wpS_pure (hq r s1 S1 hr)
end
theorem Qo(a b:Array Keyed):Wi a b=(do
 rule "list.sort.merge-hi"
 let tt:=a.size+b.size
 let fin (o:Array Keyed) (i j:Nat):=a.extract 0 i++b.extract 0 j++o.reverse
 let DF (o:Array Keyed) (i j:Nat):=b.extract 0 j++a.extract 0 i++o.reverse
 let mut i:=a.size-1
 let mut j:=b.size
 let mut o:Array Keyed:= #[<-elem' a i]
 if i==0 then return fin o i j
 if j==1 then return DF o i j
 let mut g:=gallopOf (<-get)
 for _ in [0:tt] do
  let mut ca:=0
  let mut cb:=0
  for _ in [0:tt] do
   let some aw<-lt' (<-elem' b (j-1)) (<-elem' a (i-1))|return fin o i j
   if aw then
    i:=i-1;o:=o.push (<-elem' a i);ca:=ca+1;cb:=0
    if i==0 then return fin o i j
    if ca≥g then break
   else
    j:=j-1;o:=o.push (<-elem' b j);cb:=cb+1;ca:=0
    if j==1 then return DF o i j
    if cb≥g then break
  rule "list.sort.gallop"
  g:=g+1
  for _ in [0:tt] do
   if g>1 then g:=g-1
   SY g
   let some at_<-Nm false (<-elem' b (j-1)) a 0 i (i-1)|return fin o i j
   let k:=i-at_
   ca:=k
   if k>0 then
    o:=o++(a.extract at_ i).reverse;i:=at_
    if i==0 then return fin o i j
   j:=j-1;o:=o.push (<-elem' b j)
   if j==1 then return DF o i j
   let some at_<-Nm true (<-elem' a (i-1)) b 0 j (j-1)|return fin o i j
   let k:=j-at_
   cb:=k
   if k>0 then
    o:=o++(b.extract at_ j).reverse;j:=at_
    if j==1 then return DF o i j
    if j==0 then return fin o i j
   i:=i-1;o:=o.push (<-elem' a i)
   if i==0 then return fin o i j
   if ca<7 && cb<7 then break
  g:=g+1
  SY g
 @unsupported _ "internal:list.sort.merge-bound"):=rfl
section
variable{prog:Program}{w:World}{A:Around}{E:Value->Shared->Prop}{s:Shared}{κ:SortKind}{K:Keyed->Int}{D:Keyed->Prop}{st:SortSt}
noncomputable abbrev rv(a:Array Keyed)(i:Nat):List Keyed:=(a.toList.take i).reverse
noncomputable abbrev MH(K:Keyed->Int)(a b o:Array Keyed)(i j:Nat):Prop:=MG (λx=> -(K x)) (a.toList++b.toList) o.toList (rv a i) (rv b j)
theorem rA{a:Array Keyed}{i:Nat}(h0:0<i)(h:i<=a.size):∃x,a[i-1]?=some x/\x∈a.toList/\rv a i=x::rv a (i-1):=by
 have h1:i-1<a.toList.length:=by simp;omega
 refine⟨a[i-1]'(by omega),getElem?_pos a (i-1) (by omega),by simp,?_⟩;have e:a.toList.take i=a.toList.take (i-1)++ [a[i-1]'(by omega)]:=by
  have:=abz (l:=a.toList) (i:=i-1);rw[show i-1+1=i by omega]at this;rw[this,aaq h1];simp
 show(a.toList.take i).reverse=_;rw[e,ack]
 rfl
theorem mP(a:Array Keyed){i k:Nat}(h:k<=i):rv a i=((a.toList.take i).drop k).reverse++rv a k:=by
 show(a.toList.take i).reverse=_++(a.toList.take k).reverse;rw[<-ack]
 congr 1
 conv=>lhs;rw[<-aaV k (a.toList.take i)]
 rw[abI,abC h]
theorem sf{a:Array Keyed}{i k:Nat}:(a.extract k i).reverse.toList=((a.toList.take i).drop k).reverse:=by
 simp[adM]
theorem BE{K:Keyed->Int}{l:List Keyed}(h:l.Pairwise λx y=>K x<=K y):l.reverse.Pairwise λx y=> -(K x)<= -(K y):=
 adF.mpr (h.imp λq=>Int.neg_le_neg q)
theorem Kn{K:Keyed->Int}{l:List Keyed}(h:l.Pairwise λx y=> -(K x)<= -(K y)):l.reverse.Pairwise λx y=>K x<=K y:=
 adF.mpr (h.imp λq=>by omega)
theorem Good.rev{K:Keyed->Int}{tot l:List Keyed}(h:Good (λx=> -(K x)) tot l):Good K tot l.reverse:=⟨(adg _).trans h.1,Kn h.2⟩
theorem Th{K:Keyed->Int}{a:Array Keyed}{i:Nat}(h:a.toList.Pairwise λx y=>K x<=K y):(rv a i).Pairwise λx y=> -(K x)<= -(K y):=BE (List.Pairwise.sublist (abd _ _) h)
theorem MH.fin{a b o:Array Keyed}{i j:Nat}(h:MH K a b o i j)(hj:i=0∨j=0):Good K (a.toList++b.toList) (a.extract 0 i++b.extract 0 j++o.reverse).toList:=by
 have e:(a.extract 0 i++b.extract 0 j++o.reverse).toList=(o.toList++(rv b j++rv a i)).reverse:=by
  simp[rv,ack,abo]
 rw[e];refine(MG.fin h acH ?_).rev;rcases hj with rfl|rfl
 ·rw[show rv a 0=[]from rfl,aba]
  exact h.sb
 ·rw[show rv b 0=[]from rfl,acU]
  exact h.sa
theorem MH.DF{a b o:Array Keyed}{i j:Nat}(h:MH K a b o i j)(hj:j=1)(hl:∀y∈b.toList.take 1,∀x∈a.toList,K y<=K x):Good K (a.toList++b.toList) (b.extract 0 j++a.extract 0 i++o.reverse).toList:=by
 have e:(b.extract 0 j++a.extract 0 i++o.reverse).toList=(o.toList++(rv a i++rv b j)).reverse:=by
  simp[rv,ack,abo]
 rw[e];refine(MG.fin h (.refl _) (aa2.mpr ⟨h.sa,h.sb,λx hx y hy=> ?_⟩)).rev;subst hj;have:=hl y (aaQ.mp hy) x (aaH (aaQ.mp hx));show-(K x)<= -(K y);omega
theorem Ti(hL:rq prog w A E s κ K D){a b:Array Keyed}{Q:Array Keyed->SortSt->Prop}(hk:kindOf st=κ)(ha:0<a.size)(hb:0<b.size)(Da:∀x∈a.toList,D x)(Db:∀x∈b.toList,D x)
  (sa:a.toList.Pairwise λx y=>K x<=K y)(sb:b.toList.Pairwise λx y=>K x<=K y)(h1:∀y∈b.toList.take 1,∀x∈a.toList,K y<=K x)(h2:∀y∈b.toList,∀x∈a.toList.drop (a.size-1),K y<=K x)
  (hq:∀r st',Sg st st'->Good K (a.toList++b.toList) r.toList->Q r st'):wpS (model prog w) A E s (Wi a b) Q st:=by
 rw[Qo];refine wpS_bind (wpS_lift (wpAny_rule ⟨rfl,?_⟩));dsimp only;obtain⟨a0,e0,m0,d0⟩:=rA (a:=a) (i:=a.size) ha (aav _);refine wpS_bind (bu e0 ?_);have M0:MH K a b #[a0] (a.size-1) b.size:=by
  have ea:a.toList.reverse=a0::rv a (a.size-1):=by
   rw[<-d0];show _=(a.toList.take a.size).reverse;rw[aaP (by simp)]
  have eb:rv b b.size=b.toList.reverse:=by
   show(b.toList.take b.size).reverse=_;rw[aaP (by simp)]
  have sa':=BE sa;rw[ea]at sa';refine⟨?_,adm _ _,(ab7.mp sa').2,Th sb,λx hx y hy=> ?_,λx hx y hy=> ?_⟩
  ·show([a0]++(rv a (a.size-1)++rv b b.size)).Perm _
   rw[List.singleton_append,<-List.cons_append,<-ea,eb];exact List.Perm.append (adg _) (adg _)
  ·rw[aap.mp hx]
   exact(ab7.mp sa').1 y hy
  ·rw[aap.mp hx]
   have:K y<=K a0:=by
    refine h2 y (by rw[eb]at hy;exact aaQ.mp hy) a0 ?_;obtain⟨x,e1,e2,e3⟩:=jm (a:=a) (i:=a.size-1) (by omega);rw[e0]at e1;rw[e3,<-Option.some.inj e1];exact aaD
   show-(K a0)<= -(K y);omega
 by_cases c1:(a.size-1==0)=true
 ·rw[if_pos c1]
  exact wpS_pure (hq _ _ (Sg.refl _) (M0.fin (.inl (by simpa using c1))))
 rw[if_neg c1]
 by_cases c2:(b.size==1)=true
 ·rw[if_pos c2]
  exact wpS_pure (hq _ _ (Sg.refl _) (M0.DF (by simpa using c2) h1))
 rw[if_neg c2];have n1:a.size-1≠0:=λe=>c1 (by rw[e];rfl);have n2:b.size≠1:=λe=>c2 (by rw[e];rfl);refine wpS_bind (wpS_get ?_);refine wpS_bind (wpS_mono (wpS_forRange (I:=λx c st'=>Sg st st'/\ ∃i j o g,c=(none,i,j,o,g)/\(MH K a b o i j/\0<i/\i<=a.size/\1<j/\j<=b.size)/\x+i+j<=a.size+b.size)
  (Q:=λc st'=>Sg st st'/\ ∃r z,c=(some r,z)/\Good K (a.toList++b.toList) r.toList) ?_ ?_ ⟨Sg.refl _,_,_,_,_,rfl,⟨M0,by omega,by omega,by omega,by omega⟩,by omega⟩) ?_)
 ·rintro x c s1 _ hx ⟨S1,i,j,o,g,rfl,I1,p1⟩
  dsimp only;refine wpS_bind (wpS_mono (wpS_forRange (I:=λy c st'=>Sg st st'/\ ∃i j o ca cb,c=(none,i,j,o,ca,cb)/\(MH K a b o i j/\0<i/\i<=a.size/\1<j/\j<=b.size)/\y+x+i+j<=a.size+b.size)
   (Q:=λc st'=>Sg st st'/\((∃r z,c=(some r,z)/\Good K (a.toList++b.toList) r.toList)∨ ∃i j o ca cb,c=(none,i,j,o,ca,cb)/\(MH K a b o i j/\0<i/\i<=a.size/\1<j/\j<=b.size)/\x+1+i+j<=a.size+b.size)) ?_ ?_ ⟨S1,i,j,o,_,_,rfl,I1,by omega⟩) ?_)
  ·rintro y c s2 _ hy ⟨S2,i,j,o,ca,cb,rfl,⟨I2,l1,l2,l3,l4⟩,p2⟩
   dsimp only;obtain⟨xb,eb,mb,db⟩:=rA (a:=b) (i:=j) (by omega) l4;obtain⟨xa,ea,ma,da⟩:=rA (a:=a) (i:=i) l1 l2;have sa':=I2.sa;have sb':=I2.sb;rw[da]at sa';rw[db]at sb';refine wpS_bind (bu eb (wpS_bind (bu ea (wpS_bind (hL s2 xb xa _ (S2.1.trans hk) (Db _ mb) (Da _ ma) ?_)))));dsimp only
   by_cases lt:K xb<K xa
   ·rw[decide_eq_true lt,if_pos rfl]
    have I3:MH K a b (o.push xa) (i-1) j:=by
     show MG _ _ (o.push xa).toList _ _;rw[aax];refine MG.iL (by rw[<-da];exact I2) λz hz=> ?_;rw[db]at hz;exact aaB (by show-(K xa)<= -(K xb);omega) (fE sb' z hz)
    refine wpS_bind (bu ea ?_)
    by_cases c3:(i-1==0)=true
    ·rw[if_pos c3]
     exact wpS_pure ⟨S2,.inl ⟨_,_,rfl,I3.fin (.inl (by simpa using c3))⟩⟩
    rw[if_neg c3];have n3:i-1≠0:=λe=>c3 (by rw[e];rfl)
    split
    ·exact wpS_pure ⟨S2,.inr ⟨_,_,_,_,_,rfl,⟨I3,by omega,by omega,by omega,by omega⟩,by omega⟩⟩
    ·exact wpS_pure ⟨S2,_,_,_,_,_,rfl,⟨I3,by omega,by omega,by omega,by omega⟩,by omega⟩
   ·rw[decide_eq_false lt,if_neg (by simp)]
    have I3:MH K a b (o.push xb) i (j-1):=by
     show MG _ _ (o.push xb).toList _ _;rw[aax];refine MG.pT (by rw[<-db];exact I2) λz hz=> ?_;rw[da]at hz;exact aaB (by show-(K xb)<= -(K xa);omega) (fE sa' z hz)
    refine wpS_bind (bu eb ?_)
    by_cases c3:(j-1==1)=true
    ·rw[if_pos c3]
     exact wpS_pure ⟨S2,.inl ⟨_,_,rfl,I3.DF (by simpa using c3) h1⟩⟩
    rw[if_neg c3];have n3:j-1≠1:=λe=>c3 (by rw[e];rfl)
    split
    ·exact wpS_pure ⟨S2,.inr ⟨_,_,_,_,_,rfl,⟨I3,by omega,by omega,by(clear c3 lt da ea db eb l4 l2 l1 p2 hy p1 I1 hx n2 n1 c2 c1 d0 e0 hq h2 h1 Db Da hb ha hk;omega),by omega⟩,by omega⟩⟩
    ·exact wpS_pure ⟨S2,_,_,_,_,_,rfl,⟨I3,by omega,by omega,by(clear c3 lt da ea db eb l4 l2 l1 p2 hy p1 I1 hx n2 n1 c2 c1 d0 e0 hq h2 h1 Db Da hb ha hk;omega),by omega⟩,by omega⟩
  ·rintro c s2 ⟨S2,i,j,o,ca,cb,rfl,⟨I2,l1,l2,l3,l4⟩,p2⟩
   omega
  ·rintro c s2 ⟨S2,⟨r,z,rfl,hr⟩|⟨i,j,o,ca,cb,rfl,I2,p2⟩⟩
   ·exact wpS_pure ⟨S2,r,_,rfl,hr⟩
   dsimp only;refine wpS_bind (wpS_lift (wpAny_rule ⟨rfl,?_⟩));refine wpS_bind (wpS_mono (wpS_forRange (I:=λy c st'=>Sg st st'/\ ∃i j o g ca cb,c=(none,i,j,o,g,ca,cb)/\(MH K a b o i j/\0<i/\i<=a.size/\1<j/\j<=b.size)/\y+x+1+i+j<=a.size+b.size)
    (Q:=λc st'=>Sg st st'/\((∃r z,c=(some r,z)/\Good K (a.toList++b.toList) r.toList)∨ ∃i j o g ca cb,c=(none,i,j,o,g,ca,cb)/\(MH K a b o i j/\0<i/\i<=a.size/\1<j/\j<=b.size)/\x+1+i+j<=a.size+b.size)) ?_ ?_ ⟨S2,_,_,_,_,_,_,rfl,I2,by omega⟩) ?_)
   ·rintro y c s3 _ hy ⟨S3,i,j,o,g,ca,cb,rfl,⟨I2,l1,l2,l3,l4⟩,p2⟩
    dsimp only
    by_cases hg:g>1
    ·rw[if_pos hg]
     rw[se];refine wpS_bind (wpS_modify ?_);obtain⟨xb,eb,mb,db⟩:=rA (a:=b) (i:=j) (by omega) l4;have sb':=I2.sb;rw[db]at sb';refine wpS_bind (bu eb (wpS_bind (lJ hL ((S3.set _).1.trans hk) (a.toList.take i) (λz hz=>by rw[abe,aaM hz];simp) (by simp;omega) (λx hx=>Da x (aaH hx)) (Db _ mb) (List.Pairwise.sublist (abd _ _) sa) (by omega) λk hk1 t1 t2=> ?_)));simp only[aaz,if_false]at t1 t2;rw[abI,abC hk1]at t1;dsimp only;have J:MH K a b (o++(a.extract k i).reverse) k j:=by
      show MG _ _ (o++(a.extract k i).reverse).toList _ _;rw[aa0,sf];refine MG.yW (by rw[<-mP a hk1];exact I2) λx hx y hy=> ?_;rw[db]at hy;have:=t2 x (aaQ.mp hx);exact aaB (by show-(K x)<= -(K xb);omega) (fE sb' y hy)
     have tJ:=t1
     by_cases hk0:i-k>0
     ·rw[if_pos hk0]
      by_cases c4:(k==0)=true
      ·rw[if_pos c4]
       exact wpS_pure ⟨S3.set _,.inl ⟨_,_,rfl,J.fin (.inl (by simpa using c4))⟩⟩
      rw[if_neg c4];have n4:k≠0:=λe=>c4 (by rw[e];rfl);obtain⟨xa,ea,ma,da⟩:=rA (a:=a) (i:=k) (by omega) (by omega);have sa':=J.sa;rw[da]at sa';have I4:MH K a b ((o++(a.extract k i).reverse).push xb) (k) (j-1):=by
       show MG _ _ ((o++(a.extract k i).reverse).push xb).toList _ _;rw[aax];refine MG.pT (by rw[<-db];exact J) λz hz=> ?_;have:=tJ z (aaQ.mp hz);show-(K xb)<= -(K z);omega
      refine wpS_bind (bu eb ?_)
      by_cases c5:(j-1==1)=true
      ·rw[if_pos c5]
       exact wpS_pure ⟨S3.set _,.inl ⟨_,_,rfl,I4.DF (by simpa using c5) h1⟩⟩
      rw[if_neg c5];have n5:j-1≠1:=λe=>c5 (by rw[e];rfl);refine wpS_bind (bu ea (wpS_bind (lJ hL ((S3.set _).1.trans hk) (b.toList.take (j-1)) (λz hz=>by rw[abe,aaM hz];simp) (by simp;(clear n5 c5 da ea n4 c4 hk0 tJ t2 t1 hk1 db eb hg l2 l1 p2 hy p1 I1 hx n2 n1 c2 c1 d0 e0 hq h2 h1 Db Da hb ha hk;omega)) (λx hx=>Db x (aaH hx)) (Da _ ma) (List.Pairwise.sublist (abd _ _) sb) (by omega) λk2 hk2 u1 u2=> ?_)));simp only[if_true]at u1 u2;rw[abI,abC hk2]at u1;dsimp only;have I5:MH K a b ((o++(a.extract k i).reverse).push xb++(b.extract k2 (j-1)).reverse) (k) k2:=by
       show MG _ _ ((o++(a.extract k i).reverse).push xb++(b.extract k2 (j-1)).reverse).toList _ _;rw[aa0,sf];refine MG.uJ (by rw[<-mP b hk2];exact I4) λx hx y hy=> ?_;rw[da]at hy;have:=u2 x (aaQ.mp hx);exact aaB (by show-(K x)<= -(K xa);omega) (fE sa' y hy)
      have cO:∀y∈rv b k2,-(K xa)<= -(K y):=λy hy=>by
       have:=u1 y (aaQ.mp hy);omega
      by_cases wK:j-1-k2>0
      ·rw[if_pos wK]
       by_cases c6:(k2==1)=true
       ·rw[if_pos c6]
        exact wpS_pure ⟨S3.set _,.inl ⟨_,_,rfl,I5.DF (by simpa using c6) h1⟩⟩
       rw[if_neg c6];have n6:k2≠1:=λe=>c6 (by rw[e];rfl)
       by_cases c8:(k2==0)=true
       ·rw[if_pos c8]
        exact wpS_pure ⟨S3.set _,.inl ⟨_,_,rfl,I5.fin (.inr (by simpa using c8))⟩⟩
       rw[if_neg c8];have n8:k2≠0:=λe=>c8 (by rw[e];rfl);have I6:MH K a b (((o++(a.extract k i).reverse).push xb++(b.extract k2 (j-1)).reverse).push xa) (k-1) k2:=by
        show MG _ _ (((o++(a.extract k i).reverse).push xb++(b.extract k2 (j-1)).reverse).push xa).toList _ _;rw[aax];exact MG.iL (by rw[<-da];exact I5) cO
       refine wpS_bind (bu ea ?_)
       by_cases c7:(k-1==0)=true
       ·rw[if_pos c7]
        exact wpS_pure ⟨S3.set _,.inl ⟨_,_,rfl,I6.fin (.inl (by simpa using c7))⟩⟩
       rw[if_neg c7];have n7:k-1≠0:=λe=>c7 (by rw[e];rfl)
       split
       ·exact wpS_pure ⟨S3.set _,.inr ⟨_,_,_,_,_,_,rfl,⟨I6,by omega,by omega,by omega,by(clear c7 c8 c6 cO u2 u1 hk2 n5 c5 da ea n4 c4 hk0 tJ t2 t1 hk1 db eb hg l3 l2 l1 p2 hy p1 I1 hx n2 n1 c2 c1 d0 e0 hq h2 h1 Db Da hb ha hk;omega)⟩,by(clear c7 c8 c6 cO u2 u1 hk2 n5 c5 da ea n4 c4 hk0 tJ t2 t1 db eb hg l4 l3 l2 l1 hy p1 I1 hx n2 n1 c2 c1 d0 e0 hq h2 h1 Db Da hb ha hk;omega)⟩⟩
       ·exact wpS_pure ⟨S3.set _,_,_,_,_,_,_,rfl,⟨I6,by omega,by omega,by omega,by(clear c7 c8 c6 cO u2 u1 hk2 n5 c5 da ea n4 c4 hk0 tJ t2 t1 hk1 db eb hg l3 l2 l1 p2 hy p1 I1 hx n2 n1 c2 c1 d0 e0 hq h2 h1 Db Da hb ha hk;omega)⟩,by(clear c7 c8 c6 cO u2 u1 hk2 n5 c5 da ea n4 c4 hk0 tJ t2 t1 db eb hg l4 l3 l2 l1 hy p1 I1 hx n2 n1 c2 c1 d0 e0 hq h2 h1 Db Da hb ha hk;omega)⟩
      ·rw[if_neg wK]
       have z2:k2=j-1:=by(clear cO u2 u1 n5 c5 da ea n4 c4 hk0 tJ t2 t1 hk1 db eb hg l4 l2 l1 p2 hy p1 I1 hx n2 n1 c2 c1 d0 e0 hq h2 h1 Db Da hb ha hk;omega)
       subst z2;have I6:MH K a b (((o++(a.extract k i).reverse).push xb).push xa) (k-1) (j-1):=by
        show MG _ _ (((o++(a.extract k i).reverse).push xb).push xa).toList _ _;rw[aax];exact MG.iL (by rw[<-da];exact I4) cO
       refine wpS_bind (bu ea ?_)
       by_cases c7:(k-1==0)=true
       ·rw[if_pos c7]
        exact wpS_pure ⟨S3.set _,.inl ⟨_,_,rfl,I6.fin (.inl (by simpa using c7))⟩⟩
       rw[if_neg c7];have n7:k-1≠0:=λe=>c7 (by rw[e];rfl)
       split
       ·exact wpS_pure ⟨S3.set _,.inr ⟨_,_,_,_,_,_,rfl,⟨I6,by omega,by omega,by(clear c7 cO u2 u1 hk2 c5 da ea n4 c4 hk0 tJ t2 t1 hk1 db eb hg l4 l2 l1 p2 hy p1 I1 hx n2 n1 c2 c1 d0 e0 hq h2 h1 Db Da hb ha hk;omega),by(clear c7 cO u2 u1 hk2 n5 c5 da ea n4 c4 hk0 tJ t2 t1 hk1 db eb hg l2 l1 p2 hy p1 I1 hx n2 n1 c2 c1 d0 e0 hq h2 h1 Db Da hb ha hk;omega)⟩,by(clear c7 cO u2 u1 hk2 n5 c5 da ea n4 c4 hk0 tJ t2 t1 db eb hg l4 l2 l1 hy p1 I1 hx n2 n1 c2 c1 d0 e0 hq h2 h1 Db Da hb ha hk;omega)⟩⟩
       ·exact wpS_pure ⟨S3.set _,_,_,_,_,_,_,rfl,⟨I6,by omega,by omega,by(clear c7 cO u2 u1 hk2 c5 da ea n4 c4 hk0 tJ t2 t1 hk1 db eb hg l4 l2 l1 p2 hy p1 I1 hx n2 n1 c2 c1 d0 e0 hq h2 h1 Db Da hb ha hk;omega),by(clear c7 cO u2 u1 hk2 n5 c5 da ea n4 c4 hk0 tJ t2 t1 hk1 db eb hg l2 l1 p2 hy p1 I1 hx n2 n1 c2 c1 d0 e0 hq h2 h1 Db Da hb ha hk;omega)⟩,by(clear c7 cO u2 u1 hk2 n5 c5 da ea n4 c4 hk0 tJ t2 t1 db eb hg l4 l2 l1 hy p1 I1 hx n2 n1 c2 c1 d0 e0 hq h2 h1 Db Da hb ha hk;omega)⟩
     ·rw[if_neg hk0]
      have z0:k=i:=by omega
      subst z0
      replace J:=I2
      obtain⟨xa,ea,ma,da⟩:=rA (a:=a) (i:=k) (by omega) (by omega);have sa':=J.sa;rw[da]at sa';have I4:MH K a b (o.push xb) (k) (j-1):=by
       show MG _ _ (o.push xb).toList _ _;rw[aax];refine MG.pT (by rw[<-db];exact J) λz hz=> ?_;have:=tJ z (aaQ.mp hz);show-(K xb)<= -(K z);omega
      refine wpS_bind (bu eb ?_)
      by_cases c5:(j-1==1)=true
      ·rw[if_pos c5]
       exact wpS_pure ⟨S3.set _,.inl ⟨_,_,rfl,I4.DF (by simpa using c5) h1⟩⟩
      rw[if_neg c5];have n5:j-1≠1:=λe=>c5 (by rw[e];rfl);refine wpS_bind (bu ea (wpS_bind (lJ hL ((S3.set _).1.trans hk) (b.toList.take (j-1)) (λz hz=>by rw[abe,aaM hz];simp) (by simp;(clear n5 c5 da ea hk0 t2 hk1 l2 l1 p2 tJ t1 db eb hg hy p1 I1 hx n2 n1 c2 c1 d0 e0 hq h2 h1 Db Da hb ha hk;omega)) (λx hx=>Db x (aaH hx)) (Da _ ma) (List.Pairwise.sublist (abd _ _) sb) (by omega) λk2 hk2 u1 u2=> ?_)));simp only[if_true]at u1 u2;rw[abI,abC hk2]at u1;dsimp only;have I5:MH K a b (o.push xb++(b.extract k2 (j-1)).reverse) (k) k2:=by
       show MG _ _ (o.push xb++(b.extract k2 (j-1)).reverse).toList _ _;rw[aa0,sf];refine MG.uJ (by rw[<-mP b hk2];exact I4) λx hx y hy=> ?_;rw[da]at hy;have:=u2 x (aaQ.mp hx);exact aaB (by show-(K x)<= -(K xa);omega) (fE sa' y hy)
      have cO:∀y∈rv b k2,-(K xa)<= -(K y):=λy hy=>by
       have:=u1 y (aaQ.mp hy);omega
      by_cases wK:j-1-k2>0
      ·rw[if_pos wK]
       by_cases c6:(k2==1)=true
       ·rw[if_pos c6]
        exact wpS_pure ⟨S3.set _,.inl ⟨_,_,rfl,I5.DF (by simpa using c6) h1⟩⟩
       rw[if_neg c6];have n6:k2≠1:=λe=>c6 (by rw[e];rfl)
       by_cases c8:(k2==0)=true
       ·rw[if_pos c8]
        exact wpS_pure ⟨S3.set _,.inl ⟨_,_,rfl,I5.fin (.inr (by simpa using c8))⟩⟩
       rw[if_neg c8];have n8:k2≠0:=λe=>c8 (by rw[e];rfl);have I6:MH K a b ((o.push xb++(b.extract k2 (j-1)).reverse).push xa) (k-1) k2:=by
        show MG _ _ ((o.push xb++(b.extract k2 (j-1)).reverse).push xa).toList _ _;rw[aax];exact MG.iL (by rw[<-da];exact I5) cO
       refine wpS_bind (bu ea ?_)
       by_cases c7:(k-1==0)=true
       ·rw[if_pos c7]
        exact wpS_pure ⟨S3.set _,.inl ⟨_,_,rfl,I6.fin (.inl (by simpa using c7))⟩⟩
       rw[if_neg c7];have n7:k-1≠0:=λe=>c7 (by rw[e];rfl)
       split
       ·exact wpS_pure ⟨S3.set _,.inr ⟨_,_,_,_,_,_,rfl,⟨I6,by omega,by omega,by omega,by omega⟩,by omega⟩⟩
       ·exact wpS_pure ⟨S3.set _,_,_,_,_,_,_,rfl,⟨I6,by omega,by omega,by omega,by omega⟩,by omega⟩
      ·rw[if_neg wK]
       have z2:k2=j-1:=by(clear cO u2 u1 n5 c5 da ea hk0 t2 hk1 l2 l1 p2 tJ t1 db eb hg l4 hy p1 I1 hx n2 n1 c2 c1 d0 e0 hq h2 h1 Db Da hb ha hk;omega)
       subst z2;have I6:MH K a b ((o.push xb).push xa) (k-1) (j-1):=by
        show MG _ _ ((o.push xb).push xa).toList _ _;rw[aax];exact MG.iL (by rw[<-da];exact I4) cO
       refine wpS_bind (bu ea ?_)
       by_cases c7:(k-1==0)=true
       ·rw[if_pos c7]
        exact wpS_pure ⟨S3.set _,.inl ⟨_,_,rfl,I6.fin (.inl (by simpa using c7))⟩⟩
       rw[if_neg c7];have n7:k-1≠0:=λe=>c7 (by rw[e];rfl)
       split
       ·exact wpS_pure ⟨S3.set _,.inr ⟨_,_,_,_,_,_,rfl,⟨I6,by omega,by omega,by(clear c7 cO u2 u1 hk2 c5 da ea hk0 t2 hk1 l2 p2 tJ t1 db eb hg l4 hy p1 I1 hx n2 n1 c2 c1 d0 e0 hq h2 h1 Db Da hb ha hk;omega),by(clear c7 cO u2 u1 hk2 n5 c5 da ea hk0 t2 hk1 l2 p2 tJ t1 db eb hg hy p1 I1 hx n2 n1 c2 c1 d0 e0 hq h2 h1 Db Da hb ha hk;omega)⟩,by(clear c7 cO u2 u1 hk2 n5 c5 da ea hk0 t2 hk1 l2 tJ t1 db eb hg l4 hy p1 I1 hx n2 n1 c2 c1 d0 e0 hq h2 h1 Db Da hb ha hk;omega)⟩⟩
       ·exact wpS_pure ⟨S3.set _,_,_,_,_,_,_,rfl,⟨I6,by omega,by omega,by(clear c7 cO u2 u1 hk2 c5 da ea hk0 t2 hk1 l2 p2 tJ t1 db eb hg l4 hy p1 I1 hx n2 n1 c2 c1 d0 e0 hq h2 h1 Db Da hb ha hk;omega),by(clear c7 cO u2 u1 hk2 n5 c5 da ea hk0 t2 hk1 l2 p2 tJ t1 db eb hg hy p1 I1 hx n2 n1 c2 c1 d0 e0 hq h2 h1 Db Da hb ha hk;omega)⟩,by(clear c7 cO u2 u1 hk2 n5 c5 da ea hk0 t2 hk1 l2 tJ t1 db eb hg l4 hy p1 I1 hx n2 n1 c2 c1 d0 e0 hq h2 h1 Db Da hb ha hk;omega)⟩
    ·rw[if_neg hg]
     rw[se];refine wpS_bind (wpS_modify ?_);obtain⟨xb,eb,mb,db⟩:=rA (a:=b) (i:=j) (by omega) l4;have sb':=I2.sb;rw[db]at sb';refine wpS_bind (bu eb (wpS_bind (lJ hL ((S3.set _).1.trans hk) (a.toList.take i) (λz hz=>by rw[abe,aaM hz];simp) (by simp;omega) (λx hx=>Da x (aaH hx)) (Db _ mb) (List.Pairwise.sublist (abd _ _) sa) (by omega) λk hk1 t1 t2=> ?_)));simp only[aaz,if_false]at t1 t2;rw[abI,abC hk1]at t1;dsimp only;have J:MH K a b (o++(a.extract k i).reverse) k j:=by
      show MG _ _ (o++(a.extract k i).reverse).toList _ _;rw[aa0,sf];refine MG.yW (by rw[<-mP a hk1];exact I2) λx hx y hy=> ?_;rw[db]at hy;have:=t2 x (aaQ.mp hx);exact aaB (by show-(K x)<= -(K xb);omega) (fE sb' y hy)
     have tJ:=t1
     by_cases hk0:i-k>0
     ·rw[if_pos hk0]
      by_cases c4:(k==0)=true
      ·rw[if_pos c4]
       exact wpS_pure ⟨S3.set _,.inl ⟨_,_,rfl,J.fin (.inl (by simpa using c4))⟩⟩
      rw[if_neg c4];have n4:k≠0:=λe=>c4 (by rw[e];rfl);obtain⟨xa,ea,ma,da⟩:=rA (a:=a) (i:=k) (by omega) (by omega);have sa':=J.sa;rw[da]at sa';have I4:MH K a b ((o++(a.extract k i).reverse).push xb) (k) (j-1):=by
       show MG _ _ ((o++(a.extract k i).reverse).push xb).toList _ _;rw[aax];refine MG.pT (by rw[<-db];exact J) λz hz=> ?_;have:=tJ z (aaQ.mp hz);show-(K xb)<= -(K z);omega
      refine wpS_bind (bu eb ?_)
      by_cases c5:(j-1==1)=true
      ·rw[if_pos c5]
       exact wpS_pure ⟨S3.set _,.inl ⟨_,_,rfl,I4.DF (by simpa using c5) h1⟩⟩
      rw[if_neg c5];have n5:j-1≠1:=λe=>c5 (by rw[e];rfl);refine wpS_bind (bu ea (wpS_bind (lJ hL ((S3.set _).1.trans hk) (b.toList.take (j-1)) (λz hz=>by rw[abe,aaM hz];simp) (by simp;(clear n5 c5 da ea n4 c4 hk0 tJ t2 t1 hk1 db eb hg l2 l1 p2 hy p1 I1 hx n2 n1 c2 c1 d0 e0 hq h2 h1 Db Da hb ha hk;omega)) (λx hx=>Db x (aaH hx)) (Da _ ma) (List.Pairwise.sublist (abd _ _) sb) (by omega) λk2 hk2 u1 u2=> ?_)));simp only[if_true]at u1 u2;rw[abI,abC hk2]at u1;dsimp only;have I5:MH K a b ((o++(a.extract k i).reverse).push xb++(b.extract k2 (j-1)).reverse) (k) k2:=by
       show MG _ _ ((o++(a.extract k i).reverse).push xb++(b.extract k2 (j-1)).reverse).toList _ _;rw[aa0,sf];refine MG.uJ (by rw[<-mP b hk2];exact I4) λx hx y hy=> ?_;rw[da]at hy;have:=u2 x (aaQ.mp hx);exact aaB (by show-(K x)<= -(K xa);omega) (fE sa' y hy)
      have cO:∀y∈rv b k2,-(K xa)<= -(K y):=λy hy=>by
       have:=u1 y (aaQ.mp hy);omega
      by_cases wK:j-1-k2>0
      ·rw[if_pos wK]
       by_cases c6:(k2==1)=true
       ·rw[if_pos c6]
        exact wpS_pure ⟨S3.set _,.inl ⟨_,_,rfl,I5.DF (by simpa using c6) h1⟩⟩
       rw[if_neg c6];have n6:k2≠1:=λe=>c6 (by rw[e];rfl)
       by_cases c8:(k2==0)=true
       ·rw[if_pos c8]
        exact wpS_pure ⟨S3.set _,.inl ⟨_,_,rfl,I5.fin (.inr (by simpa using c8))⟩⟩
       rw[if_neg c8];have n8:k2≠0:=λe=>c8 (by rw[e];rfl);have I6:MH K a b (((o++(a.extract k i).reverse).push xb++(b.extract k2 (j-1)).reverse).push xa) (k-1) k2:=by
        show MG _ _ (((o++(a.extract k i).reverse).push xb++(b.extract k2 (j-1)).reverse).push xa).toList _ _;rw[aax];exact MG.iL (by rw[<-da];exact I5) cO
       refine wpS_bind (bu ea ?_)
       by_cases c7:(k-1==0)=true
       ·rw[if_pos c7]
        exact wpS_pure ⟨S3.set _,.inl ⟨_,_,rfl,I6.fin (.inl (by simpa using c7))⟩⟩
       rw[if_neg c7];have n7:k-1≠0:=λe=>c7 (by rw[e];rfl)
       split
       ·exact wpS_pure ⟨S3.set _,.inr ⟨_,_,_,_,_,_,rfl,⟨I6,by omega,by omega,by omega,by(clear c7 c8 c6 cO u2 u1 hk2 n5 c5 da ea n4 c4 hk0 tJ t2 t1 hk1 db eb hg l3 l2 l1 p2 hy p1 I1 hx n2 n1 c2 c1 d0 e0 hq h2 h1 Db Da hb ha hk;omega)⟩,by(clear c7 c8 c6 cO u2 u1 hk2 n5 c5 da ea n4 c4 hk0 tJ t2 t1 db eb hg l4 l3 l2 l1 hy p1 I1 hx n2 n1 c2 c1 d0 e0 hq h2 h1 Db Da hb ha hk;omega)⟩⟩
       ·exact wpS_pure ⟨S3.set _,_,_,_,_,_,_,rfl,⟨I6,by omega,by omega,by omega,by(clear c7 c8 c6 cO u2 u1 hk2 n5 c5 da ea n4 c4 hk0 tJ t2 t1 hk1 db eb hg l3 l2 l1 p2 hy p1 I1 hx n2 n1 c2 c1 d0 e0 hq h2 h1 Db Da hb ha hk;omega)⟩,by(clear c7 c8 c6 cO u2 u1 hk2 n5 c5 da ea n4 c4 hk0 tJ t2 t1 db eb hg l4 l3 l2 l1 hy p1 I1 hx n2 n1 c2 c1 d0 e0 hq h2 h1 Db Da hb ha hk;omega)⟩
      ·rw[if_neg wK]
       have z2:k2=j-1:=by(clear cO u2 u1 n5 c5 da ea n4 c4 hk0 tJ t2 t1 hk1 db eb hg l4 l2 l1 p2 hy p1 I1 hx n2 n1 c2 c1 d0 e0 hq h2 h1 Db Da hb ha hk;omega)
       subst z2;have I6:MH K a b (((o++(a.extract k i).reverse).push xb).push xa) (k-1) (j-1):=by
        show MG _ _ (((o++(a.extract k i).reverse).push xb).push xa).toList _ _;rw[aax];exact MG.iL (by rw[<-da];exact I4) cO
       refine wpS_bind (bu ea ?_)
       by_cases c7:(k-1==0)=true
       ·rw[if_pos c7]
        exact wpS_pure ⟨S3.set _,.inl ⟨_,_,rfl,I6.fin (.inl (by simpa using c7))⟩⟩
       rw[if_neg c7];have n7:k-1≠0:=λe=>c7 (by rw[e];rfl)
       split
       ·exact wpS_pure ⟨S3.set _,.inr ⟨_,_,_,_,_,_,rfl,⟨I6,by omega,by omega,by(clear c7 cO u2 u1 hk2 c5 da ea n4 c4 hk0 tJ t2 t1 hk1 db eb hg l4 l2 l1 p2 hy p1 I1 hx n2 n1 c2 c1 d0 e0 hq h2 h1 Db Da hb ha hk;omega),by(clear c7 cO u2 u1 hk2 n5 c5 da ea n4 c4 hk0 tJ t2 t1 hk1 db eb hg l2 l1 p2 hy p1 I1 hx n2 n1 c2 c1 d0 e0 hq h2 h1 Db Da hb ha hk;omega)⟩,by(clear c7 cO u2 u1 hk2 n5 c5 da ea n4 c4 hk0 tJ t2 t1 db eb hg l4 l2 l1 hy p1 I1 hx n2 n1 c2 c1 d0 e0 hq h2 h1 Db Da hb ha hk;omega)⟩⟩
       ·exact wpS_pure ⟨S3.set _,_,_,_,_,_,_,rfl,⟨I6,by omega,by omega,by(clear c7 cO u2 u1 hk2 c5 da ea n4 c4 hk0 tJ t2 t1 hk1 db eb hg l4 l2 l1 p2 hy p1 I1 hx n2 n1 c2 c1 d0 e0 hq h2 h1 Db Da hb ha hk;omega),by(clear c7 cO u2 u1 hk2 n5 c5 da ea n4 c4 hk0 tJ t2 t1 hk1 db eb hg l2 l1 p2 hy p1 I1 hx n2 n1 c2 c1 d0 e0 hq h2 h1 Db Da hb ha hk;omega)⟩,by(clear c7 cO u2 u1 hk2 n5 c5 da ea n4 c4 hk0 tJ t2 t1 db eb hg l4 l2 l1 hy p1 I1 hx n2 n1 c2 c1 d0 e0 hq h2 h1 Db Da hb ha hk;omega)⟩
     ·rw[if_neg hk0]
      have z0:k=i:=by omega
      subst z0
      replace J:=I2
      obtain⟨xa,ea,ma,da⟩:=rA (a:=a) (i:=k) (by omega) (by omega);have sa':=J.sa;rw[da]at sa';have I4:MH K a b (o.push xb) (k) (j-1):=by
       show MG _ _ (o.push xb).toList _ _;rw[aax];refine MG.pT (by rw[<-db];exact J) λz hz=> ?_;have:=tJ z (aaQ.mp hz);show-(K xb)<= -(K z);omega
      refine wpS_bind (bu eb ?_)
      by_cases c5:(j-1==1)=true
      ·rw[if_pos c5]
       exact wpS_pure ⟨S3.set _,.inl ⟨_,_,rfl,I4.DF (by simpa using c5) h1⟩⟩
      rw[if_neg c5];have n5:j-1≠1:=λe=>c5 (by rw[e];rfl);refine wpS_bind (bu ea (wpS_bind (lJ hL ((S3.set _).1.trans hk) (b.toList.take (j-1)) (λz hz=>by rw[abe,aaM hz];simp) (by simp;(clear n5 c5 da ea hk0 t2 hk1 l2 l1 p2 tJ t1 db eb hg hy p1 I1 hx n2 n1 c2 c1 d0 e0 hq h2 h1 Db Da hb ha hk;omega)) (λx hx=>Db x (aaH hx)) (Da _ ma) (List.Pairwise.sublist (abd _ _) sb) (by omega) λk2 hk2 u1 u2=> ?_)));simp only[if_true]at u1 u2;rw[abI,abC hk2]at u1;dsimp only;have I5:MH K a b (o.push xb++(b.extract k2 (j-1)).reverse) (k) k2:=by
       show MG _ _ (o.push xb++(b.extract k2 (j-1)).reverse).toList _ _;rw[aa0,sf];refine MG.uJ (by rw[<-mP b hk2];exact I4) λx hx y hy=> ?_;rw[da]at hy;have:=u2 x (aaQ.mp hx);exact aaB (by show-(K x)<= -(K xa);omega) (fE sa' y hy)
      have cO:∀y∈rv b k2,-(K xa)<= -(K y):=λy hy=>by
       have:=u1 y (aaQ.mp hy);omega
      by_cases wK:j-1-k2>0
      ·rw[if_pos wK]
       by_cases c6:(k2==1)=true
       ·rw[if_pos c6]
        exact wpS_pure ⟨S3.set _,.inl ⟨_,_,rfl,I5.DF (by simpa using c6) h1⟩⟩
       rw[if_neg c6];have n6:k2≠1:=λe=>c6 (by rw[e];rfl)
       by_cases c8:(k2==0)=true
       ·rw[if_pos c8]
        exact wpS_pure ⟨S3.set _,.inl ⟨_,_,rfl,I5.fin (.inr (by simpa using c8))⟩⟩
       rw[if_neg c8];have n8:k2≠0:=λe=>c8 (by rw[e];rfl);have I6:MH K a b ((o.push xb++(b.extract k2 (j-1)).reverse).push xa) (k-1) k2:=by
        show MG _ _ ((o.push xb++(b.extract k2 (j-1)).reverse).push xa).toList _ _;rw[aax];exact MG.iL (by rw[<-da];exact I5) cO
       refine wpS_bind (bu ea ?_)
       by_cases c7:(k-1==0)=true
       ·rw[if_pos c7]
        exact wpS_pure ⟨S3.set _,.inl ⟨_,_,rfl,I6.fin (.inl (by simpa using c7))⟩⟩
       rw[if_neg c7];have n7:k-1≠0:=λe=>c7 (by rw[e];rfl)
       split
       ·exact wpS_pure ⟨S3.set _,.inr ⟨_,_,_,_,_,_,rfl,⟨I6,by omega,by omega,by omega,by omega⟩,by omega⟩⟩
       ·exact wpS_pure ⟨S3.set _,_,_,_,_,_,_,rfl,⟨I6,by omega,by omega,by omega,by omega⟩,by omega⟩
      ·rw[if_neg wK]
       have z2:k2=j-1:=by omega
       subst z2;have I6:MH K a b ((o.push xb).push xa) (k-1) (j-1):=by
        show MG _ _ ((o.push xb).push xa).toList _ _;rw[aax];exact MG.iL (by rw[<-da];exact I4) cO
       refine wpS_bind (bu ea ?_)
       by_cases c7:(k-1==0)=true
       ·rw[if_pos c7]
        exact wpS_pure ⟨S3.set _,.inl ⟨_,_,rfl,I6.fin (.inl (by simpa using c7))⟩⟩
       rw[if_neg c7];have n7:k-1≠0:=λe=>c7 (by rw[e];rfl)
       split
       ·exact wpS_pure ⟨S3.set _,.inr ⟨_,_,_,_,_,_,rfl,⟨I6,by omega,by omega,by(clear c7 cO u2 u1 hk2 c5 da ea hk0 t2 hk1 l2 p2 tJ t1 db eb hg l4 hy p1 I1 hx n2 n1 c2 c1 d0 e0 hq h2 h1 Db Da hb ha hk;omega),by(clear c7 cO u2 u1 hk2 n5 c5 da ea hk0 t2 hk1 l2 p2 tJ t1 db eb hg hy p1 I1 hx n2 n1 c2 c1 d0 e0 hq h2 h1 Db Da hb ha hk;omega)⟩,by(clear c7 cO u2 u1 hk2 n5 c5 da ea hk0 t2 hk1 l2 tJ t1 db eb hg l4 hy p1 I1 hx n2 n1 c2 c1 d0 e0 hq h2 h1 Db Da hb ha hk;omega)⟩⟩
       ·exact wpS_pure ⟨S3.set _,_,_,_,_,_,_,rfl,⟨I6,by omega,by omega,by(clear c7 cO u2 u1 hk2 c5 da ea hk0 t2 hk1 l2 p2 tJ t1 db eb hg l4 hy p1 I1 hx n2 n1 c2 c1 d0 e0 hq h2 h1 Db Da hb ha hk;omega),by(clear c7 cO u2 u1 hk2 n5 c5 da ea hk0 t2 hk1 l2 p2 tJ t1 db eb hg hy p1 I1 hx n2 n1 c2 c1 d0 e0 hq h2 h1 Db Da hb ha hk;omega)⟩,by(clear c7 cO u2 u1 hk2 n5 c5 da ea hk0 t2 hk1 l2 tJ t1 db eb hg l4 hy p1 I1 hx n2 n1 c2 c1 d0 e0 hq h2 h1 Db Da hb ha hk;omega)⟩
   ·rintro c s3 ⟨S3,i,j,o,g,ca,cb,rfl,⟨I2,l1,l2,l3,l4⟩,p2⟩
    omega
   ·rintro c s3 ⟨S3,⟨r,z,rfl,hr⟩|⟨i,j,o,g,ca,cb,rfl,I2,p2⟩⟩
    ·exact wpS_pure ⟨S3,r,_,rfl,hr⟩
    dsimp only;rw[se];exact wpS_bind (wpS_modify (wpS_pure ⟨S3.set _,_,_,_,_,rfl,I2,by omega⟩))
 ·rintro c s1 ⟨S1,i,j,o,g,rfl,⟨I1,l1,l2,l3,l4⟩,p1⟩
  omega
 ·rintro c s1 ⟨S1,r,z,rfl,hr⟩
  exact wpS_pure (hq r s1 S1 hr)
end
noncomputable def kA(K:Keyed->Int)(xs:Array Keyed)(i:Nat):Int:=match xs[i]? with
 |some p=>K p
 |none=>0
theorem kK{K:Keyed->Int}{xs ys:Array Keyed}{i j:Nat}(h:xs[i]?=ys[j]?):kA K xs i=kA K ys j:=by unfold kA;rw[h]
noncomputable def So(K:Keyed->Int)(xs:Array Keyed)(lo n:Nat):Prop:=∀i j,i<=j->j<n->kA K xs (lo+i)<=kA K xs (lo+j)
noncomputable def Si(K:Keyed->Int)(xs:Array Keyed)(lo n:Nat):Prop:=∀i j,i<=j->j<n->kA K xs (lo+j)<=kA K xs (lo+i)
theorem sj{K:Keyed->Int}{xs:Array Keyed}{i j:Nat}(hj:j<=xs.size)(k:Nat):
  kA K (mirror xs i j ((j-i)/2)) k=if i<=k/\k<j then kA K xs (i+j-1-k)else kA K xs k:=by
 have e:=getElem?_mirror_all (i:=i) hj k
 by_cases h1:i<=k/\k<j
 ·rw[if_pos h1]at e ⊢;exact kK e
 ·rw[if_neg h1]at e ⊢;exact kK e
theorem zX{K:Keyed->Int}{xs:Array Keyed}{i j:Nat}(hj:j<=xs.size)(heq:∀k,i<=k->k<j->kA K xs k=kA K xs (j-1))(k:Nat):kA K (mirror xs i j ((j-i)/2)) k=kA K xs k:=by
 rw[sj hj]
 split
 ·rw[heq _ (by omega) (by(clear heq hj;omega)),heq k (by omega) (by omega)]
 ·rfl
theorem Hv{K:Keyed->Int}{xs:Array Keyed}{src d:Nat}(hs:src<xs.size)(hd:d<=src)(k:Nat):
  kA K (bubble xs src d) k=if k=src-d then kA K xs src else if src-d<k/\k<=src then kA K xs (k-1)else kA K xs k:=by
 have e:=getElem?_bubble hs d hd k
 by_cases h1:k=src-d
 ·rw[if_pos h1]at e ⊢;exact kK e
 ·rw[if_neg h1]at e ⊢
  by_cases h2:src-d<k/\k<=src
  ·rw[if_pos h2]at e ⊢;exact kK e
  ·rw[if_neg h2]at e ⊢;exact kK e
structure SC(lo:Nat)(s0 st:SortSt):Prop where
 perm:(arrOf st).Perm (arrOf s0)
 kind:kindOf st=kindOf s0
 failed:failedOf st=failedOf s0
 pend:pendingOf st=pendingOf s0
 low:∀i,i<lo->(arrOf st)[i]?=(arrOf s0)[i]?
theorem SC.refl(lo:Nat)(st:SortSt):SC lo st st:=⟨Array.Perm.refl _,rfl,rfl,rfl,λ_ _=>rfl⟩
theorem SC.trans{lo:Nat}{a b c:SortSt}(x:SC lo a b)(y:SC lo b c):SC lo a c:=⟨y.perm.trans x.perm,y.kind.trans x.kind,y.failed.trans x.failed,y.pend.trans x.pend,λi h=>(y.low i h).trans (x.low i h)⟩
theorem SC.size{lo:Nat}{a b:SortSt}(x:SC lo a b):(arrOf b).size=(arrOf a).size:=x.perm.size_eq
theorem SC.mirror{lo:Nat}{s0 st:SortSt}(x:SC lo s0 st){i j:Nat}(hi:lo<=i)(hj:j<=(arrOf st).size):SC lo s0 (setArr st (mirror (arrOf st) i j ((j-i)/2))):=
 x.trans ⟨mirror_perm _ _ _ _,rfl,rfl,rfl,λk hk=>by
  show(PyProof.Rows.mirror (arrOf st) i j ((j-i)/2))[k]?=_;rw[getElem?_mirror_all hj,if_neg (by omega)]⟩
theorem SC.bubble{lo:Nat}{s0 st:SortSt}(x:SC lo s0 st){src d:Nat}(hs:src<(arrOf st).size)(hd:lo+d<=src):SC lo s0 (setArr st (bubble (arrOf st) src d)):=
 x.trans ⟨bubble_perm _ _ _,rfl,rfl,rfl,λk hk=>by
  show(PyProof.Rows.bubble (arrOf st) src d)[k]?=_;rw[getElem?_bubble hs d (by(clear hs;omega)),if_neg (by(clear hs;omega)),if_neg (by(clear hs;omega))]⟩
structure SB(κ:SortKind)(D:Keyed->Prop)(st:SortSt):Prop where
 kind:kindOf st=κ
 failed:failedOf st=none
 all:∀x∈(arrOf st).toList,D x
theorem SB.sc{κ:SortKind}{D:Keyed->Prop}{lo:Nat}{s0 st:SortSt}(b:SB κ D s0)(x:SC lo s0 st):SB κ D st:=
 ⟨x.kind.trans b.kind,x.failed.trans b.failed,λy hy=>b.all y ((abu.mp x.perm).mem_iff.mp hy)⟩
section
variable{prog:Program}{w:World}{A:Around}{E:Value->Shared->Prop}{s:Shared}{κ:SortKind}{K:Keyed->Int}{D:Keyed->Prop}{st:SortSt}
theorem su(hL:rq prog w A E s κ K D){i j:Nat}{Q:Option Bool->SortSt->Prop}(hB:SB κ D st)(hi:i<(arrOf st).size)(hj:j<(arrOf st).size)
  (h:Q (some (decide (kA K (arrOf st) i<kA K (arrOf st) j))) st):wpS (model prog w) A E s (ltAt' i j) Q st:=by
 rw[ltAt'_eq];refine wpS_bind (wpS_get ?_);show wpS _ _ _ _ (do let x<-elem' (arrOf st) i;let y<-elem' (arrOf st) j;lt' x y) Q st;have e1:(arrOf st)[i]?=some (arrOf st)[i]:=getElem?_pos _ i hi;have e2:(arrOf st)[j]?=some (arrOf st)[j]:=getElem?_pos _ j hj;refine wpS_bind (bu e1 (wpS_bind (bu e2 ?_)));refine hL st _ _ _ hB.kind (hB.all _ (by simp)) (hB.all _ (by simp)) ?_;unfold kA at h;rw[e1,e2]at h;exact h
theorem w_rev{M:Model}{i j:Nat}{Q:Unit->SortSt->Prop}(h:Q ⟨⟩ (setArr st (mirror (arrOf st) i j ((j-i)/2)))):wpS M A E s (reverseSlice' i j) Q st:=by
 rw[reverseSlice'_eq];exact wpS_modify h
theorem w_count(hL:rq prog w A E s κ K D){lo nrem:Nat}{Q:Option Nat->SortSt->Prop}(hB:SB κ D st)(h1:1<=nrem)(hz:lo+nrem<=(arrOf st).size)
  (hq:∀n st',SC lo st st'->1<=n->n<=nrem->So K (arrOf st') lo n->Q (some n) st'):wpS (model prog w) A E s (countRun' lo nrem) Q st:=by
 rw[countRun'_eq];refine wpS_bind (wpS_mono (wpS_forRange (I:=λx c st'=>st'=st/\c=(none,x)/\So K (arrOf st) lo x)
  (Q:=λc st'=>st'=st/\ ∃n,c=(none,n)/\1<=n/\n<=nrem/\So K (arrOf st) lo n/\(n=nrem∨kA K (arrOf st) (lo+n)<kA K (arrOf st) (lo+n-1))) ?_ ?_ ⟨rfl,rfl,λi j hij hj=> ?_⟩) ?_)
 ·rintro x c st' ha hx ⟨rfl,rfl,hs⟩
  dsimp only;refine wpS_bind (su hL hB (by omega) (by omega) ?_);dsimp only
  by_cases lt:kA K (arrOf st') (lo+x)<kA K (arrOf st') (lo+x-1)
  ·rw[decide_eq_true lt,if_pos rfl]
   exact wpS_pure ⟨rfl,x,rfl,ha,by omega,hs,.inr lt⟩
  ·rw[decide_eq_false lt,if_neg (by simp)]
   refine wpS_pure ⟨rfl,rfl,λi j hij hj=> ?_⟩
   by_cases c:j=x
   ·subst c
    by_cases c2:i=j
    ·subst c2;exact aaZ _
    ·have:=hs i (j-1) (by(clear hj lt hx hq hz h1;omega)) (by(clear c2 hj lt hx hij hq hz h1;omega))
     rw[show lo+(j-1)=lo+j-1 by(clear this c2 hj lt hx hij hq hz h1;omega)]at this
     (clear c2 hj hx ha hij hq hz h1;omega)
   ·exact hs i j hij (by(clear hij lt hq hz hx ha h1;omega))
 ·rintro c st' ⟨rfl,rfl,hs⟩
  rw[adp h1]at hs ⊢;exact⟨rfl,nrem,rfl,h1,aav _,hs,.inl rfl⟩
 ·have:i=j:=by(clear hq hz h1;omega)
  subst this;exact aaZ _
 rintro c st' ⟨rfl,n,rfl,n1,n2,hs,hend⟩;dsimp only
 by_cases c1:(n==nrem)=true
 ·rw[if_pos c1]
  exact wpS_pure (hq n st' (.refl _ _) n1 n2 hs)
 rw[if_neg c1];have nn:n<nrem:=by
  have:n≠nrem:=λe=>c1 (by rw[e];simp);omega
 have hlt:kA K (arrOf st') (lo+n)<kA K (arrOf st') (lo+n-1):=hend.resolve_left (by omega);have part:∀s1:SortSt,SC lo st' s1->(∀k,kA K (arrOf s1) k=kA K (arrOf st') k) ->Si K (arrOf st') lo (n+1) -> ∀F:StateT SortSt Sem (Option Nat),F=(do
   rule "list.sort.descending-run"
   let mut n:=n
   n:=n+1
   let mut q:=0
   for _ in [n:nrem] do
    let some m<-ltAt' (lo+n) (lo+n-1)|return none
    if m then
     if q>0 then reverseSlice' (lo+n- (q+1)) (lo+n)
     q:=0
    else
     let some g<-ltAt' (lo+n-1) (lo+n)|return none
     if g then break
     q:=q+1
    n:=n+1
   if q>0 then reverseSlice' (lo+n- (q+1)) (lo+n)
   reverseSlice' lo (lo+n)
   for _ in [n:nrem] do
    let some m<-ltAt' (lo+n) (lo+n-1)|return none
    if m then break
    n:=n+1
   return some n) ->wpS (model prog w) A E s F Q s1:=by
  intro s1 S1 hk1 hd F hF;subst hF;refine wpS_bind (wpS_lift (wpAny_rule ⟨rfl,?_⟩));dsimp only;have rest:∀(s2:SortSt)(m:Nat),SC lo st' s2->n+1<=m->m<=nrem->Si K (arrOf s2) lo m-> ∀F:StateT SortSt Sem (Option Nat),F=(do
    reverseSlice' lo (lo+m)
    let mut n:=m
    for _ in [n:nrem] do
     let some m<-ltAt' (lo+n) (lo+n-1)|return none
     if m then break
     n:=n+1
    return some n) ->wpS (model prog w) A E s F Q s2:=by
   intro s2 m S2 m1 m2 hd2 F hF;subst hF;have z2:=S2.size;refine wpS_bind (w_rev ?_);have S3:=S2.mirror (i:=lo) (j:=lo+m) (aav _) (by omega);have XA:So K (arrOf (setArr s2 (mirror (arrOf s2) lo (lo+m) ((lo+m-lo)/2)))) lo m:=by
    intro i j hij hj;show kA K (mirror (arrOf s2) lo (lo+m) ((lo+m-lo)/2)) (lo+i)<=kA K (mirror (arrOf s2) lo (lo+m) ((lo+m-lo)/2)) (lo+j);rw[sj (by omega),sj (by omega),if_pos (by(clear z2 m2 m1 hk1 hlt nn c1 hend n2 n1 hq hz h1;omega)),if_pos (by(clear hij z2 m2 m1 hk1 hlt nn c1 hend n2 n1 hq hz h1;omega))];have:=hd2 (m-1-j) (m-1-i) (by(clear z2 m2 m1 hk1 hlt nn c1 hend n2 n1 hq hz h1;omega)) (by(clear z2 m2 m1 hk1 hlt nn c1 hend n2 n1 hq hz h1;omega));rw[show lo+(m-1-i)=lo+(lo+m) -1- (lo+i)by(clear this z2 m2 m1 hk1 hlt nn c1 hend n2 n1 hq hz h1;omega),show lo+(m-1-j)=lo+(lo+m) -1- (lo+j)by(clear this hij z2 m2 m1 hk1 hlt nn c1 hend n2 n1 hq hz h1;omega)]at this;exact this
   generalize setArr s2 (mirror (arrOf s2) lo (lo+m) ((lo+m-lo)/2))=s3 at S3 XA ⊢;have z3:=S3.size;have Zo:=hB.sc S3;refine wpS_bind (wpS_mono (wpS_forRange (I:=λx c st''=>st''=s3/\c=(none,x)/\So K (arrOf s3) lo x)
    (Q:=λc st''=>st''=s3/\ ∃n,c=(none,n)/\1<=n/\n<=nrem/\So K (arrOf s3) lo n) ?_ ?_ ⟨rfl,rfl,XA⟩) ?_)
   ·rintro x c st'' ha hx ⟨rfl,rfl,hs⟩
    dsimp only;refine wpS_bind (su hL Zo (by(clear ha m2 m1 hk1 hlt nn c1 hend n2 n1 hq h1;omega)) (by(clear m2 hk1 hlt nn c1 hend n2 hq h1;omega)) ?_);dsimp only
    by_cases lt:kA K (arrOf st'') (lo+x)<kA K (arrOf st'') (lo+x-1)
    ·rw[decide_eq_true lt,if_pos rfl]
     exact wpS_pure ⟨rfl,x,rfl,by(clear lt z3 hx z2 m2 hk1 hlt nn c1 hend n2 hq hz h1;omega),by omega,hs⟩
    ·rw[decide_eq_false lt,if_neg (by simp)]
     refine wpS_pure ⟨rfl,rfl,λi j hij hj=> ?_⟩
     by_cases c:j=x
     ·subst c
      by_cases c2:i=j
      ·subst c2;exact aaZ _
      ·have:=hs i (j-1) (by(clear hj lt hx ha z3 z2 m2 m1 hk1 hlt nn c1 hend n2 n1 hq hz h1;omega)) (by(clear c2 hj lt hx hij z3 z2 m2 hk1 hlt nn c1 hend n2 hq hz h1;omega))
       rw[show lo+(j-1)=lo+j-1 by(clear this c2 hj lt hx hij z3 z2 m2 hk1 hlt nn c1 hend n2 hq hz h1;omega)]at this
       (clear c2 hj hx ha hij z3 z2 m2 m1 hk1 hlt nn c1 hend n2 n1 hq hz h1;omega)
     ·exact hs i j hij (by(clear hij lt z3 hx ha z2 m2 m1 hk1 hlt nn c1 hend n2 n1 hq hz h1;omega))
   ·rintro c st'' ⟨rfl,rfl,hs⟩
    rw[adp m2]at hs ⊢;exact⟨rfl,nrem,rfl,by omega,aav _,hs⟩
   ·rintro c st'' ⟨rfl,n',rfl,a1,a2,a3⟩
    exact wpS_pure (hq n' st'' S3 a1 a2 a3)
  refine wpS_bind (wpS_mono (wpS_forRange (I:=λx c s2=> ∃q,c=(none,x,q)/\SC lo st' s2/\Si K (arrOf s2) lo x/\q+1<=x/\ ∀i,x- (q+1)<=i->i<x->kA K (arrOf s2) (lo+i)=kA K (arrOf s2) (lo+x-1))
   (Q:=λc s2=> ∃x q,c=(none,x,q)/\n+1<=x/\x<=nrem/\SC lo st' s2/\Si K (arrOf s2) lo x/\q+1<=x/\ ∀i,x- (q+1)<=i->i<x->kA K (arrOf s2) (lo+i)=kA K (arrOf s2) (lo+x-1)) ?_ ?_ ⟨0,rfl,S1,λi j hij hj=> ?_,by omega,λi h1 h2=> ?_⟩) ?_)
  ·rintro x c s2 ha hx ⟨q,rfl,S2,hd2,hq1,heq⟩
   dsimp only;have z2:=S2.size;have hB2:=hB.sc S2;refine wpS_bind (su hL hB2 (by omega) (by(clear heq ha rest hk1 hlt nn c1 hend n2 n1 hq h1;omega)) ?_);dsimp only
   by_cases lt:kA K (arrOf s2) (lo+x)<kA K (arrOf s2) (lo+x-1)
   ·rw[decide_eq_true lt,if_pos rfl]
    have Rh:∀s3:SortSt,SC lo st' s3->(∀k,kA K (arrOf s3) k=kA K (arrOf s2) k) -> ∃q,((none,x+1,0):Option (Option Nat)×Nat×Nat)=(none,x+1,q)/\SC lo st' s3/\Si K (arrOf s3) lo (x+1)/\q+1<=x+1/\ ∀i,x+1- (q+1)<=i->i<x+1->kA K (arrOf s3) (lo+i)=kA K (arrOf s3) (lo+(x+1) -1):=by
     intro s3 S3 Ft;refine⟨0,rfl,S3,λi j hij hj=> ?_,by omega,λi h1 h2=> ?_⟩
     ·rw[Ft,Ft]
      by_cases c:j=x
      ·subst c
       by_cases c2:i=j
       ·subst c2;exact aaZ _
       ·have:=hd2 i (j-1) (by(clear hj lt heq hx ha Ft z2 rest hk1 hlt nn c1 hend n2 n1 hq hz h1;omega)) (by(clear c2 hj lt heq hx ha hij Ft z2 rest hk1 hlt nn c1 hend n2 n1 hq hz h1;omega))
        rw[show lo+(j-1)=lo+j-1 by(clear this c2 hj lt heq hx ha hij Ft z2 rest hk1 hlt nn c1 hend n2 n1 hq hz h1;omega)]at this
        (clear c2 hj heq hq1 hx ha hij Ft z2 rest hk1 hlt nn c1 hend n2 n1 hq hz h1;omega)
      ·exact hd2 i j hij (by(clear hij Ft lt z2 heq hq1 hx ha rest hk1 hlt nn c1 hend n2 n1 hq hz h1;omega))
     ·have:i=x:=by(clear Ft lt z2 heq hq1 hx ha rest hk1 hlt nn c1 hend n2 n1 hq hz;omega)
      subst this
      rfl
    by_cases Ko:q>0
    ·rw[if_pos Ko]
     refine wpS_bind (w_rev (wpS_pure (Rh _ (S2.mirror (by(clear Ko Rh lt z2 heq hx ha rest hk1 hlt nn c1 hend n2 n1 hq hz h1;omega)) (by omega)) λk=> ?_)));refine zX (by omega) (λk k1 k2=> ?_) k;have:=heq (k-lo) (by(clear k2 Ko Rh lt z2 heq hx ha rest hk1 hlt nn c1 hend n2 n1 hq hz h1;omega)) (by(clear k1 Rh lt z2 heq hx ha rest hk1 hlt nn c1 hend n2 n1 hq hz h1;omega));rw[show lo+(k-lo)=k by(clear this k2 Ko Rh lt z2 heq hx ha rest hk1 hlt nn c1 hend n2 n1 hq hz h1;omega)]at this;exact this
    ·rw[if_neg Ko]
     exact wpS_pure (Rh s2 S2 λ_=>rfl)
   ·rw[decide_eq_false lt,if_neg (by simp)]
    refine wpS_bind (su hL hB2 (by(clear lt heq ha rest hk1 hlt nn c1 hend n2 n1 hq h1;omega)) (by omega) ?_);dsimp only
    by_cases FI:kA K (arrOf s2) (lo+x-1)<kA K (arrOf s2) (lo+x)
    ·rw[decide_eq_true FI,if_pos rfl]
     exact wpS_pure ⟨x,q,rfl,ha,by omega,S2,hd2,hq1,heq⟩
    ·rw[decide_eq_false FI,if_neg (by simp)]
     have e:kA K (arrOf s2) (lo+x)=kA K (arrOf s2) (lo+x-1):=by(clear z2 heq hq1 hx ha rest hk1 hlt nn c1 hend n2 n1 hq hz h1;omega)
     refine wpS_pure ⟨q+1,rfl,S2,λi j hij hj=> ?_,by omega,λi h1 h2=> ?_⟩
     ·by_cases c:j=x
      ·subst c
       by_cases c2:i=j
       ·subst c2;exact aaZ _
       ·have:=hd2 i (j-1) (by(clear hj e FI lt heq hx ha z2 rest hk1 hlt nn c1 hend n2 n1 hq hz h1;omega)) (by(clear c2 hj e FI lt heq hx ha hij z2 rest hk1 hlt nn c1 hend n2 n1 hq hz h1;omega))
        rw[show lo+(j-1)=lo+j-1 by(clear this c2 hj e FI lt heq hx ha hij z2 rest hk1 hlt nn c1 hend n2 n1 hq hz h1;omega)]at this
        (clear c2 hj e heq hq1 hx ha hij z2 rest hk1 hlt nn c1 hend n2 n1 hq hz h1;omega)
      ·exact hd2 i j hij (by(clear hij e FI lt z2 heq hq1 hx ha rest hk1 hlt nn c1 hend n2 n1 hq hz h1;omega))
     ·rw[show lo+(x+1) -1=lo+x by omega,e]
      by_cases c:i=x
      ·subst c;exact e
      ·exact heq i (by(clear e FI lt z2 heq hx ha rest hk1 hlt nn c1 hend n2 n1 hq hz;omega)) (by(clear h1 e FI lt z2 heq hq1 hx ha rest hk1 hlt nn c1 hend n2 n1 hq hz;omega))
  ·rintro c s2 ⟨q,rfl,S2,hd2,hq1,heq⟩
   rw[adp (show n+1<=nrem by omega)]at hd2 hq1 heq ⊢;exact⟨nrem,q,rfl,by omega,aav _,S2,hd2,hq1,heq⟩
  ·rw[hk1,hk1]
   exact hd i j hij hj
  ·have:i=n:=by(clear rest hk1 hlt nn c1 hend n2 hq hz;omega)
   subst this
   rfl
  ·rintro c s2 ⟨x,q,rfl,x1,x2,S2,hd2,hq1,heq⟩
   dsimp only;have z2:=S2.size
   by_cases Ko:q>0
   ·rw[if_pos Ko]
    refine wpS_bind (w_rev ?_);have hk:∀k,kA K (arrOf (setArr s2 (mirror (arrOf s2) (lo+x- (q+1)) (lo+x) ((lo+x- (lo+x- (q+1)))/2)))) k=kA K (arrOf s2) k:=λk=>by
     refine zX (by omega) (λk k1 k2=> ?_) k;have:=heq (k-lo) (by(clear k2 Ko z2 heq x2 x1 rest hk1 hlt nn c1 hend n2 n1 hq hz h1;omega)) (by(clear k1 z2 heq x2 x1 rest hk1 hlt nn c1 hend n2 n1 hq hz h1;omega));rw[show lo+(k-lo)=k by(clear this k2 Ko z2 heq x2 x1 rest hk1 hlt nn c1 hend n2 n1 hq hz h1;omega)]at this;exact this
    exact rest _ x (S2.mirror (by(clear hk Ko z2 heq x2 x1 rest hk1 hlt nn c1 hend n2 n1 hq hz h1;omega)) (by omega)) x1 x2 (λi j hij hj=>by rw[hk,hk];exact hd2 i j hij hj) _ rfl
   ·rw[if_neg Ko]
    exact rest s2 x S2 x1 x2 hd2 _ rfl
 by_cases gt:n>1
 ·rw[if_pos gt]
  refine wpS_bind (su hL hB (by omega) (by omega) ?_);dsimp only
  by_cases Hw:kA K (arrOf st') lo<kA K (arrOf st') (lo+n-1)
  ·rw[decide_eq_true Hw,if_pos rfl]
   exact wpS_pure (hq n st' (.refl _ _) n1 n2 hs)
  ·rw[decide_eq_false Hw,if_neg (by simp)]
   have hall:∀k,lo<=k->k<lo+n->kA K (arrOf st') k=kA K (arrOf st') (lo+n-1):=λk k1 k2=>by
    have a1:=hs 0 (k-lo) (by omega) (by omega);have a2:=hs (k-lo) (n-1) (by(clear a1 Hw part hlt nn c1 hend n2 n1 hq hz h1;omega)) (by omega);rw[show lo+(k-lo)=k by(clear a2 a1 k2 Hw gt part hlt nn c1 hend n2 n1 hq hz h1;omega)]at a1 a2;rw[show lo+(n-1)=lo+n-1 by(clear a2 a1 k1 Hw part hlt nn c1 hend n2 n1 hq hz h1;omega)]at a2;rw[ad7]at a1
    (clear k2 k1 gt part hlt nn c1 hend n2 n1 hq hz h1;omega)
   refine wpS_bind (w_rev (part _ ((SC.refl lo st').mirror (aav _) (by omega)) (λk=>zX (by omega) hall k) (λi j hij hj=> ?_) _ rfl))
   by_cases c:j=n
   ·subst c
    by_cases c2:i=j
    ·subst c2;exact aaZ _
    ·rw[hall (lo+i) (by omega) (by omega)]
     omega
   ·rw[hall (lo+i) (by omega) (by(clear hall Hw gt part hlt nn c1 hend n2 n1 hq hz h1;omega)),hall (lo+j) (by omega) (by omega)]
    exact aaZ _
 ·rw[if_neg gt]
  have e1:n=1:=by omega
  subst e1;refine part st' (.refl _ _) (λ_=>rfl) (λi j hij hj=> ?_) _ rfl
  by_cases c2:i=j
  ·subst c2;exact aaZ _
  ·have:i=0:=by(clear gt part hlt nn c1 hend n2 n1 hq hz h1;omega)
   have:j=1:=by(clear hij gt part hlt nn c1 hend n2 n1 hq hz h1;omega)
   subst_vars
   rw[show lo+1-1=lo+0 by omega]at hlt;omega
theorem OJ(hL:rq prog w A E s κ K D){lo n ok:Nat}{Q:Bool->SortSt->Prop}(hB:SB κ D st)(hok:ok<=n)(hz:lo+n<=(arrOf st).size)(hs:So K (arrOf st) lo ok)
  (h:∀st',SC lo st st'->So K (arrOf st') lo n->Q true st'):wpS (model prog w) A E s (binarySort' lo n ok) Q st:=by
 rw[binarySort'_eq];refine wpS_bind (wpS_mono (wpS_forRange (I:=λk c st'=>c=(none,())/\SC lo st st'/\So K (arrOf st') lo (min k n))
  (Q:=λc st'=>c=(none,())/\SC lo st st'/\So K (arrOf st') lo n) ?_ ?_ ⟨rfl,.refl _ _,λi j hij hj=> ?_⟩) ?_)
 ·rintro k c st' rX hkn ⟨rfl,S,hs'⟩
  rw[show min k n=k by(clear rX h hz hok;omega)]at hs';have z:=S.size;have hk:lo+k<(arrOf st').size:=by omega
  have Wk:=hB.sc S;refine wpS_bind (wpS_mono (wpS_forRange (I:=λx c s2=>s2=st'/\ ∃l r,c=(none,l,r)/\l<=r/\r<=k/\r-l<=k-x/\
    (∀i,i<l->kA K (arrOf st') (lo+i)<=kA K (arrOf st') (lo+k))/\(∀i,r<=i->i<k->kA K (arrOf st') (lo+k)<kA K (arrOf st') (lo+i)))
   (Q:=λc s2=>s2=st'/\ ∃l r,c=(none,l,r)/\l<=k/\
    (∀i,i<l->kA K (arrOf st') (lo+i)<=kA K (arrOf st') (lo+k))/\(∀i,l<=i->i<k->kA K (arrOf st') (lo+k)<kA K (arrOf st') (lo+i))) ?_ ?_ ⟨rfl,0,k,rfl,by omega,by omega,by omega,λi hi=>by omega,λi h1 h2=>by(clear hk z hkn rX h hz hok;omega)⟩) ?_)
  ·rintro x c s2 _ hxk ⟨rfl,l,r,rfl,hlr,hrk,hm,hlo,hhi⟩
   dsimp only
   by_cases hge:l≥r
   ·rw[if_pos hge]
    have:l=r:=by(clear hhi hlo hm hrk hk z hxk hkn rX h hz hok;omega)
    subst this;exact wpS_pure ⟨rfl,l,l,rfl,hrk,hlo,hhi⟩
   ·rw[if_neg hge]
    refine wpS_bind (su hL Wk hk (by(clear hhi hlo hm hlr z hxk hkn rX h hz hok;omega)) ?_)
    by_cases less:kA K (arrOf s2) (lo+k)<kA K (arrOf s2) (lo+(l+r)/2)
    ·simp only[less,decide_true,if_true]
     refine wpS_pure ⟨rfl,l,(l+r)/2,rfl,by(clear less hhi hlo hm hrk hlr hk z hxk hkn rX h hz hok;omega),by(clear less hhi hlo hm hlr hk z hxk hkn rX h hz hok;omega),by(clear less hhi hlo hrk hlr hk z hkn rX h hz hok;omega),hlo,λi h1 h2=> ?_⟩;exact Int.lt_of_lt_of_le less (hs' _ _ h1 h2)
    ·simp only[less,decide_false,aaz,if_false]
     refine wpS_pure ⟨rfl,(l+r)/2+1,r,rfl,by(clear less hhi hlo hm hrk hlr hk z hxk hkn rX h hz hok;omega),by omega,by(clear less hhi hlo hrk hlr hk z hkn rX h hz hok;omega),λi h1=> ?_,hhi⟩;exact aaB (hs' i ((l+r)/2) (by(clear less hge hhi hlo hm hrk hlr hk z hxk hkn rX h hz hok;omega)) (by(clear h1 less hhi hlo hm hlr hk z hxk hkn rX h hz hok;omega))) (Int.not_lt.mp less)
  ·rintro c s2 ⟨rfl,l,r,rfl,hlr,hrk,hm,hlo,hhi⟩
   have:l=r:=by(clear hhi hlo hrk hk z hkn rX h hz hok;omega)
   subst this;exact⟨rfl,l,l,rfl,hrk,hlo,hhi⟩
  ·rintro c s2 ⟨rfl,l,r,rfl,hlk,hlo,hhi⟩
   dsimp only;rw[moveDown'_eq,show lo+k- (lo+l)=k-l by(clear hhi hlo hk z hkn rX h hz hok;omega)];refine wpS_bind (wpS_modify (wpS_pure ⟨rfl,S.bubble hk (by(clear hhi hlo hk z hkn rX h hz hok;omega)),?_⟩));rw[show min (k+1) n=k+1 by(clear hhi hlo hlk hk z rX h hz hok;omega)];intro i j hij hj;show kA K (bubble (arrOf s2) (lo+k) (k-l)) (lo+i)<=kA K (bubble (arrOf s2) (lo+k) (k-l)) (lo+j);have e:∀t,t<k+1->kA K (bubble (arrOf s2) (lo+k) (k-l)) (lo+t)=if t=l then kA K (arrOf s2) (lo+k)else if l<t then kA K (arrOf s2) (lo+(t-1))else kA K (arrOf s2) (lo+t):=by
    intro t ht;rw[Hv hk (by(clear ht hj hij hhi hlo hk z hkn rX h hz hok;omega))]
    by_cases c1:t=l
    ·rw[if_pos (by(clear hj hij hhi hlo hlk hk z hkn rX h hz hok;omega)),if_pos c1]
    ·rw[if_neg (by(clear ht hj hij hhi hlo hk z hkn rX h hz hok;omega)),if_neg c1]
     by_cases c2:l<t
     ·rw[if_pos (by(clear c1 hj hij hhi hlo hk z hkn rX h hz hok;omega)),if_pos c2,show lo+t-1=lo+(t-1)by(clear c1 ht hj hij hhi hlo hlk hk z hkn rX h hz hok;omega)]
     ·rw[if_neg (by(clear c1 ht hj hij hhi hlo hk z hkn rX h hz hok;omega)),if_neg c2]
   rw[e i (by(clear e hhi hlo hlk hk z hkn rX h hz hok;omega)),e j hj]
   repeat' split
   all_goals first
    |(exfalso;(clear e hj hhi hlo hlk hk z hkn rX h hz hok;omega))
    |exact aaZ _
    |exact hlo _ (by(clear e hj hhi hlo hlk hk z hkn rX h hz hok;omega))
    |exact aas (hhi _ (by(clear e hj hij hhi hlo hlk hk z hkn rX h hz hok;omega)) (by(clear e hij hhi hlo hlk hk z hkn rX h hz hok;omega)))
    |exact hs' _ _ (by(clear e hj hhi hlo hlk hk z hkn rX h hz hok;omega)) (by(clear e hhi hlo hk z hkn rX h hz hok;omega))
 ·rintro c st' ⟨hc,S,hs'⟩
  refine⟨hc,S,?_⟩
  rwa [show min (max (max ok 1) n) n=n by(clear hc h hz hok;omega)]at hs'
 ·by_cases h1:ok=0
  ·have:i=j:=by omega
   subst this;exact aaZ _
  ·exact hs i j hij (by(clear hij h hz;omega))
 ·rintro c st' ⟨rfl,S,hs'⟩
  exact wpS_pure (h st' S hs')
noncomputable abbrev sl(a:Array Keyed)(lo n:Nat):List Keyed:=(a.toList.drop lo).take n
theorem sy{a:Array Keyed}{lo n:Nat}(h:lo+n<=a.size):So K a lo n↔(sl a lo n).Pairwise λx y=>K x<=K y:=by
 have len:(sl a lo n).length=n:=by simp[sl];omega
 have at':∀i (hi:i<n),∃x,(sl a lo n)[i]'(by(clear h;omega))=x/\kA K a (lo+i)=K x:=λi hi=>by
  refine⟨_,rfl,?_⟩;have e:a[lo+i]?=some ((sl a lo n)[i]'(by omega)):=by
   rw[<-aaq];simp[sl,aaM hi]
  unfold kA;rw[e]
 constructor
 ·intro hs
  rw[abj];intro i j hi hj hij;obtain⟨x,ex,kx⟩:=at' i (by omega);obtain⟨y,ey,ky⟩:=at' j (by omega);have:=hs i j (by omega) (by omega);rw[ex,ey,<-kx,<-ky];exact this
 ·intro hs i j hij hj
  by_cases c:i=j
  ·subst c;exact aaZ _
  obtain⟨x,ex,kx⟩:=at' i (by(clear c at' h;omega));obtain⟨y,ey,ky⟩:=at' j hj;have:=abj.mp hs i j (by omega) (by omega) (by omega);rw[ex,ey,<-kx,<-ky]at this;exact this
noncomputable def wr(sa:Nat)(a:Array Keyed)(l:List (Keyed×Nat)):Array Keyed:=l.foldl (λa (p,j)=>a.setIfInBounds (sa+j) p) a
theorem DG(sa:Nat):∀(l:List Keyed)(k:Nat)(a:Array Keyed)(t:Nat),sa+k+l.length<=a.size->(wr sa a (l.zipIdx k))[t]?=if sa+k<=t/\t<sa+k+l.length then l[t- (sa+k)]? else a[t]?
 | [],k,a,t,h=>by
  rw[if_neg (by simp)]
  rfl
 |x::l,k,a,t,h=>by
  have h':sa+k+(l.length+1)<=a.size:=h;show(wr sa (a.setIfInBounds (sa+k) x) (l.zipIdx (k+1)))[t]?=_;rw[DG sa l (k+1) _ t (by rw[ade];omega)];rw[aa7]
  by_cases c1:sa+(k+1)<=t/\t<sa+(k+1)+l.length
  ·rw[if_pos c1,if_pos (by(clear h' h;omega)),show t- (sa+k)=t- (sa+(k+1))+1 by(clear h' h;omega),List.getElem?_cons_succ]
  ·rw[if_neg c1,Array.getElem?_setIfInBounds]
   by_cases c2:sa+k=t
   ·subst c2
    rw[if_pos rfl,if_pos (by omega),if_pos (by omega),ad6]
    rfl
   ·rw[if_neg c2,if_neg (by(clear h' h;omega))]
theorem Np{sa:Nat}{l:List Keyed}{a:Array Keyed}(h:sa+l.length<=a.size):(wr sa a l.zipIdx).toList=a.toList.take sa++(l++a.toList.drop (sa+l.length)):=by
 refine List.ext_getElem? λt=> ?_;rw[acI,DG sa l 0 a t (by omega),ad7];have ls:(a.toList.take sa).length=sa:=by simp;omega
 by_cases c1:t<sa
 ·rw[if_neg (by(clear h;omega)),aaR (by(clear h;omega)),aaM c1]
  simp
 ·rw[aaO (by(clear h;omega)),ls]
  by_cases c2:t<sa+l.length
  ·rw[if_pos (by(clear h;omega)),aaR (by(clear h;omega))]
  ·rw[if_neg (by(clear c1 h;omega)),aaO (by(clear h;omega)),List.getElem?_drop,show sa+l.length+(t-sa-l.length)=t by(clear c1 h;omega)]
   simp
theorem Kp(l:List Keyed)(u n:Nat):l=l.take u++((l.drop u).take n++l.drop (u+n)):=by
 rw[<-abk,aaV,aaV]
theorem Kq{M:Model}{st':SortSt}{Q:PUnit->SortSt->Prop}(h:Q ⟨⟩ st'):wpS M A E s (set st':StateT SortSt Sem PUnit) Q st:=by
 unfold wpS;rw[StateT.run_set];exact wpAny_pure ⟨rfl,h⟩
theorem lK{M:Model}{α:Type}{c:Prop}[Decidable c]{x y:StateT SortSt Sem α}{Q:α->SortSt->Prop}(h1:c->wpS M A E s x Q st)(h2:¬c->wpS M A E s y Q st):wpS M A E s (if c then x else y) Q st:=by
 split
 ·exact h1 ‹_›
 ·exact h2 ‹_›
theorem Qp(i:Nat):mergeAt' i=(do
 let z<-get
 let(some (sa,na,pw),some (sb,nb,_)):=((pendingOf z)[i]?,(pendingOf z)[i+1]?)|(@unsupported _ "internal:list.sort.pending")
 set (SortSt.mk' (kindOf z) (arrOf z) (((pendingOf z).setIfInBounds i (sa,na+nb,pw)).eraseIdxIfInBounds (i+1)) (gallopOf z) (failedOf z))
 let some k<-Nm false (<-elem' (arrOf z) sb) (arrOf z) sa na 0|return false
 let(ua,ma):=(sa+k,na-k)
 if ma==0 then return true
 let some mb<-Nm true (<-elem' (arrOf z) (ua+ma-1)) (arrOf z) sb nb (nb-1)|return false
 if mb==0 then return true
 let x:=(arrOf z).extract ua sb
 let y:=(arrOf z).extract sb (sb+mb)
 let r<-if ma<=mb then Wh x y else Wi x y
 modify λz=>setArr z (wr ua (arrOf z) r.toList.zipIdx)
 return(failedOf (<-get)).isNone):=rfl
structure Mg(K:Keyed->Int)(sa n:Nat)(p:Array (Nat×Nat×Nat))(s0 st:SortSt):Prop where
 perm:(arrOf st).Perm (arrOf s0)
 kind:kindOf st=kindOf s0
 failed:failedOf st=failedOf s0
 pend:pendingOf st=p
 out:∀t,t<sa∨sa+n<=t->(arrOf st)[t]?=(arrOf s0)[t]?
 so:So K (arrOf st) sa n
theorem BF{l:List Keyed}(h:l.Pairwise λx y=>K x<=K y){x:Keyed}(hx:x∈l){z:Keyed}(hz:l[l.length-1]?=some z):K x<=K z:=by
 obtain⟨i,hi,rfl⟩:=abG.mp hx;rw[aaq (by omega)]at hz;rw[<-Option.some.inj hz]
 by_cases c:i=l.length-1
 ·subst c;exact aaZ _
 ·exact abj.mp h i (l.length-1) hi (by omega) (by(clear hz;omega))
theorem Tj(hL:rq prog w A E s κ K D){i sa na nb pw:Nat}{q:Nat×Nat}{Q:Bool->SortSt->Prop}(hB:SB κ D st)(e1:(pendingOf st)[i]?=some (sa,na,pw))(e2:(pendingOf st)[i+1]?=some (sa+na,nb,q.1))
  (ha:0<na)(hb:0<nb)(hz:sa+na+nb<=(arrOf st).size)(s1:So K (arrOf st) sa na)(s2:So K (arrOf st) (sa+na) nb)
  (hq:∀st',Mg K sa (na+nb) (((pendingOf st).setIfInBounds i (sa,na+nb,pw)).eraseIdxIfInBounds (i+1)) st st'->Q true st'):wpS (model prog w) A E s (mergeAt' i) Q st:=by
 rw[Qp];refine wpS_bind (wpS_get ?_);rw[e1,e2];dsimp only;refine wpS_bind (Kq ?_);have P1:=(sy (K:=K) (a:=arrOf st) (lo:=sa) (n:=na) (by omega)).mp s1;have P2:=(sy (K:=K) (a:=arrOf st) (lo:=sa+na) (n:=nb) (by omega)).mp s2;have lA:(sl (arrOf st) sa na).length=na:=by simp[sl];omega
 have lB:(sl (arrOf st) (sa+na) nb).length=nb:=by simp[sl];omega
 have gA:∀t,t<na->(arrOf st)[sa+t]?=(sl (arrOf st) sa na)[t]?:=λt ht=>by simp[sl,aaM ht]
 have gB:∀t,t<nb->(arrOf st)[sa+na+t]?=(sl (arrOf st) (sa+na) nb)[t]?:=λt ht=>by simp[sl,aaM ht]
 have DA:∀x∈sl (arrOf st) sa na,D x:=λx hx=>hB.all x (aaS (aaH hx));have DB:∀x∈sl (arrOf st) (sa+na) nb,D x:=λx hx=>hB.all x (aaS (aaH hx));have whole:sl (arrOf st) sa (na+nb)=sl (arrOf st) sa na++sl (arrOf st) (sa+na) nb:=by
  show((arrOf st).toList.drop sa).take (na+nb)=_;rw[List.take_add,abk]
 have parts:(arrOf st).toList=(arrOf st).toList.take sa++((sl (arrOf st) sa na++sl (arrOf st) (sa+na) nb)++(arrOf st).toList.drop (sa+(na+nb))):=by
  rw[<-whole];exact Kp _ _ _
 have wA:∃A0,sl (arrOf st) sa na=A0:=⟨_,rfl⟩;have wB:∃B0,sl (arrOf st) (sa+na) nb=B0:=⟨_,rfl⟩;obtain⟨A0,eA⟩:=wA;obtain⟨B0,eB⟩:=wB;rw[eA]at P1 lA gA DA whole parts;rw[eB]at P2 lB gB DB whole parts;have mQ:∀g,(A0++B0).Pairwise (λx y=>K x<=K y) ->Q true (SortSt.mk' (kindOf st) (arrOf st) (((pendingOf st).setIfInBounds i (sa,na+nb,pw)).eraseIdxIfInBounds (i+1)) g (failedOf st)):=λg hs=>
  hq _ ⟨Array.Perm.refl _,rfl,rfl,rfl,λ_ _=>rfl,(sy (by show sa+(na+nb)<=(arrOf st).size;omega)).mpr (by show(sl (arrOf st) sa (na+nb)).Pairwise _;rw[whole];exact hs)⟩
 obtain⟨b0,hb0⟩:∃b0,B0[0]?=some b0:=⟨_,aaq (by omega)⟩;have Zp:b0∈B0:=aaA hb0;have FQ:∀y∈B0,K b0<=K y:=by
  cases B0 with
  |nil=>cases hb0
  |cons z B0=>
   have:z=b0:=Option.some.inj hb0;subst this;exact fE P2
 refine wpS_bind (bu (by rw[<-hb0,<-gB 0 hb];rfl) (wpS_bind (lJ hL hB.kind A0 gA lA.symm DA (DB _ Zp) P1 ha λk hk1 t1 t2=> ?_)));simp only[aaz,if_false]at t1 t2;dsimp only
 by_cases c1:(na-k==0)=true
 ·rw[if_pos c1]
  refine wpS_pure (mQ _ (aa2.mpr ⟨P1,P2,λx hx y hy=>aaB (t1 x ?_) (FQ y hy)⟩));have:na-k=0:=by simpa using c1
  rw[aaP (by omega)];exact hx
 rw[if_neg c1];have n1:na-k≠0:=λe=>c1 (by rw[e];rfl);obtain⟨al,hal⟩:∃al,A0[na-1]?=some al:=⟨_,aaq (by omega)⟩;have Zq:al∈A0:=aaA hal;have mR:∀x∈A0,K x<=K al:=λx hx=>BF P1 hx (by rw[lA];exact hal);refine wpS_bind (bu (by rw[show sa+k+(na-k) -1=sa+(na-1)by(clear mR hal n1 c1 t2 t1 FQ hb0 mQ eB lB gB DB whole parts eA gA DA hq hz hb e2 e1;omega),gA (na-1) (by omega)];exact hal) (wpS_bind (lJ hL hB.kind B0 gB lB.symm DB (DA _ Zq) P2 (by omega) λm hm1 u1 u2=> ?_)));simp only[if_true]at u1 u2;dsimp only
 by_cases c2:(m==0)=true
 ·rw[if_pos c2]
  refine wpS_pure (mQ _ (aa2.mpr ⟨P1,P2,λx hx y hy=>aaB (mR x hx) (u2 y ?_)⟩));have:m=0:=by simpa using c2
  subst this;exact hy
 rw[if_neg c2];have n2:m≠0:=λe=>c2 (by rw[e];rfl);have ex:((arrOf st).extract (sa+k) (sa+na)).toList=A0.drop k:=by
  rw[<-eA];simp[sl,adM,Nat.add_sub_add_left]
 have ey:((arrOf st).extract (sa+na) (sa+na+m)).toList=B0.take m:=by
  rw[<-eB];simp[sl,abI,abC hm1]
 have Kr:((arrOf st).extract (sa+k) (sa+na)).size=na-k:=by simp;omega
 have szy:((arrOf st).extract (sa+na) (sa+na+m)).size=m:=by simp;omega
 have Xs:=List.Pairwise.sublist (List.drop_sublist k A0) P1;have Ys:=List.Pairwise.sublist (abd m B0) P2;have dX:∀x∈A0.drop k,D x:=λx hx=>DA x (aaS hx);have dY:∀x∈B0.take m,D x:=λx hx=>DB x (aaH hx);have BG:∀y∈(B0.take m).take 1,∀x∈A0.drop k,K y<=K x:=λy hy x hx=>by
  have e:(B0.take m).take 1=[b0]:=by
   cases B0 with
   |nil=>cases hb0
   |cons z B0=>
    have:z=b0:=Option.some.inj hb0;subst this;obtain⟨m,rfl⟩:∃m',m=m'+1:=⟨m-1,by(clear FQ hb0 t2 t1 dY ey u2 u1 mQ eB lB gB DB whole parts dX Kr ex c2 hm1 mR hal n1 c1 eA gA DA hq hz hb ha e2 e1;omega)⟩
    rfl
  rw[e,aap]at hy;subst hy;exact aas (t2 x hx)
 have Mf:∀y∈B0.take m,∀x∈(A0.drop k).drop (na-k-1),K y<=K x:=λy hy x hx=>by
  have e:(A0.drop k).drop (na-k-1)=[al]:=by
   rw[abk,show k+(na-k-1)=na-1 by(clear BG dY dX Kr ey ex c2 u2 u1 hm1 mR hal c1 t2 t1 FQ hb0 mQ eB lB gB DB whole parts eA gA DA hq hz hb e2 e1;omega)];have e3:=abi (l:=A0) (i:=na-1) (by omega);rw[aaq (by omega)]at hal;rw[e3,Option.some.inj hal,ab6 (by omega)]
  rw[e,aap]at hx;subst hx;exact aas (u1 y hy)
 have goal:∀(r:Array Keyed)(s3:SortSt),Sg (SortSt.mk' (kindOf st) (arrOf st) (((pendingOf st).setIfInBounds i (sa,na+nb,pw)).eraseIdxIfInBounds (i+1)) (gallopOf st) (failedOf st)) s3->
   Good K (A0.drop k++B0.take m) r.toList->wpS (model prog w) A E s (do
    modify λz=>setArr z (wr (sa+k) (arrOf z) r.toList.zipIdx)
    return(failedOf (<-get)).isNone) Q s3:=by
  intro r s3 S3 G;refine wpS_bind (wpS_modify (wpS_bind (wpS_get ?_)));have fl:failedOf s3=none:=S3.2.2.2.trans hB.failed;show wpS _ _ _ _ (pure (failedOf s3).isNone) _ _;rw[fl];refine wpS_pure (hq _ ?_);have ar:arrOf s3=arrOf st:=S3.2.1;have lr:r.toList.length=na-k+m:=by rw[G.1.length_eq,aaC,aci,aaX];omega
  have lst:(wr (sa+k) (arrOf st) r.toList.zipIdx).toList=(arrOf st).toList.take sa++((A0.take k++(r.toList++B0.drop m))++(arrOf st).toList.drop (sa+(na+nb))):=by
   rw[Np (by omega),lr];have ts:((arrOf st).toList.take sa).length=sa:=by simp;omega
   have q1:(arrOf st).toList.take (sa+k)=(arrOf st).toList.take sa++A0.take k:=by
    rw[List.take_add,<-eA];show _=_++(((arrOf st).toList.drop sa).take na).take k;rw[abI,abC hk1]
   have q2:(arrOf st).toList.drop (sa+k+(na-k+m))=B0.drop m++(arrOf st).toList.drop (sa+(na+nb)):=by
    rw[<-eB];show _=(((arrOf st).toList.drop (sa+na)).take nb).drop m++_;rw[adM,abk,show sa+k+(na-k+m)=sa+na+m by(clear q1 ts ar fl Mf BG dY dX Kr ey ex n2 c2 u2 u1 hm1 mR hal n1 c1 t2 t1 FQ hb0 mQ eB lB gB DB whole parts eA gA DA hq hz hb ha e2 e1;omega)]
    conv=>lhs;rw[<-aaV (nb-m) ((arrOf st).toList.drop (sa+na+m))]
    rw[abk,show sa+na+m+(nb-m)=sa+(na+nb)by(clear q1 ts lr ar fl Mf BG dY dX Kr ey ex n2 c2 u2 u1 mR hal n1 c1 t2 t1 hk1 FQ hb0 mQ eB gB DB whole parts eA lA gA DA hq hz hb ha e2 e1;omega)]
   rw[q1,q2];simp[abo]
  have Zr:(A0.take k++(r.toList++B0.drop m)).Pairwise λx y=>K x<=K y:=by
   have sA:=aa2.mp (by rw[aaV];exact P1:(A0.take k++A0.drop k).Pairwise λx y=>K x<=K y);have sB:=aa2.mp (by rw[aaV];exact P2:(B0.take m++B0.drop m).Pairwise λx y=>K x<=K y);refine aa2.mpr ⟨sA.1,aa2.mpr ⟨G.2,sB.2.1,λx hx y hy=> ?_⟩,λx hx y hy=> ?_⟩
   ·rcases aaE.mp (G.1.mem_iff.mp hx)with z|z
    ·exact aaB (mR x (aaS z)) (u2 y hy)
    ·exact sB.2.2 x z y hy
   ·rcases aaE.mp hy with z|z
    ·rcases aaE.mp (G.1.mem_iff.mp z)with z|z
     ·exact sA.2.2 x hx y z
     ·exact aaB (t1 x hx) (FQ y (aaH z))
    ·exact aaB (t1 x hx) (FQ y (aaS z))
  have UD:(wr (sa+k) (arrOf st) r.toList.zipIdx).size=(arrOf st).size:=by
   rw[<-aaK,lst,<-aaK]
   conv=>rhs;rw[parts]
   simp only[aaC,lr,aaX,aci,lA,lB];omega
  have pm:(wr (sa+k) (arrOf st) r.toList.zipIdx).Perm (arrOf st):=by
   refine abu.mpr ?_;rw[lst]
   conv=>rhs;rw[parts]
   refine List.Perm.append_left _ (List.Perm.append_right _ ?_);have h1:(A0.take k++(r.toList++B0.drop m)).Perm (A0.take k++((A0.drop k++B0.take m)++B0.drop m)):=List.Perm.append_left _ (List.Perm.append_right _ G.1);refine h1.trans (List.Perm.of_eq ?_);rw[abo,aaV,<-abo,aaV]
  refine⟨?_,S3.1,by show failedOf s3=failedOf st;rw[fl,hB.failed],S3.2.2.1,λt ht=> ?_,?_⟩
  ·show(wr (sa+k) (arrOf s3) r.toList.zipIdx).Perm _
   rw[ar];exact pm
  ·show(wr (sa+k) (arrOf s3) r.toList.zipIdx)[t]?=_
   rw[ar,DG (sa+k) r.toList 0 (arrOf st) t (by omega),if_neg (by(clear UD lst ar fl Mf BG dY dX Kr ey ex n2 c2 u2 u1 mR hal n1 c1 t2 t1 FQ hb0 mQ eB gB DB whole parts eA gA DA hq hz hb ha e2 e1;omega))]
  ·show So K (wr (sa+k) (arrOf s3) r.toList.zipIdx) sa (na+nb)
   rw[ar,sy (by rw[UD];omega)];show(((wr (sa+k) (arrOf st) r.toList.zipIdx).toList.drop sa).take (na+nb)).Pairwise _;have ts:((arrOf st).toList.take sa).length=sa:=by simp;omega
   rw[lst,List.drop_append_of_le_length (by omega),ab6 (by omega),acU,List.take_append_of_le_length (by simp only[aaC,aaX,aci,lr,lA,lB];(clear ts UD lst ar fl Mf BG dY dX Kr ey ex n2 c2 u2 u1 mR hal n1 c1 t2 t1 FQ hb0 mQ eB gB DB whole parts eA gA DA hq hz hb ha e2 e1;omega)),
    aaP (by simp only[aaC,aaX,aci,lr,lA,lB];(clear ts UD lst ar fl Mf BG dY dX Kr ey ex n2 c2 u2 u1 mR hal n1 c1 t2 t1 FQ hb0 mQ eB gB DB whole parts eA gA DA hq hz hb ha e2 e1;omega))]
   exact Zr
 refine lK (λc=> ?_) (λc=> ?_)
 ·refine wpS_bind (Tg hL hB.kind (by(clear c goal Mf BG dY dX ey ex c2 u2 u1 hm1 mR hal c1 t2 t1 FQ hb0 mQ eB lB gB DB whole parts eA gA DA hq hz hb ha e2 e1;omega)) (by(clear c goal Mf BG dY dX Kr ey ex c2 u2 u1 hm1 mR hal n1 c1 t2 t1 FQ hb0 mQ eB lB gB DB whole parts eA gA DA hq hz hb ha e2 e1;omega)) (by rw[ex];exact dX) (by rw[ey];exact dY) (by rw[ex];exact Xs) (by rw[ey];exact Ys) (by rw[ex,ey];exact BG) (by rw[ex,ey,Kr];exact Mf) λr s3 S3 G=> ?_)
  rw[ex,ey]at G;exact goal r s3 S3 G
 ·refine wpS_bind (Ti hL hB.kind (by omega) (by(clear c goal Mf BG dY dX Kr ey ex c2 u2 u1 hm1 mR hal n1 c1 t2 t1 FQ hb0 mQ eB lB gB DB whole parts eA gA DA hq hz hb ha e2 e1;omega)) (by rw[ex];exact dX) (by rw[ey];exact dY) (by rw[ex];exact Xs) (by rw[ey];exact Ys) (by rw[ex,ey];exact BG) (by rw[ex,ey,Kr];exact Mf) λr s3 S3 G=> ?_)
  rw[ex,ey]at G;exact goal r s3 S3 G
end
noncomputable def rB(K:Keyed->Int)(ar:Array Keyed):Nat->List (Nat×Nat×Nat) ->Nat->Prop
 |a,[],e=>a=e
 |a,(u,n,_)::r,e=>u=a/\0<n/\So K ar a n/\rB K ar (a+n) r e
theorem rB.le{K:Keyed->Int}{ar:Array Keyed}:∀{l:List (Nat×Nat×Nat)}{a e:Nat},rB K ar a l e->a+l.length<=e
 | [],a,e,h=>abZ h
 |(u,n,z)::r,a,e,h=>by
  have:=rB.le h.2.2.2;have:=h.2.1;rw[aa7];omega
theorem So.congr{K:Keyed->Int}{x y:Array Keyed}{lo n:Nat}(h:So K x lo n)(e:∀t,lo<=t->t<lo+n->y[t]?=x[t]?):So K y lo n:=λi j hij hj=>by
 rw[kK (e (lo+i) (by omega) (by omega)),kK (e (lo+j) (by omega) (by omega))];exact h i j hij hj
theorem rB.congr{K:Keyed->Int}{x y:Array Keyed}:∀{l:List (Nat×Nat×Nat)}{a e:Nat},rB K x a l e->(∀t,a<=t->t<e->y[t]?=x[t]?) ->rB K y a l e
 | [],a,e,h,_=>h
 |(u,n,z)::r,a,e,h,q=>⟨h.1,h.2.1,h.2.2.1.congr λt h1 h2=>q t h1 (by have:=h.2.2.2.le;omega),h.2.2.2.congr λt h1 h2=>q t (by omega) h2⟩
theorem rB.append{K:Keyed->Int}{ar:Array Keyed}{r:List (Nat×Nat×Nat)}{e:Nat}:∀{l:List (Nat×Nat×Nat)}{a:Nat},rB K ar a (l++r) e↔ ∃m,rB K ar a l m/\rB K ar m r e
 | [],a=>⟨λh=>⟨a,rfl,h⟩,λ ⟨m,h,q⟩=>by cases h;exact q⟩
 |(u,n,z)::l,a=>by
  constructor
  ·rintro⟨h1,h2,h3,h4⟩
   obtain⟨m,p,q⟩:=rB.append.mp h4;exact⟨m,⟨h1,h2,h3,p⟩,q⟩
  ·rintro⟨m,⟨h1,h2,h3,p⟩,q⟩
   exact⟨h1,h2,h3,rB.append.mpr ⟨m,p,q⟩⟩
theorem rB.push{K:Keyed->Int}{ar:Array Keyed}{l:List (Nat×Nat×Nat)}{a e n z:Nat}(h:rB K ar a l e)(hn:0<n)(hs:So K ar e n):rB K ar a (l++ [(e,n,z)]) (e+n):=rB.append.mpr ⟨e,h,rfl,hn,hs,rfl⟩
theorem rB.pow{K:Keyed->Int}{ar:Array Keyed}{l:List (Nat×Nat×Nat)}{a e u n z z':Nat}(h:rB K ar a (l++ [(u,n,z)]) e):rB K ar a (l++ [(u,n,z')]) e:=by
 obtain⟨m,p,q1,q2,q3,q4⟩:=rB.append.mp h;exact rB.append.mpr ⟨m,p,q1,q2,q3,q4⟩
theorem Ks:sortRuns'=(do
 let zz:=(arrOf (<-get)).size
 let mr:=minRun' zz zz 0
 let mut lo:=0
 for _ in [0:zz] do
  if lo≥zz then break
  let some f<-countRun' lo (zz-lo)|return
  let mut n:=f
  if n<mr then
   rule "list.sort.binary-insertion"
   let fo:=min (zz-lo) mr
   if !(<-binarySort' lo fo n)then return
   n:=fo
  if let some (a1,b1,_):=(pendingOf (<-get)).back? then
   let pw:=power' zz (2*a1+b1) (2*a1+b1+b1+n) zz
   for _ in [0:zz] do
    let p:=pendingOf (<-get)
    let some (_,_,od):=(if p.size>1 then p[p.size-2]? else none)|break
    if od<=pw then break
    if !(<-mergeAt' (p.size-2))then return
   modify λy=>setPending y ((pendingOf y).modify ((pendingOf y).size-1) λ (c,d,_)=>(c,d,pw))
  modify λy=>setPending y ((pendingOf y).push (lo,n,0))
  lo:=lo+n
 for _ in [0:zz] do
  let p:=pendingOf (<-get)
  if p.size<=1 then break
  let i:=p.size-2
  let be:=if i>0 then p[i-1]?.map (·.2.1)else none
  let i:=if be.any (· <(p[i+1]?.elim 0 (·.2.1)))then i-1 else i
  if !(<-mergeAt' i)then return):=rfl
section
variable{prog:Program}{w:World}{A:Around}{E:Value->Shared->Prop}{s:Shared}{κ:SortKind}{K:Keyed->Int}{D:Keyed->Prop}{st:SortSt}{a₀:Array Keyed}
structure RI(κ:SortKind)(K:Keyed->Int)(D:Keyed->Prop)(a₀:Array Keyed)(lo:Nat)(st:SortSt):Prop where
 sb:SB κ D st
 perm:(arrOf st).Perm a₀
 Qq:rB K (arrOf st) 0 (pendingOf st).toList lo
 le:lo<=a₀.size
theorem RI.size{lo:Nat}(R:RI κ K D a₀ lo st):(arrOf st).size=a₀.size:=R.perm.size_eq
theorem RI.cnt{lo:Nat}(R:RI κ K D a₀ lo st):(pendingOf st).size<=lo:=by have:=R.Qq.le;rw[abe,aaK]at this;exact this
theorem RI.sc{lo:Nat}{s1:SortSt}(R:RI κ K D a₀ lo st)(S:SC lo st s1):RI κ K D a₀ lo s1:=
 ⟨R.sb.sc S,S.perm.trans R.perm,by rw[S.pend];exact R.Qq.congr λt _ h=>S.low t h,R.le⟩
theorem wL(hL:rq prog w A E s κ K D){lo i:Nat}{Q:Bool->SortSt->Prop}(R:RI κ K D a₀ lo st)(hi:i+1<(pendingOf st).size)
  (hq:∀st',RI κ K D a₀ lo st'->(pendingOf st').size+1=(pendingOf st).size->(∀t,lo<=t->(arrOf st')[t]?=(arrOf st)[t]?) ->Q true st'):wpS (model prog w) A E s (mergeAt' i) Q st:=by
 have hl:i+1<(pendingOf st).toList.length:=by simpa using hi
 obtain⟨⟨u,na,z1⟩,eu⟩:∃x,(pendingOf st).toList[i]?=some x:=⟨_,aaq (by omega)⟩;obtain⟨⟨v,nb,z2⟩,ev⟩:∃x,(pendingOf st).toList[i+1]?=some x:=⟨_,aaq hl⟩;obtain⟨pre,post,split,lt⟩:∃pre post,(pendingOf st).toList=pre++((u,na,z1)::(v,nb,z2)::post)/\pre.length=i:=by
  refine⟨(pendingOf st).toList.take i,(pendingOf st).toList.drop (i+2),?_,by rw[aaX];omega⟩
  conv=>lhs;rw[<-aaV i (pendingOf st).toList]
  congr 1
  rw[abi (by omega),abi hl];rw[aaq (by omega)]at eu;rw[aaq hl]at ev;rw[Option.some.inj eu,Option.some.inj ev]
 have C:=R.Qq;rw[split]at C;obtain⟨m,c1,rfl,hna,sa,c2⟩:=rB.append.mp C;obtain⟨rfl,hnb,sb,c3⟩:=c2;have uK:=c3.le;have sz:=R.size;have rl:=R.le;refine Tj hL (q:=(z2,0)) (nb:=nb) (na:=na) (sa:=u) (pw:=z1) R.sb (by rw[<-acI];exact eu) (by rw[<-acI];exact ev) hna hnb (by(clear hnb split ev hna lt eu hl hq hi;omega)) sa sb λst' M=> ?_;have pl:(pendingOf st').toList=pre++((u,na+nb,z1)::post):=by
  rw[M.pend];simp only[Array.toList_eraseIdxIfInBounds,Array.toList_setIfInBounds];rw[split,List.set_append_right _ _ (by omega),lt,ad6,List.set_cons_zero,List.eraseIdx_append_of_length_le (by omega),lt,show i+1-i=1 by(clear rl sz uK hnb split ev hna lt eu hl hq hi;omega),List.eraseIdx_cons_succ,List.eraseIdx_cons_zero]
 have ov:=c3.le;refine hq st' ⟨⟨M.kind.trans R.sb.kind,M.failed.trans R.sb.failed,λx hx=>R.sb.all x ((abu.mp M.perm).mem_iff.mp hx)⟩,M.perm.trans R.perm,?_,R.le⟩ ?_ λt h=>M.out t (.inr (by(clear ov pl rl sz hnb split ev hna lt eu hl hq hi;omega)))
 ·rw[pl]
  exact rB.append.mpr ⟨u,c1.congr λt _ h=>M.out t (.inl h),rfl,by omega,M.so,by rw[<-Nat.add_assoc];exact c3.congr λt h _=>M.out t (.inr (by omega))⟩
 ·have e1:(pendingOf st').toList.length=(pendingOf st').size:=aaK
  have e2:(pendingOf st).toList.length=(pendingOf st).size:=aaK;rw[pl]at e1;rw[split]at e2;simp only[aaC,aa7]at e1 e2
  (clear ov pl rl sz uK hnb split ev hna lt eu hl hq hi;omega)
theorem Nq(hL:rq prog w A E s κ K D){lo i:Nat}{Q:Bool->SortSt->Prop}(R:RI κ K D a₀ lo st)(hi:i+1<(pendingOf st).size)
  (hq:∀st',RI κ K D a₀ lo st'->(pendingOf st').size+1=(pendingOf st).size->Q true st'):wpS (model prog w) A E s (mergeAt' i) Q st:=wL hL R hi λst' r e _=>hq st' r e
theorem BH{α:Type}(f:α->α)(y:α):∀l:List α,(l++ [y]).modify l.length f=l++ [f y]
 | []=>rfl
 |x::l=>by
  show x::((l++ [y]).modify l.length f)=_;rw[BH f y l]
  rfl
theorem Nr{ar:Array Keyed}{p:Array (Nat×Nat×Nat)}{lo pw:Nat}(C:rB K ar 0 p.toList lo)(h:0<p.size):rB K ar 0 (p.modify (p.size-1) λx=>(x.1,x.2.1,pw)).toList lo:=by
 rw[Array.toList_modify];obtain⟨⟨q1,q2,q3⟩,l',el⟩:∃y l',p.toList=l'++ [y]:=by
  have ne:p.toList≠ []:=λe=>by
   rw[<-aaK,e]at h;cases h
  exact⟨_,_,(List.dropLast_concat_getLast ne).symm⟩
 have sz:p.size-1=l'.length:=by
  rw[<-aaK,el];simp
 rw[el]at C ⊢;rw[sz,BH];exact C.pow
theorem RI.pow{lo:Nat}(R:RI κ K D a₀ lo st)(h:0<(pendingOf st).size)(pw:Nat):RI κ K D a₀ lo (setPending st ((pendingOf st).modify ((pendingOf st).size-1) λx=>(x.1,x.2.1,pw))):=
 ⟨⟨R.sb.kind,R.sb.failed,R.sb.all⟩,R.perm,Nr R.Qq h,R.le⟩
theorem Nt(c:Prop)[Decidable c](k:Nat):(if c then k-1 else k)<=k:=by split<;>omega
theorem Qs(hL:rq prog w A E s κ K D){Q:Unit->SortSt->Prop}(R:RI κ K D a₀ 0 st)(hq:∀st',(arrOf st').Perm a₀->failedOf st'=none->So K (arrOf st') 0 a₀.size->Q () st'):wpS (model prog w) A E s sortRuns' Q st:=by
 rw[Ks];refine wpS_bind (wpS_get ?_);dsimp only;rw[R.size];generalize minRun' a₀.size a₀.size 0=mr;refine wpS_bind (wpS_mono (wpS_forRange (I:=λx c s1=> ∃lo,c=(none,lo)/\x<=lo/\RI κ K D a₀ lo s1) (Q:=λc s1=> ∃lo,c=(none,lo)/\a₀.size<=lo/\RI κ K D a₀ lo s1) ?_ ?_ ⟨0,rfl,aav _,R⟩) ?_)
 ·rintro x c s1 _ hx ⟨lo,rfl,hlo,R1⟩
  dsimp only;refine lK (λc=>wpS_pure ⟨lo,rfl,c,R1⟩) (λc=> ?_);have UE:=R1.size;refine wpS_bind (w_count hL R1.sb (by omega) (by omega) λn s2 S2 n1 n2 OL=> ?_);dsimp only;have R2:=R1.sc S2;have Tn:=R2.size
  by_cases hm:n<mr
  ·rw[if_pos hm]
   refine wpS_bind (wpS_lift (wpAny_rule ⟨rfl,?_⟩));refine wpS_bind (OJ hL R2.sb (by(clear Tn n1 UE c hlo hx hq;omega)) (by omega) OL λs3 S3 IP=> ?_);simp only[ad1,aaz,if_false];have R3:=R2.sc S3;have n1:1<=min (a₀.size-lo) mr:=by(clear Tn UE c hlo hx hq;omega)
   have n2:min (a₀.size-lo) mr<=a₀.size-lo:=by omega
   have note:∀s4:SortSt,RI κ K D a₀ lo s4->So K (arrOf s4) lo (min (a₀.size-lo) mr) -> ∀Q:ForInStep (Option Unit×Nat) ->SortSt->Prop,(∀s5,RI κ K D a₀ (lo+min (a₀.size-lo) mr) s5->Q (.yield (none,lo+min (a₀.size-lo) mr)) s5) ->wpS (model prog w) A E s (do
     modify λy=>setPending y ((pendingOf y).push (lo,min (a₀.size-lo) mr,0))
     pure (ForInStep.yield ((none,lo+min (a₀.size-lo) mr):Option Unit×Nat))) Q s4:=λs4 R4 DH Q hQ=>
    wpS_bind (wpS_modify (wpS_pure (hQ _ ⟨⟨R4.sb.kind,R4.sb.failed,R4.sb.all⟩,R4.perm,by
     show rB K (arrOf s4) 0 ((pendingOf s4).push (lo,min (a₀.size-lo) mr,0)).toList (lo+min (a₀.size-lo) mr);rw[aax];exact R4.Qq.push n1 DH,by omega⟩)))
   refine wpS_bind (wpS_get ?_)
   cases eb:(pendingOf s3).back? with
   |none=>exact note s3 R3 IP _ λs5 R5=>⟨lo+min (a₀.size-lo) mr,rfl,by omega,R5⟩
   |some y=>
    obtain⟨a1,b1,z1⟩:=y;dsimp only;refine wpS_bind (wpS_mono (wpS_forRange (I:=λ_ c s4=>c=(none,())/\RI κ K D a₀ lo s4/\So K (arrOf s4) lo (min (a₀.size-lo) mr)/\0<(pendingOf s4).size) (Q:=λc s4=>c=(none,())/\RI κ K D a₀ lo s4/\So K (arrOf s4) lo (min (a₀.size-lo) mr)/\0<(pendingOf s4).size) ?_ (λ_ _ h=>h) ⟨rfl,R3,IP,?_⟩) ?_)
    ·rintro _ c s4 _ _ ⟨rfl,R4,DH,p4⟩
     refine wpS_bind (wpS_get ?_)
     by_cases c1:(pendingOf s4).size>1
     ·rw[if_pos c1]
      obtain⟨⟨p1,p2,p3⟩,ep⟩:∃y,(pendingOf s4)[(pendingOf s4).size-2]?=some y:=⟨_,ada (by omega)⟩;rw[ep];refine lK (λ_=>wpS_pure ⟨rfl,R4,DH,p4⟩) (λ_=> ?_);exact wpS_bind (wL hL R4 (by omega) λs5 R5 e5 o5=>wpS_pure ⟨rfl,R5,DH.congr λt h _=>o5 t h,by omega⟩)
     ·rw[if_neg c1]
      exact wpS_pure ⟨rfl,R4,DH,p4⟩
    ·cases h:(pendingOf s3).size with
     |zero=>
      have:pendingOf s3= #[]:=acJ h;rw[this]at eb;cases eb
     |succ k=>omega
    ·rintro c s4 ⟨rfl,R4,DH,p4⟩
     dsimp only;refine wpS_bind (wpS_modify ?_);exact note _ (R4.pow p4 _) DH _ λs5 R5=>⟨lo+min (a₀.size-lo) mr,rfl,by omega,R5⟩
  ·rw[if_neg hm]
   have R3:=R2;have IP:=OL
   revert R3 IP
   generalize s2=s3;intro R3 IP;have note:∀s4:SortSt,RI κ K D a₀ lo s4->So K (arrOf s4) lo (n) -> ∀Q:ForInStep (Option Unit×Nat) ->SortSt->Prop,(∀s5,RI κ K D a₀ (lo+n) s5->Q (.yield (none,lo+n)) s5) ->wpS (model prog w) A E s (do
     modify λy=>setPending y ((pendingOf y).push (lo,n,0))
     pure (ForInStep.yield ((none,lo+n):Option Unit×Nat))) Q s4:=λs4 R4 DH Q hQ=>
    wpS_bind (wpS_modify (wpS_pure (hQ _ ⟨⟨R4.sb.kind,R4.sb.failed,R4.sb.all⟩,R4.perm,by
     show rB K (arrOf s4) 0 ((pendingOf s4).push (lo,n,0)).toList (lo+n);rw[aax];exact R4.Qq.push n1 DH,by omega⟩)))
   refine wpS_bind (wpS_get ?_)
   cases eb:(pendingOf s3).back? with
   |none=>exact note s3 R3 IP _ λs5 R5=>⟨lo+n,rfl,by omega,R5⟩
   |some y=>
    obtain⟨a1,b1,z1⟩:=y;dsimp only;refine wpS_bind (wpS_mono (wpS_forRange (I:=λ_ c s4=>c=(none,())/\RI κ K D a₀ lo s4/\So K (arrOf s4) lo (n)/\0<(pendingOf s4).size) (Q:=λc s4=>c=(none,())/\RI κ K D a₀ lo s4/\So K (arrOf s4) lo (n)/\0<(pendingOf s4).size) ?_ (λ_ _ h=>h) ⟨rfl,R3,IP,?_⟩) ?_)
    ·rintro _ c s4 _ _ ⟨rfl,R4,DH,p4⟩
     refine wpS_bind (wpS_get ?_)
     by_cases c1:(pendingOf s4).size>1
     ·rw[if_pos c1]
      obtain⟨⟨p1,p2,p3⟩,ep⟩:∃y,(pendingOf s4)[(pendingOf s4).size-2]?=some y:=⟨_,ada (by(clear p4 eb note hm Tn n2 n1 UE c hlo hx hq;omega))⟩;rw[ep];refine lK (λ_=>wpS_pure ⟨rfl,R4,DH,p4⟩) (λ_=> ?_);exact wpS_bind (wL hL R4 (by(clear ep p4 eb note hm Tn n2 n1 UE c hlo hx hq;omega)) λs5 R5 e5 o5=>wpS_pure ⟨rfl,R5,DH.congr λt h _=>o5 t h,by omega⟩)
     ·rw[if_neg c1]
      exact wpS_pure ⟨rfl,R4,DH,p4⟩
    ·cases h:(pendingOf s3).size with
     |zero=>
      have:pendingOf s3= #[]:=acJ h;rw[this]at eb;cases eb
     |succ k=>omega
    ·rintro c s4 ⟨rfl,R4,DH,p4⟩
     dsimp only;refine wpS_bind (wpS_modify ?_);exact note _ (R4.pow p4 _) DH _ λs5 R5=>⟨lo+n,rfl,by omega,R5⟩
 ·rintro c s1 ⟨lo,rfl,hlo,R1⟩
  exact⟨lo,rfl,by omega,R1⟩
 ·rintro c s1 ⟨lo,rfl,hlo,R1⟩
  have hl:lo=a₀.size:=by have:=R1.le;omega
  subst hl;dsimp only;refine wpS_bind (wpS_mono (wpS_forRange (I:=λx c s2=>c=(none,())/\RI κ K D a₀ a₀.size s2/\((pendingOf s2).size<=1∨(pendingOf s2).size+x<=a₀.size)) (Q:=λc s2=>c=(none,())/\RI κ K D a₀ a₀.size s2/\(pendingOf s2).size<=1) ?_ ?_ ⟨rfl,R1,.inr R1.cnt⟩) ?_)
  ·rintro x c s2 _ hx ⟨rfl,R2,p2⟩
   refine wpS_bind (wpS_get ?_);refine lK (λc=>wpS_pure ⟨rfl,R2,c⟩) (λc=> ?_);have mg:∀i,i+1<(pendingOf s2).size-> ∀Q:ForInStep (Option Unit×Unit) ->SortSt->Prop,(∀s3,RI κ K D a₀ a₀.size s3->(pendingOf s3).size+1=(pendingOf s2).size->Q (.yield (none,())) s3) ->wpS (model prog w) A E s (do
     let b<-mergeAt' i
     if(!b)=true then pure (ForInStep.done ((some (),()):Option Unit×Unit))else pure (ForInStep.yield (none,()))) Q s2:=λi hi Q hQ=>
    wpS_bind (Nq hL R2 hi λs3 R3 e3=>wpS_pure (hQ s3 R3 e3))
   refine mg _ ?_ _ λs3 R3 e3=>⟨rfl,R3,.inr (by omega)⟩;exact aaL (Nat.succ_le_succ (Nt _ _)) (by omega)
  ·rintro c s2 ⟨hc,R2,p2⟩
   exact⟨hc,R2,by omega⟩
  ·rintro c s2 ⟨rfl,R2,p2⟩
   refine wpS_pure (hq s2 R2.perm R2.sb.failed ?_);have C:=R2.Qq;have le:=p2;rw[<-aaK]at le
   cases e:(pendingOf s2).toList with
   |nil=>
    rw[e]at C;have z:0=a₀.size:=C;intro i j h1 h2;omega
   |cons y r=>
    rw[e]at C le;have:r=[]:=by
     cases r with
     |nil=>rfl
     |cons _ _=>simp at le
    subst this;obtain⟨c1,c2,c3,c4⟩:=C;have:0+y.2.1=a₀.size:=c4;rw[<-this,abe];exact c3
end
end zW
namespace L2
open PySem PySem.Spec PyProof.Rows PySem.SeqAt
open AutoSeq1 (wpAny_loadPart')
open MeetsSeq MeetsSeq2 MeetsSeq3 SeqRoads2
mutual
noncomputable def Ku:PyData->PyData->Bool
 | .int a,.int b=>decide (a<b)
 | .list xs,.list ys=>qf xs ys
 | .tuple xs,.tuple ys=>qf xs ys
 |_,_=>false
noncomputable def qf:List PyData->List PyData->Bool
 |x::xs,y::ys=>if PyData.eqv x y then qf xs ys else Ku x y
 |_,_=>false
end
mutual
inductive BI:PyData->PyData->Prop
 |int(a b:Int):BI (.int a) (.int b)
 |lst{xs ys:List PyData}:pU xs ys->BI (.list xs) (.list ys)
inductive pU:List PyData->List PyData->Prop
 |nil:pU [] []
 |cons{x y:PyData}{xs ys:List PyData}:BI x y->pU xs ys->pU (x::xs) (y::ys)
end
noncomputable def ve(A:Around)(s:Shared)(y x:Value)(b:Bool):Prop:=
 ∀(prog:Program)(w:World)(E:Value->Shared->Prop)(Q:Value->Shared->Prop),Q (.bool b) s->wpAny (model prog w) A (richCompare .Lt y x) Q E s
noncomputable def vf(e l:Nat->Bool):Nat->Nat->Bool
 |0,_=>false
 |k+1,i=>if e i then vf e l k (i+1)else l i
theorem Hx(l b:Addr)(its oK:Array Value)(n n2:Nat)(dd dd2:Option Addr)(sl sl2:Array (Option Value))(hsz:its.size=oK.size)(e f:Nat->Bool)(k:Nat):
  ∀i:Nat,its.size-i=k->Meets (Builtin.«list.__eq__.loop» ⟨[.ref l,.ref b,rawInt i,rawInt 0],[]⟩)
   (λA R s=>s.heap.get? l=some {cls:= .type "list",dict:=dd,data:= .seq its n,slots:=sl}/\s.heap.get? b=some {cls:= .type "list",dict:=dd2,data:= .seq oK n2,slots:=sl2}/\
    (∀j (h1:j<its.size) (h2:j<oK.size),EqAt A.in1 s its[j] oK[j] (e j))/\
    (∀j (h1:j<its.size) (h2:j<oK.size),e j=false->ve A.in1 s its[j] oK[j] (f j))/\
    R (.ok (.ret (.bool (vf e f k i)))) s):=by
 induction k with
 |zero=>
  intro i hk prog w A R s h;obtain⟨hp,g,d,tk,os⟩:=s;obtain⟨hl,hb,he,hf,h⟩:=h
  wp_walk using wpAny_loadPart' hl,wpAny_loadPart' hb
  have hi1:its[((i:Nat):Int).toNat]?=none:=by simp;omega
  have hi2:oK[((i:Nat):Int).toNat]?=none:=by simp;omega
  rw[hi1,hi2]
  wp_walk using wpAny_loadPart' hl,wpAny_loadPart' hb
  show R (.ok (.ret (.bool (decide (its.size<oK.size))))) _;rw[hsz,decide_eq_false (aa4 _)];exact h
 |succ k ih=>
  intro i hk prog w A R s h;obtain⟨hp,g,d,tk,os⟩:=s;obtain⟨hl,hb,he,hf,h⟩:=h
  wp_walk using wpAny_loadPart' hl,wpAny_loadPart' hb
  have hlt:i<its.size:=by omega
  have Qt:i<oK.size:=by omega
  have hi1:its[((i:Nat):Int).toNat]?=some its[i]:=by simp[hlt]
  have hi2:oK[((i:Nat):Int).toNat]?=some oK[i]:=by simp[Qt]
  have hc:((i:Int)+1)=((i+1:Nat):Int):=by push_cast;rfl
  rw[hi1,hi2];refine wpAny_bind (he i hlt Qt prog w _ _ ?_);unfold vf at h
  cases hb':e i with
  |true=>
   rw[hb',if_pos rfl]at h
   wp_walk
   rw[hc];exact⟨plainId_quiet plain_eq_loop _,codeAny_builtin entry_eq_loop (by
    rw[Around.under_plainId plain_eq_loop _];exact ih (i+1) (by omega) prog w A R _ ⟨hl,hb,he,hf,h⟩)⟩
  |false=>
   rw[hb',if_neg (by simp)]at h
   wp_walk using wpAny_loadPart' hl,wpAny_loadPart' hb
   rw[hi1,hi2];refine wpAny_bind (hf i hlt Qt hb' prog w _ _ ?_)
   wp_walk
   exact h
theorem yX(l b:Addr)(its oK:Array Value)(n n2:Nat)(dd dd2:Option Addr)(sl sl2:Array (Option Value))(hsz:its.size=oK.size)(e f:Nat->Bool):
  Meets (Builtin.«list.__lt__» ⟨[.ref l,.ref b],[]⟩)
   (λA R s=>s.heap.get? l=some {cls:= .type "list",dict:=dd,data:= .seq its n,slots:=sl}/\s.heap.get? b=some {cls:= .type "list",dict:=dd2,data:= .seq oK n2,slots:=sl2}/\
    (∀j (h1:j<its.size) (h2:j<oK.size),EqAt A.in1 s its[j] oK[j] (e j))/\
    (∀j (h1:j<its.size) (h2:j<oK.size),e j=false->ve A.in1 s its[j] oK[j] (f j))/\
    R (.ok (.ret (.bool (vf e f its.size 0)))) s):=by
 intro prog w A R s h;obtain⟨hp,g,d,tk,os⟩:=s;obtain⟨hl,hb,he,hf,h⟩:=h;have f3:=AutoSeq1.sub_list_list
 wp_walk using wpAny_loadPart' hl,wpAny_loadPart' hb
 exact⟨plainId_quiet plain_eq_loop _,codeAny_builtin entry_eq_loop (by
  rw[Around.under_plainId plain_eq_loop _];exact Hx l b its oK n n2 dd dd2 sl sl2 hsz e f _ 0 rfl prog w A R _ ⟨hl,hb,he,hf,h⟩)⟩
section
variable{A:Around}{s:Shared}
theorem ve.lists{l b:Addr}{its oK:Array Value}{e f:Nat->Bool}(hl:s.heap.IsList l its)(hb:s.heap.IsList b oK)(hsz:its.size=oK.size)(hu:A.units<cLine)
  (he:∀j (h1:j<its.size) (h2:j<oK.size),EqAt A.in1 s its[j] oK[j] (e j))(hf:∀j (h1:j<its.size) (h2:j<oK.size),e j=false->ve A.in1 s its[j] oK[j] (f j)):
  ve A s (.ref l) (.ref b) (vf e f its.size 0):=λprog w E Q h=>by
 obtain⟨⟨cls,dd,data,sl⟩,ho,hc,n,hd⟩:=id hl;obtain⟨⟨Sb,dd2,data2,sl2⟩,ho2,hc2,n2,hd2⟩:=id hb;simp only at hc hd hc2 hd2;subst hc hd hc2 hd2;exact richCompare_meets_room (op:= .Lt) ⟨_,ho,rfl⟩ ⟨_,ho2,rfl⟩ F.slot_list_lt F.entry_list_lt (F.args_list_lt_2 _ _) (yX l b its oK n n2 dd dd2 sl sl2 hsz e f)
  ⟨ho,ho2,he,hf,show Value.bool (vf e f its.size 0)≠Value.notImplemented/\Q (.bool (vf e f its.size 0)) s from⟨(λx=>nomatch x),h⟩⟩ hu
theorem ve.int_int(a:Int)(t:Tok)(b:Int)(u:Tok):ve A s (.int a t) (.int b u) (decide (a<b)):=λprog w E Q h=>
 richCompare_gives (typeIs_int s a t) (typeIs_int s b u) F.slot_int_lt F.entry_int_lt (F.args_int_lt_2 _ _) (AutoIntG1.int___lt___int_int_0 a t b u) (λx=>nomatch x) h
end
noncomputable abbrev Mh(xs ys:List PyData)(j:Nat):Bool:=Ku (xs.getD j .none) (ys.getD j .none)
theorem wM(x y:PyData)(xs ys:List PyData):∀k i,vf (pairEq (x::xs) (y::ys)) (Mh (x::xs) (y::ys)) k (i+1)=vf (pairEq xs ys) (Mh xs ys) k i
 |0,_=>rfl
 |k+1,i=>by
  show(if pairEq (x::xs) (y::ys) (i+1)then _ else Mh (x::xs) (y::ys) (i+1))=if pairEq xs ys i then _ else Mh xs ys i
  rw[wM x y xs ys k (i+1)]
  rfl
theorem sE:∀{xs ys:List PyData},pU xs ys->vf (pairEq xs ys) (Mh xs ys) xs.length 0=qf xs ys
 |_,_,.nil=>rfl
 |_,_,.cons (x:=x) (y:=y) (xs:=xs) (ys:=ys) c cs=>by
  show(if pairEq (x::xs) (y::ys) 0 then vf (pairEq (x::xs) (y::ys)) (Mh (x::xs) (y::ys)) xs.length (0+1)else Mh (x::xs) (y::ys) 0)=if PyData.eqv x y then qf xs ys else Ku x y
  rw[wM,sE cs]
  rfl
theorem pU.length:∀{xs ys:List PyData},pU xs ys->xs.length=ys.length
 |_,_,.nil=>rfl
 |_,_,.cons _ cs=>congrArg (· +1) cs.length
mutual
theorem wN:∀{da db:PyData},BI da db-> ∀{A:Around}{s:Shared}{a b:Value}{as bs:List Addr},Reads s.heap a da as->Reads s.heap b db bs->da.canLay0=true->db.canLay0=true->
  A.units+min da.depth db.depth<cLine->ve A s a b (Ku da db)
 |_,_,.int x y,A,s,_,_,_,_,ra,rb,_,_,_=>by
  cases ra;cases rb;exact ve.int_int x _ y _
 |_,_,.lst (xs:=xs) (ys:=ys) cs,A,s,_,_,_,_,ra,rb,ha,hb,hu=>by
  cases ra with
  | @list l o vs n _ as₁ h1 h2 h3 h4=>
   cases rb with
   | @list l' o' vs' n' _ bs₁ k1 k2 k3 k4=>
    have n1:vs.size=xs.length:=by simpa using ReadsAll.length _ _ _ h4
    have n2:vs'.size=ys.length:=by simpa using ReadsAll.length _ _ _ k4
    have hl:s.heap.IsList l vs:=⟨_,h1,h2,_,h3⟩;have hl':s.heap.IsList l' vs':=⟨_,k1,k2,_,k3⟩;have:=ve.lists (e:=pairEq xs ys) (f:=Mh xs ys) hl hl' (by rw[n1,n2,cs.length]) (room_here hu) (λj j1 j2=>by
     have:=eqAt_readsAll xs ys A.in1 s vs.toList vs'.toList _ _ h4 k4 ha hb (room_in hu) j (by simpa using j1) (by simpa using j2)
     simpa using this) (λj j1 j2 _=>by
     have:=lV (A:=A.in1) cs h4 k4 ha hb (room_in hu) j (by simpa using j1) (by simpa using j2)
     simpa using this)
    rw[n1,sE cs]at this;exact this
theorem lV:∀{xs ys:List PyData},pU xs ys-> ∀{A:Around}{s:Shared}{vs ws:List Value}{as bs:List Addr},ReadsAll s.heap vs xs as->ReadsAll s.heap ws ys bs->PyData.canLayAll0 xs=true->PyData.canLayAll0 ys=true->
  A.units+min (PyData.depthAll xs) (PyData.depthAll ys)<cLine-> ∀j (h1:j<vs.length) (h2:j<ws.length),ve A s vs[j] ws[j] (Mh xs ys j)
 |_,_,.nil,_,_,_,_,_,_,ra,_,_,_,_,j,h1,_=>by cases ra;exact absurd h1 (acS _)
 |_,_,.cons (x:=x) (y:=y) (xs:=xs) (ys:=ys) c cs,A,s,_,_,_,_,ra,rb,ha,hb,hu,j,h1,h2=>by
  have ha':x.canLay0=true/\PyData.canLayAll0 xs=true:=by simpa [PyData.canLayAll0]using ha
  have hb':y.canLay0=true/\PyData.canLayAll0 ys=true:=by simpa [PyData.canLayAll0]using hb
  cases ra with
  |cons r rs=>
   cases rb with
   |cons r' rs'=>
    cases j with
    |zero=>exact wN c r r' ha'.1 hb'.1 (room_head hu)
    |succ j=>exact lV cs rs rs' ha'.2 hb'.2 (room_tail hu) j (adv h1) (adv h2)
end
section
variable{prog:Program}{w:World}{A:Around}{E:Value->Shared->Prop}{s:Shared}
theorem zY{l b:Addr}{its oK:Array Value}{e f:Nat->Bool}{Q:Value->Shared->Prop}(hl:s.heap.IsList l its)(hb:s.heap.IsList b oK)(hsz:its.size=oK.size)
  (he:∀j (h1:j<its.size) (h2:j<oK.size),EqAt A.in1 s its[j] oK[j] (e j))(hf:∀j (h1:j<its.size) (h2:j<oK.size),e j=false->ve A.in1 s its[j] oK[j] (f j))
  (h:Q (.bool (vf e f its.size 0)) s):wpAny (model prog w) A (call (.builtin "list.__lt__") [.ref l,.ref b]) Q E s:=by
 obtain⟨⟨cls,dd,data,sl⟩,ho,hc,n,hd⟩:=id hl;obtain⟨⟨Sb,dd2,data2,sl2⟩,ho2,hc2,n2,hd2⟩:=id hb;simp only at hc hd hc2 hd2;subst hc hd hc2 hd2;exact call_meets F.slot_list_lt ⟨_,ho,rfl⟩ F.entry_list_lt (F.args_list_lt_2 _ _) (yX l b its oK n n2 dd dd2 sl sl2 hsz e f) ⟨ho,ho2,he,hf,h⟩
theorem uM{da db:PyData}(c:BI da db){a b:Value}{as bs:List Addr}(ra:Reads s.heap a da as)(rb:Reads s.heap b db bs)(ha:da.canLay0=true)(hb:db.canLay0=true)
  (hu:A.units+min da.depth db.depth<cLine){Q:Bool->Shared->Prop}(h:Q (Ku da db) s):wpAny (model prog w) A (oneLt' true a b) Q E s:=by
 cases c with
 |int x y=>
  cases ra;cases rb;exact oneLt_int h
 | @lst xs ys cs=>
  cases ra with
  | @list l o vs n _ as₁ h1 h2 h3 h4=>
   cases rb with
   | @list l' o' vs' n' _ bs₁ k1 k2 k3 k4=>
    have n1:vs.size=xs.length:=by simpa using ReadsAll.length _ _ _ h4
    have n2:vs'.size=ys.length:=by simpa using ReadsAll.length _ _ _ k4
    have hl:s.heap.IsList l vs:=⟨_,h1,h2,_,h3⟩;have hl':s.heap.IsList l' vs':=⟨_,k1,k2,_,k3⟩;rw[oneLt'_eq];simp only[if_true];refine wpAny_bind (wpAny_cRoomFor_or (.inr (room_here hu)) ?_);refine wpAny_bind (wpAny_callSpecialIfBound?_slot (T:= "list") (id:= "list.__lt__") ⟨o,h1,h2⟩ F.slot_list_lt (zY (e:=pairEq xs ys) (f:=Mh xs ys) hl hl' (by rw[n1,n2,cs.length]) (λj j1 j2=>by
     have:=eqAt_readsAll xs ys A.in1 s vs.toList vs'.toList _ _ h4 k4 ha hb (room_in hu) j (by simpa using j1) (by simpa using j2)
     simpa using this) (λj j1 j2 _=>by
     have:=lV (A:=A.in1) cs h4 k4 ha hb (room_in hu) j (by simpa using j1) (by simpa using j2)
     simpa using this) ?_))
    rw[n1,sE cs];exact wpAny_truthy_bool h
theorem DI{da db:PyData}(c:BI da db){a b:Value}{as bs:List Addr}(ra:Reads s.heap a da as)(rb:Reads s.heap b db bs)(ha:da.canLay0=true)(hb:db.canLay0=true)
  (hu:A.units+min da.depth db.depth<cLine)(k:Bool){Q:Bool->Shared->Prop}(h:Q (Ku da db) s):wpAny (model prog w) A (oneLt' k a b) Q E s:=by
 cases k with
 |true=>exact uM c ra rb ha hb hu h
 |false=>
  refine PySem.W.kat_one a b (wN c ra rb ha hb hu prog w E _ ?_);exact h
theorem yY{b:Bool}{Q:Bool->Shared->Prop}:∀{xs ys:List PyData},pU xs ys-> ∀{vs ws:List Value}{as bs:List Addr},ReadsAll s.heap vs xs as->ReadsAll s.heap ws ys bs->PyData.canLayAll0 xs=true->PyData.canLayAll0 ys=true->
  A.units+min (PyData.depthAll xs) (PyData.depthAll ys)<cLine-> ∀i,Q (qf xs ys) s->PySem.W.KatLex prog w A b false Q (vs.zip ws) i s
 |_,_,.nil,_,_,_,_,ra,rb,_,_,_,i,h=>by
  cases ra;cases rb;exact PySem.W.kat_nil h
 |_,_,.cons (x:=x) (y:=y) (xs:=xs) (ys:=ys) c cs,_,_,_,_,ra,rb,ha,hb,hu,i,h=>by
  have ha':x.canLay0=true/\PyData.canLayAll0 xs=true:=by simpa [PyData.canLayAll0]using ha
  have hb':y.canLay0=true/\PyData.canLayAll0 ys=true:=by simpa [PyData.canLayAll0]using hb
  cases ra with
  |cons r rs=>
   cases rb with
   |cons r' rs'=>
    refine PySem.W.kat_cons (eqAt_reads x y A s _ _ _ _ r r' ha'.1 hb'.1 (room_head hu) prog w _ _ ?_);have h':Q (if PyData.eqv x y then qf xs ys else Ku x y) s:=h
    cases e:PyData.eqv x y with
    |true=>
     rw[e,if_pos rfl]at h';exact PySem.W.kat_yes (yY cs rs rs' ha'.2 hb'.2 (room_tail hu) (i+1) h')
    |false=>
     rw[e,if_neg (by simp)]at h';exact PySem.W.kat_no (DI c r r' ha'.1 hb'.1 (room_head hu) _ h')
end
end L2
namespace L2
open PySem PySem.Spec PyProof.Rows PySem.SeqAt zW
section
variable{prog:Program}{w:World}{A:Around}{E:Value->Shared->Prop}{s:Shared}
structure zZ(prog:Program)(w:World)(A:Around)(E:Value->Shared->Prop)(a:Addr)(vs:List Value)(κ:SortKind)(K:Keyed->Int)(s:Shared):Prop where
 kind:2<=vs.length-> ∀s':Shared,(∀b o,b≠a->s.heap.get? b=some o->s'.heap.get? b=some o) -> ∀Q:SortKind->Shared->Prop,Q κ s'->wpAny (model prog w) A (keyKind' vs.toArray) Q E s'
 lt:∀s':Shared,(∀b o,b≠a->s.heap.get? b=some o->s'.heap.get? b=some o) ->rq prog w A E s' κ K (λp=>p.1=p.2/\p.1∈vs)
theorem BJ{vs:List Value}{K:Keyed->Int}{xs:Array Keyed}(hp:xs.Perm (pairsOf vs))(hs:So K xs 0 vs.length):
  ((xs.map (·.2)).toList).Perm vs/\((xs.map (·.2)).toList).Pairwise λx y=>K (x,x)<=K (y,y):=by
 have hl:xs.toList.Perm (vs.zip vs):=by rw[<-pairsOf_toList];exact abu.mp hp
 have hm:∀p,p∈xs.toList->p.1=p.2/\p.1∈vs:=λp q=>mem_zip_self (hl.mem_iff.mp q);have len:xs.toList.length=vs.length:=by rw[hl.length_eq];simp
 constructor
 ·have:=hl.map Prod.snd
  rw[List.map_snd_zip (aav _)]at this
  simpa using this
 ·have h2:=(sy (K:=K) (a:=xs) (lo:=0) (n:=vs.length) (by rw[abe,<-len];exact abZ (aaK ..))).mp hs
  have e:sl xs 0 vs.length=xs.toList:=by
   show(xs.toList.drop 0).take vs.length=_;rw[ac8,aaP (by omega)]
  rw[e]at h2;rw[Array.toList_map,abK];refine h2.imp_of_mem λ {p q} p1 q1 h=> ?_;have ep:(p.2,p.2)=p:=Prod.ext (hm p p1).1.symm rfl;have eq:(q.2,q.2)=q:=Prod.ext (hm q q1).1.symm rfl;rw[ep,eq];exact h
theorem Nu{a:Addr}{vs:List Value}{n:Nat}{P:PySem.Fin->Shared->Prop}{κ:SortKind}{K:Keyed->Int}(ho:s.heap.get? a=some (seqObj "list" vs.toArray n))(hz:vs.length<=sizeLine)
  (ask:zZ prog w A E a vs κ K s)(h:∀out:List Value,out.Perm vs->out.Pairwise (λx y=>K (x,x)<=K (y,y)) ->P (.done (.ret .none)) {s with heap:=sortedHeap s.heap a vs out.toArray}):
  wpAny (model prog w) A (Builtin.«list.sort» ⟨[.ref a],[]⟩) P E s:=by
 rw[list_sort_plain];have la:a<s.heap.objs.size:=Heap.lt_size ho;have fin:∀st':SortSt,(arrOf st').Perm (pairsOf vs) ->So K (arrOf st') 0 vs.length->P (.done (.ret .none)) {s with heap:=sortedHeap s.heap a vs ((arrOf st').map (·.2))}:=λst' hp hs=>by
  obtain⟨q1,q2⟩:=BJ hp hs;have:=h _ q1 q2
  rwa [adJ]at this
 refine wpAny_bind (listItems_at ho rfl ?_);refine wpAny_bind (listUpdate_at ho rfl ?_ (by simpa using hz) (aa3 _));obtain⟨e1,XC⟩:∃e1,(s.heap.update a (Obj.mapSeq λ_=> #[])).get? a=some (seqObj "list" #[] e1):=⟨_,get?_update_seq ho (λ_=> #[])⟩;refine wpAny_bind (seqEpoch_at XC rfl ?_);refine wpAny_bind (wpAny_newTuple ?_ (by simpa using hz));refine wpAny_bind (wpAny_newList ?_ (aa3 _));refine wpAny_holding ?_;generalize hg:(((s.heap.update a (Obj.mapSeq λ_=> #[])).push (seqObj "tuple" vs.toArray 0)).push (seqObj "list" #[] 0))=lD;have keep:∀b o,b≠a->s.heap.get? b=some o->lD.get? b=some o:=λb o hb e=>by
  rw[<-hg];refine Heap.get?_push_of_some _ (Heap.get?_push_of_some _ ?_);rw[Heap.get?_update_ne _ _ _ _ hb];exact e
 have ho6:lD.get? a=some (seqObj "list" #[] e1):=by
  rw[<-hg];exact Heap.get?_push_of_some _ (Heap.get?_push_of_some _ XC)
 have sh:∀out,sortedHeap s.heap a vs out=lD.update a (Obj.mapSeq λ_=>out):=λout=>by rw[<-hg];rfl
 have szs:vs.toArray.size=vs.length:=by simp
 have bound:∀st':SortSt,(arrOf st').Perm (pairsOf vs) ->((arrOf st').map (·.2)).size<=sizeLine+1:=λst' hp=>by
  rw[Array.size_map,hp.size_eq,pairsOf_size];omega
 show wpAny (model prog w) A _ P E {s with heap:=lD};dsimp only
 by_cases h2:vs.toArray.size<2
 ·rw[if_pos h2,if_pos h2]
  refine wpAny_bind (wpAny_pure ?_);rw[StateT.run_pure];refine wpAny_bind (wpAny_pure ?_);dsimp only;refine wpAny_bind (seqEpoch_at ho6 rfl ?_);refine wpAny_bind (listUpdate_at ho6 rfl ?_ (aa3 _) (bound (SortSt.mk' general' (pairsOf vs) #[] 7 none) (Array.Perm.refl _)));simp only[bne_self_eq_false,aaz,if_false];have:=fin (SortSt.mk' general' (pairsOf vs) #[] 7 none) (Array.Perm.refl _) (λi j hij hj=>by
   have:i=j:=by omega
   subst this;exact aaZ _)
  rw[sh]at this;exact wpAny_pure this
 ·rw[if_neg h2,if_neg h2]
  refine wpAny_bind (ask.kind (by omega) {s with heap:=lD} keep _ ?_);have R:RI κ K (λp=>p.1=p.2/\p.1∈vs) (pairsOf vs) 0 (SortSt.mk' κ (pairsOf vs) #[] 7 none):=by
   refine⟨⟨rfl,rfl,λp hp=> ?_⟩,Array.Perm.refl _,rfl,aa3 _⟩;have lD:p∈(pairsOf vs).toList:=hp;rw[pairsOf_toList]at lD;exact mem_zip_self lD
  refine wpAny_bind (wpAny_mono (Qs (ask.lt {s with heap:=lD} keep) (Q:=λ_ st'=>(arrOf st').Perm (pairsOf vs)/\failedOf st'=none/\So K (arrOf st') 0 (pairsOf vs).size) R λst' a1 a2 a3=>⟨a1,a2,a3⟩) ?_ λ_ _ e=>e);rintro⟨⟨⟩,st'⟩ s' ⟨rfl,hp,hf,hs⟩;dsimp only;rw[pairsOf_size]at hs;refine wpAny_bind (seqEpoch_at ho6 rfl ?_);refine wpAny_bind (listUpdate_at ho6 rfl ?_ (aa3 _) (bound st' hp));rw[hf];simp only[bne_self_eq_false,aaz,if_false];have:=fin st' hp hs;rw[sh]at this;exact wpAny_pure this
theorem Kv{l:Addr}{vs:List Value}{Q:Value->Shared->Prop}{κ:SortKind}{K:Keyed->Int}(hl:s.heap.IsList l vs.toArray)(hz:vs.length<=sizeLine)
  (ask:∀(a:Addr)(s':Shared),s.heap.objs.size<=a->(∀b o,s.heap.get? b=some o->s'.heap.get? b=some o) ->zZ prog w A.in1.in1 E a vs κ K s')
  (h:∀out:List Value,out.Perm vs->out.Pairwise (λx y=>K (x,x)<=K (y,y)) ->Q (.ref (s.heap.objs.size+1)) {s with heap:=sortedAll s.heap vs out.toArray}):
  wpAny (model prog w) A (call (.builtin "sorted") [.ref l]) Q E s:=by
 refine Calls.call_function_entry kind_sorted plain_sorted entry_sorted (args_sorted1 _) ?_;unfold Builtin.«sorted»;refine wpAny_bind (m:=checkCount "sorted" 1 1 _) (wpAny_pure ?_);refine wpAny_bind (collect_list hl ?_ hz);refine wpAny_bind (wpAny_newList ?_ (by simpa using hz));have z1:((s.heap.push (seqObj "list" #[] 0)).update s.heap.objs.size (Obj.mapSeq (· ++vs.toArray))).objs.size=s.heap.objs.size+1:=by
  rw[Heap.size_update,size_push']
 generalize hg:((s.heap.push (seqObj "list" #[] 0)).update s.heap.objs.size (Obj.mapSeq (· ++vs.toArray)))=h1 at z1;have keep:∀b o,s.heap.get? b=some o->(h1.push (seqObj "list" vs.toArray 0)).get? b=some o:=λb o e=>by
  have lb:=Heap.lt_size e;refine Heap.get?_push_of_some _ ?_;rw[<-hg,Heap.get?_update_ne _ _ _ _ (aaI lb)];exact Heap.get?_push_of_some _ e
 have Pb:(h1.push (seqObj "list" vs.toArray 0)).get? (s.heap.objs.size+1)=some (seqObj "list" vs.toArray 0):=by
  rw[<-z1];exact Heap.get?_push_size _ rfl
 show wpAny _ _ _ _ _ {s with heap:=h1.push (seqObj "list" vs.toArray 0)};rw[z1];refine wpAny_bind (wpAny_holding (wpAny_call_entry slot_list_sort ⟨_,Pb,rfl⟩ entry_list_sort (Nu Pb hz (ask _ _ (ab8 _) keep) λout a1 a2=>⟨_,rfl,?_⟩) (args_list_sort _)));refine wpAny_pure ⟨_,rfl,?_⟩;have:=h out a1 a2;unfold sortedAll at this;rw[hg]at this;exact this
end
noncomputable def XD(rk:Addr->Int):Value->Int
 | .ref a=>rk a
 |_=>0
noncomputable def z5(K:PySem.W.Frag):List V->Hp->VK->Prop:=λxs H Q=> ∃(p:Addr)(as:List Addr)(rk:Addr->Int)(dt:Addr->PyData),xs=[.ref p]/\aZ K H p (as.map V.ref)/\
 (∀a∈as,yK K H (.ref a) (dt a)/\shaped (dt a)=true)/\
 ((∀a∈as,∀b∈as,BI (dt a) (dt b)/\Ku (dt a) (dt b)=decide (rk a<rk b))∨
  (∀a∈as,∀b∈as,∃i ds j es,dt a= .tuple (.int i::ds)/\dt b= .tuple (.int j::es)/\pU (.int i::ds) (.int j::es)/\qf (.int i::ds) (.int j::es)=decide (rk a<rk b)))/\
 ∀bs:List Addr,bs.Perm as->bs.Pairwise (λa b=>rk a<=rk b) -> ∀l,H l=none->Q (.ref l) (upd H l (.lst (bs.map V.ref)))
section
variable{prog:Program}{w:World}{A:Around}{E:Value->Shared->Prop}{s:Shared}
theorem z6{κ:SortKind}{K:Keyed->Int}{D:Keyed->Prop}(h:∀x y:Keyed,D x->D y-> ∀(E:Value->Shared->Prop) (Q:Bool->Shared->Prop),Q (decide (K x<K y)) s->wpAny (model prog w) A (keyLt' κ x.1 y.1) Q E s):rq prog w A E s κ K D:=by
 intro st x y Q hk hx hy hq;rw[lt'_eq];refine wpS_bind (wpS_get ?_);rw[hk];refine wpS_bind (wpS_lift (wpAny_attempt (h x y hx hy _ _ ⟨rfl,?_⟩)));exact wpS_pure hq
theorem FT:∀{as:List Addr}{us:List Value},Vals (as.map V.ref) us->us=as.map Value.ref
 | [],_,h=>by cases h;rfl
 |a::as,_,h=>by
  cases h with
  |cons r rs=>
   cases r;rw[FT rs]
   rfl
theorem FU:∀as:List Addr,Vals (as.map V.ref) (as.map Value.ref)
 | []=> .nil
 |a::as=> .cons rfl (FU as)
end
theorem ReadsAll.keeps'{h h':Heap}(hk:∀b o,h.get? b=some o->h'.get? b=some o){vs:List Value}{ds:List PyData}{as:List Addr}(r:ReadsAll h vs ds as):ReadsAll h' vs ds as:=by
 induction vs generalizing ds as with
 |nil=>cases r;exact .nil
 |cons v vs ih=>
  cases r with
  |cons r1 r2=>exact .cons (Reads.keeps hk r1) (ih r2)
section
variable{X:Cx}
theorem uN(hu:X.A.units+70<cLine):pQ X (.builtin "sorted") (z5 X.K):=by
 intro pins s σ H xs us Q I r h;obtain⟨p,as,rk,dt,rfl,hq,hd,hc,q⟩:=h;obtain⟨u,rfl,rx⟩:=vals1 r;cases rx;obtain⟨its,rv,pl,hz⟩:=I.list hq;obtain rfl:=FT rv;have len:(as.map Value.ref).length=as.length:=aau _;rw[aau]at hz;have rd:∀a∈as,∃xs,Reads s.heap (.ref a) (dt a) xs:=λa ha=>mH I (hd a ha).1 rfl;have old:∀{a:Addr}{s1 s2:Shared},s.heap.objs.size<=a->(∀b o,s.heap.get? b=some o->s1.heap.get? b=some o) ->(∀b o,b≠a->s1.heap.get? b=some o->s2.heap.get? b=some o) -> ∀b o,s.heap.get? b=some o->s2.heap.get? b=some o:=λh1 h2 h3 b o e=>
  h3 b o (aaI (aao (Heap.lt_size e) h1)) (h2 b o e)
 have mem:∀{v:Value},v∈as.map Value.ref-> ∃a,a∈as/\v= .ref a:=λhv=>by
  obtain⟨a,ha,rfl⟩:=aaU.mp hv;exact⟨a,ha,rfl⟩
 have fin:∀κ:SortKind,(∀(a:Addr)(s':Shared),s.heap.objs.size<=a->(∀b o,s.heap.get? b=some o->s'.heap.get? b=some o) ->zZ X.prog X.w X.A.in1.in1 X.xe a (as.map Value.ref) κ (λp=>XD rk p.1) s') ->
   wpAny (model X.prog X.w) X.A (call (.builtin "sorted") [.ref p]) (EP X pins σ Q) X.xe s:=by
  intro κ ask;refine Kv (κ:=κ) (K:=λp=>XD rk p.1) pl.isList (by rw[len];exact hz) ask λout hp hs=> ?_;obtain⟨bs,rfl,pb⟩:∃bs:List Addr,out=bs.map Value.ref/\bs.Perm as:=by
   have g:∀v∈out,∃a,v=Value.ref a:=λv hv=>by
    obtain⟨a,_,e⟩:=mem (hp.mem_iff.mp hv);exact⟨a,e⟩
   have e:∀l:List Value,(∀v∈l,∃a,v=Value.ref a) ->l=(l.map λv=>match v with| .ref a=>a|_=>0).map Value.ref:=λl=>by
    induction l with
    |nil=>intro _;rfl
    |cons v l ih=>
     intro hl;obtain⟨a,rfl⟩:=hl v aaD;rw[abp,abp,<-ih λv hv=>hl v (aay _ hv)]
   refine⟨_,e out g,?_⟩;have:=hp.map λv:Value=>match v with| .ref a=>a|_=>0
   rw[List.map_map]at this;have e2:(as.map ((λv:Value=>match v with| .ref a=>a|_=>0) ∘ Value.ref))=as:=by
    conv=>rhs;rw[<-adT as]
    rfl
   rwa [e2]at this
  have so:bs.Pairwise λa b=>rk a<=rk b:=by
   rw[abK]at hs;exact hs
  have zb:bs.length<=sizeLine:=by rw[pb.length_eq];exact hz
  obtain⟨c,hc⟩:=sortedAll_at s.heap (as.map Value.ref) (bs.map Value.ref).toArray;exact⟨.ref (s.heap.objs.size+1),_,I.laid (t':=s.toks) (λb o e=>sortedAll_old e) (ab8 _) (show f6 X.prog X.w _ _ _ (.lst (bs.map V.ref))from⟨by rw[aau];exact zb,_,c,FU bs,hc⟩),rfl,q bs pb so _ (I.hok.fresh (ab8 _))⟩
 rcases hc with hc|hc
 ·--lists
  refine fin oneType' λa s1 h1 h2=>⟨λ_ s2 h3 Q' hQ=> ?_,λs2 h3=>z6 λx y hx hy E' Q' hQ=> ?_⟩
  ·refine PySem.W.kas_kind (T:= .type "list") (by rw[len]at *;omega) (λv hv=> ?_) (by decide+kernel) (by decide+kernel) hQ
   obtain⟨b,hb,rfl⟩:=mem hv;obtain⟨cs,rb⟩:=rd b hb;have cm:=(hc b hb b hb).1
   cases e:dt b with
   |list ds=>
    rw[e]at rb
    cases rb with
    | @list l o vs n _ as₁ k1 k2 k3 k4=>
     have:PySem.W.Looks (model X.prog X.w) s2.heap (typeOf (.ref b)) o.cls:=(PySem.W.Looks.ld (old h1 h2 h3 _ _ k1)).andThen PySem.W.Looks.now;rw[k2]at this;exact this
   |_=>rw[e]at cm;cases cm<;>(rw[e]at rb;cases rb)
  ·obtain⟨e1,m1⟩:=hx
   obtain⟨e2,m2⟩:=hy;obtain⟨b,hb,eb⟩:=mem m1;obtain⟨c,hc',ec⟩:=mem m2;obtain⟨cs,rb⟩:=rd b hb;obtain⟨ds,rc⟩:=rd c hc';rw[eb,ec,keyLt'_oneType];obtain⟨cm,lt⟩:=hc b hb c hc';refine uM cm (Reads.keeps (old h1 h2 h3) rb) (Reads.keeps (old h1 h2 h3) rc) (canLay_of_shaped (hd b hb).2) (canLay_of_shaped (hd c hc').2) (room_of_shaped (hd b hb).2 (show X.A.units+1+1+64<cLine by omega)) ?_;rw[lt];rw[eb,ec]at hQ;exact hQ
 ·--tuples
  refine fin (PyProof.Rows.tuples' true) λa s1 h1 h2=>⟨λl2 s2 h3 Q' hQ=> ?_,λs2 h3=>z6 λx y hx hy E' Q' hQ=> ?_⟩
  ·have tp:∀v∈as.map Value.ref,∃b∈as,v= .ref b:=λv hv=>mem hv
   obtain⟨f,hf⟩:∃f:Addr->Value,∀b∈as,∃o ys n i t,s2.heap.get? b=some o/\o.cls= .type "tuple"/\o.data= .seq ys n/\ys[0]?=some (f b)/\f b= .int i t:=by
    refine⟨λb=>match s2.heap.get? b with|some ⟨_,_,.seq ys _,_⟩=>(ys[0]?).getD .none|_=> .none,λb hb=> ?_⟩;obtain⟨i,ds,_,_,e,_⟩:=hc b hb b hb;obtain⟨cs,rb⟩:=rd b hb;rw[e]at rb
    cases rb with
    | @tuple l o vs n _ as₁ k1 k2 k3 k4=>
     have g:=old h1 h2 h3 _ _ k1;obtain⟨cls,dd,data,sl⟩:=o;simp only at k2 k3;subst k2 k3;obtain⟨vl⟩:=vs
     cases k4 with
     |cons r1 r2=>
      cases r1 with
      |int i t=>
       refine⟨_,_,n,i,t,g,rfl,rfl,?_,?_⟩
       ·dsimp only
        rw[g];rfl
       ·dsimp only
        rw[g];rfl
   refine PySem.W.kat_kind (fs:=as.map f) (T:= .type "int") (?_:PySem.W.KatTups s2.heap (as.map Value.ref) (as.map f)) (by rw[aau];rw[len]at l2;omega) (λv hv=> ?_) (by decide+kernel) hQ
   ·clear hQ l2 mem tp fin rd hd hc rv pl hz len hq q
    induction as with
    |nil=>exact PySem.W.KatTups.nil
    |cons b as ih=>
     obtain⟨o,ys,n,i,t,k1,k2,k3,k4,k5⟩:=hf b aaD;exact PySem.W.KatTups.cons k1 k2 k3 k4 (ih λc hc=>hf c (aay _ hc))
   ·obtain⟨b,hb,rfl⟩:=aaU.mp hv
    obtain⟨o,ys,n,i,t,k1,k2,k3,k4,k5⟩:=hf b hb;rw[k5];exact PySem.W.Looks.now
  ·obtain⟨e1,m1⟩:=hx
   obtain⟨e2,m2⟩:=hy;obtain⟨b,hb,eb⟩:=mem m1;obtain⟨c,hc',ec⟩:=mem m2;obtain⟨cs,rb⟩:=rd b hb;obtain⟨ds,rc⟩:=rd c hc';obtain⟨i,di,j,dj,t1,t2,cm,lt⟩:=hc b hb c hc';have sb:=hd b hb;have sc:=hd c hc';rw[eb,ec];rw[eb,ec]at hQ;rw[t1]at rb sb;rw[t2]at rc sc
   cases rb with
   | @tuple l o vs n _ as₁ k1 k2 k3 k4=>
    cases rc with
    | @tuple l' o' vs' n' _ bs₁ g1 g2 g3 g4=>
     have n1:vs.size=(PyData.int i::di).length:=by simpa using ReadsAll.length _ _ _ k4
     have n2:vs'.size=(PyData.int j::dj).length:=by simpa using ReadsAll.length _ _ _ g4
     have ee:decide (vs.size<vs'.size)=false:=by
      rw[n1,n2,cm.length];exact decide_eq_false (aa4 _)
     refine PySem.W.kat_lt (old h1 h2 h3 _ _ k1) k3 (old h1 h2 h3 _ _ g1) g3 ?_;rw[ee];have ca:=canLay_of_shaped sb.2;have cb:=canLay_of_shaped sc.2;refine yY cm (ReadsAll.keeps' (old h1 h2 h3) k4) (ReadsAll.keeps' (old h1 h2 h3) g4) ca cb (room_in (room_of_shaped (A:=X.A.in1) (db:= .tuple (.int j::dj)) sb.2 (show X.A.units+1+64<cLine by omega))) 0 ?_;rw[lt];exact hQ
end
end L2
namespace L2
open PySem PySem.Spec PyProof.Rows PySem.W PySem.Calls
noncomputable abbrev kn(o:Obj):HO:= .zA o (.ext λ_=>True)
theorem Kw{P:Program}{w:World}{H:Hp}{h:Heap}{a:Addr}{o:Obj}(e:h.get? a=some o):f6 P w H h a (kn o):=⟨e,trivial,⟨o,e⟩,λ_ _ _ _=>trivial⟩
theorem wO{pos pos2:Pos}{c:Value}:∀{l:List Value},TriplesOk l-> ∀{cv:Value},codeAmong pos (l++ [rawInt pos2.line,rawInt pos2.col,c])=some cv->codeAmong pos l=some cv∨cv=c
 | [],_,cv,h=>by
  simp only[acU,rawInt,codeAmong]at h
  split at h
  ·exact .inr (Option.some.inj h).symm
  ·cases h
 | .int x t:: .int y u::d::r,ht,cv,h=>by
  simp only[List.cons_append,codeAmong]at h ⊢
  split at h
  ·rename_i q
   rw[if_pos q];exact .inl h
  ·rename_i q
   rw[if_neg q];exact wO (l:=r) ht h
theorem rC{pos:Pos}{c:Value}:∀{l:List Value},TriplesOk l->TriplesOk (l++ [rawInt pos.line,rawInt pos.col,c])
 | [],_=>trivial
 | .int _ _:: .int _ _::_::r,h=>rC (l:=r) h
structure BK(X:Cx)(args:Arguments)(body:Expr)(sc:Scope)(H:Hp)(f:Addr):Prop where
 ex:∃(qual:Str)(pm ctv:Value)(c:Addr)(oc:Obj)(vs:Array Value)(q:Str)(t:Tok),
  H f=some (kn {cls:= .type "function",data:= .func (kla_fn "<lambda>" qual args body sc (cK X.env sc.names []) pm (.ref c) ctv)})/\H c=some (kn oc)/\oc.data= .fields vs/\vs[1]?=some (.str q t)
theorem BK.same{X:Cx}{args:Arguments}{body:Expr}{sc:Scope}{H H':Hp}{f:Addr}(L:BK X args body sc H f)(s:ay H H'):BK X args body sc H' f:=by
 obtain⟨qual,pm,ctv,c,oc,vs,q,t,e1,e2,e3,e4⟩:=L.ex;exact⟨qual,pm,ctv,c,oc,vs,q,t,s _ _ e1,s _ _ e2,e3,e4⟩
section
variable{X:Cx}{pins:List (Addr×Obj)}{σ:St}{H:Hp}{s:Shared}{P:Addr}{args:Arguments}{body:Expr}{sc:Scope}{pos:Pos}{own N2:List Str}
theorem Hy(I:Inv X pins σ H s)(hcd:gZ X.K X.env.code P)(hP:(H P).isSome=true):∃c,X.env.code= .ref c/\CodeHd s.heap c P:=by
 obtain⟨c,o,vs,file,tf,flags,tg,PJ,text,tt,ec,hc,hcl,hd,h11,Sl,h7,h9,Sm⟩:=hcd.ex;have hcs:s.heap.get? c=some o:=I.zB c o hc;have hcn:H c=none:=(I.bs c o (I.ok.mod.GG c o hc)).2;have ne:c≠P:=λe=>by rw[<-e,hcn]at hP;cases hP
 have PK:vs.getD 11 .none= .ref P:=by
  have:vs.getD 11 .none=(vs[11]?).getD .none:=by simp
  rw[this,h11];rfl
 exact⟨c,ec,o,vs,file,tf,flags,tg,PJ,text,tt,hcs,hcl,hd,h11,PK,Sl,h7,h9,Sm,ne⟩
theorem Hz{Q:Value->Shared->Prop}{E:Value->Shared->Prop}{M:Model}{A:Around}(I:Inv X pins σ H s)(hcd:gZ X.K X.env.code P)(hP:H P=some .AM)(bm:BM X.mg X.base)
  (Bk:qR sc.names X.env.scope.names own N2 X.N)(hdef:defaultsOf args X.env=([],[]))
  (h:∀f H' s',Inv X pins σ H' s'->ay H H'->H f=none->BK X args body sc H' f->Q (.ref f) s'):wpAny M A (eval (.Lambda args body sc pos) X.env) Q E s:=by
 obtain⟨c,ec,C⟩:=Hy I hcd (by rw[hP];rfl);obtain⟨ps,eP,tr,cs⟩:=I.hok P _ hP;obtain⟨Ux,ob,b1,b2,b3,b4,b5,b6⟩:=bm;have hg:s.heap.Ns mainGlobals X.mg:=by have:=I.mod.glob.keeps I.bk;exact this
 have hgP:mainGlobals≠P:=λq=>by
  obtain⟨o,es,ep,e,hd,_⟩:=hg;rw[q,eP]at e;cases e;cases hd
 have Zs:Ux≠mainGlobals:=λq=>by
  obtain⟨o,es,ep,e,hd,_⟩:=I.mod.glob;rw[q,e]at b3;cases b3;rw[hd]at b6;cases b6
 have Zt:Ux≠P:=λq=>by
  have:=(I.bs _ _ b3).2;rw[q,hP]at this;cases this
 have ba:s.heap.BuiltinsAt X.mg P:=⟨Ux,ob,b1,b2,Zs,Zt,I.bk _ _ b3,b4,b5,b6⟩;refine kla_eval hdef ?_
 cases q:codeAmong pos ps.toList with
 |some cv=>
  obtain⟨c',oc,vs,q',t',rfl,e2,e3,e4⟩:=cs pos cv q;refine kla_makeFunctionHit (mg:=X.mg) (pq I Bk) I.ok.glob hg ec C eP tr q ba λctv h' tk hk hsz=> ?_;have I1:Inv X pins σ H {s with heap:=h',toks:=tk}:=I.kept hk;have I2:=I1.laid (a:=h'.objs.size) (o:=kn {cls:= .type "function",data:= .func (kla_fn "<lambda>" (X.env.qual++ "<lambda>") args body sc (cK X.env sc.names []) ((X.mg "__name__").getD .none) (.ref c') ctv)}) (h':=h'.push _) (t':=tk) (λb o e=>Heap.get?_push_of_some _ e) (aav _) (Kw (Heap.get?_push_size _ rfl));have fr:H h'.objs.size=none:=I1.hok.fresh (aav _);exact h _ _ _ I2 (ay.up fr) fr ⟨_,_,_,c',oc,vs,q',t',ao,(ay.up fr) _ _ e2,e3,e4⟩
 |none=>
  refine kla_makeFunction (mg:=X.mg) (pq I Bk) I.ok.glob hg ec C eP tr q hgP ba λc' ctv h' tk hx hge hlt hrec htb=> ?_;obtain⟨c2,oc,vs,t,e2,hoc,hd,hv⟩:=hrec;cases e2;have Rf:H c'=none:=I.hok.fresh hge;have nP:P≠c':=λz=>by rw[z,Rf]at hP;cases hP
  have I1:Inv X pins σ (upd H c' (kn oc)) {s with heap:=h',toks:=tk}:=by
   have ne:∀{b u},H b=some u->b≠c':=λ {b u} e z=>by rw[z,Rf]at e;cases e
   have XE:∀{b},H b=none->b≠P:=λ {b} e z=>by rw[z,hP]at e;cases e
   refine I.un (t':=tk) ⟨λb o e n _ _=>hx b o (XE n) e,λb o e n _ _=>⟨o.slots,hx b o (XE n) e⟩,λb o e n _=>by rw[aH (aaI (aao (Heap.lt_size e) hge))];exact n,λb o e _=> ?_,
    λb xs e=>by rw[aH (ne e)];exact e,λb o u e=>by rw[aH (ne e)];exact e,λb ps e=>⟨#[],by rw[aH (ne e),e];simp⟩⟩ (λb u e=> ?_)
   ·by_cases hb:b=P
    ·subst hb;exact⟨_,htb⟩
    ·exact⟨o,hx b o hb e⟩
   ·by_cases hb:b=c'
    ·subst hb
     rw[ao]at e;cases e;exact Kw hoc
    ·rw[aH hb]at e
     by_cases hb2:b=P
     ·subst hb2
      rw[hP]at e;cases e;refine⟨_,htb,by simpa using rC tr,λpos2 cv e2=> ?_⟩;have e3:codeAmong pos2 (ps.toList++ [rawInt pos.line,rawInt pos.col,.ref c'])=some cv:=by simpa using e2
      rcases wO tr e3 with z|z
      ·obtain⟨c3,Zu,Zv,q3,t3,f1,f2,f3,f4⟩:=cs pos2 cv z
       exact⟨c3,Zu,Zv,q3,t3,f1,by rw[aH (ne f2)];exact f2,f3,f4⟩
      ·exact⟨c',oc,vs,_,t,z,ao,hd,hv⟩
     ·refine(I.hok b u e).stay (λd v hc2 q2=>hx d v (λz=> ?_) q2) (λd q2=>by rw[aH (ne q2)];exact q2) (λd xs q2=>by rw[aH (ne q2)];exact q2) (λd ob xs q2=>by rw[aH (ne q2)];exact q2)
      subst z;rcases hc2 with z|z
      ·exact hb2 z.symm
      ·rw[hP]at z;cases z
  have I2:=I1.laid (a:=h'.objs.size) (o:=kn (kla_obj "<lambda>" (X.env.qual++ "<lambda>") args body sc (cK X.env sc.names []) ((X.mg "__name__").getD .none) c' ctv)) (h':=h'.push _) (t':=tk) (λb o e=>Heap.get?_push_of_some _ e) (aav _) (Kw (Heap.get?_push_size _ rfl));have Sn:upd H c' (kn oc) h'.objs.size=none:=I1.hok.fresh (aav _);have yD:H h'.objs.size=none:=by
   have:=Sn
   rwa [aH (abX hlt)]at this
  exact h _ _ _ I2 ((ay.up Rf).trans (ay.up Sn)) yD ⟨_,_,_,c',oc,vs,_,t,ao,(ay.up Sn) _ _ ao,hd,hv⟩
end
section
variable{prog:Program}{w:World}{A:Around}{R:Result->Shared->Prop}{s:Shared}
theorem DJ{a:Addr}{ar:Args}{o:Obj}{fd:FuncData}{bd:Expr}{q:Str}(room:A.depth<recursionLimit)(ho:s.heap.get? a=some o)(hfd:o.data= .func fd)
  (co:fd.scope.isCoroutine=false)(gen:fd.scope.isGenerator=false)(hbd:fd.body= .expr bd)(cd:s.heap.CodeRec fd.code q)
  (h:wpAny (model prog w) A.in1 (bindArgs fd ar) (λbs s1=>
   wpAny (model prog w) A.in1 (newFunctionEnv fd.scope fd.globals fd.closure bs (q++ ".<locals>.") (some a) fd.code none fd.builtins)
    (λev s2=>s2.heap.NoLimit/\codeAny (model prog w) A (.expr bd ev) R s2) (λe s'=>R (.error e) s') s1) (λe s'=>R (.error e) s') s):
  codeAny (model prog w) A (.call (.ref a) ar) R s:=by
 refine codeAny_of_tree ?_;show wpAny _ A.in1 (callAny (.ref a) ar) _ _ s;simp only[callAny];refine wpAny_bind (wpAny_load ho ?_);obtain⟨c,oc,vs,tq,hc,hoc,hdc,hq⟩:=cd;simp only[hfd,callFunction,co,gen,hbd,hc];rw[hc]at h;refine wpAny_bind (m:=field (.ref c) 1) (wpAny_field hoc hdc hq (wpAny_bind (wpAny_pure ?_)));refine wpAny_bind (wpAny_mono h (λbs s1 h1=>wpAny_bind (wpAny_mono h1 (λev s2 h2=> ?_) λ_ _ e=>e)) λ_ _ e=>e);exact wpAny_bind (wpAny_enterFrame h2.1 room (wpAny_pure (And.intro rfl h2.2)))
end
noncomputable def Cx.lam(X:Cx)(B:Around)(sc:Scope)(N':List Str)(q:Str)(f:Addr)(cd:Value)(s:Shared)(H:Hp):Cx:=
 {X with
  N:=N'
  s₀:=s
  H₀:=H
  A:=B.deeper (envX q sc s.heap.objs.size f cd (cK X.env sc.names []))
  env:=envX q sc s.heap.objs.size f cd (cK X.env sc.names [])
  outer:=X.stack
  stack:=envX q sc s.heap.objs.size f cd (cK X.env sc.names [])::X.stack
  ex:=[]
  fn:=λ_=>false
  calm:=true
  pn:=[]
  xe:=λ_ _=>False}
section
variable{X:Cx}{pins:List (Addr×Obj)}{σ:St}{H:Hp}{s:Shared}{sc:Scope}{x:Str}{N2:List Str}{B:Around}{q:Str}{f:Addr}{cd:Value}
theorem Nv{h':Heap}{tk:Nat}{v:V}{u:Value}(I:Inv X pins σ H s)(Bk:qR sc.names X.env.scope.names [x] N2 X.N)(hk:sc.kind= .function)(hnc:∀y∈sc.names,y.2≠ .cell)(hx:sc.names.lookup x=some .local)
  (hB:B.frames=some X.stack)(hh:B.handled=none)(hn:h'.Ns s.heap.objs.size (λy=>([(x,u)]:List (Str×Value)).reverse.lookup y))(keep:∀b o,s.heap.get? b=some o->h'.get? b=some o)(rv:RelV v u):
  Inv (X.lam B sc ([x]++N2) q f cd s H) [] (some v::σ) H {s with heap:=h',toks:=tk}:=by
 have jX:∀y c,(cK X.env sc.names []).lookup y=some c->(y,NameKind.free)∈sc.names/\X.env.cells.lookup y=some c:=λy c h=>by
  have h2:(cellsFrom 0 sc.names (cK X.env sc.names [])).lookup y=some c:=by rw[fJ hnc];exact h
  rcases jo I Bk (mem_of_lookup h2)with⟨_,z⟩|z
  ·exact absurd rfl (hnc _ z)
  ·exact z
 have IM:∀b:Addr,b∉(X.lam B sc ([x]++N2) q f cd s H).ex:=λb z=>absurd (show b∈([]:List Addr)from z) (by simp);have ok:(X.lam B sc ([x]++N2) q f cd s H).Ok:=by
  refine⟨I.ok.mod,hk,rfl,rfl,aav _,λy z c h1 h2=>I.ok.inj y z c (jX y c h1).2 (jX z c h2).2,λy hy=> ?_,λy c hy _=>absurd hy (by show ¬(false=true);decide),λ_=>hh,Around.frames_deeper hB,.inr ⟨rfl,rfl⟩,λb hb=>absurd hb (IM b),I.bs,aa8 I.ok.Mq I.sz,λb _ _=>IM b,λb hb=>absurd hb (IM b),I.stack,I.vG⟩;have hy':sc.names.lookup y=some .cell∨sc.names.lookup y=some .free:=hy;rcases hy' with e|e
  ·exact absurd rfl (hnc _ (mem_of_lookup e))
  ·obtain⟨c,hc⟩:=kD I Bk y (mem_of_lookup e)
   have:=nh (n:=0) I Bk (mem_of_lookup e) hc;rw[fJ hnc]at this;exact⟨c,this⟩
 refine⟨ok,rfl,.refl I.bare.bare,Un.kept keep,⟨_,hn,λi y w e1 e2 e3=> ?_⟩,λy c hc=> ?_,I.fresh,λy c hc=>I.nY y c (jX y c hc).2,λp hp=>absurd (show p∈([]:List (Addr×Obj))from hp) (by simp),I.hok.kept keep,?_⟩
 ·cases i with
  |zero=>
   have ey:x=y:=Option.some.inj e1;have ew:v=w:=by
    have:some (some v)=some (some w):=e2;cases this;rfl
   subst ey ew;refine⟨u,rv,.inl ⟨hx,?_⟩⟩;simp[adR]
  |succ i=>
   have Bh:N2[i]?=some y:=e1;have Jw:σ[i]?=some (some w):=e2;have hown:y∉([x]:List Str):=λhm=>by
    have nd:=Bk.MK;rw[abn]at nd;exact nd.2.2 y hm y (aaA Bh) rfl
   refine zI I Bk (n:=0) Bh Jw (fJ hnc).symm (λz hz=> .inr (cH Bk.nd hz)) (λhv=>let⟨k,e,_⟩:=pA hv;⟨k,e⟩) hown keep e3 (λk e=> ?_);obtain⟨k',e',hk'⟩:=pA e3;have e4:sc.names.lookup y=some k':=e';rw[e]at e4;cases e4;exact hk'
 ·obtain⟨w,z⟩:=I.cell y c (jX y c hc).2
  exact⟨w,z.keeps keep⟩
 ·show(some v::σ).length=([x]++N2).length
  rw[aa7,I.len,<-Bk.len]
  rfl
theorem Nx{args:Arguments}{body:Expr}{tb:TE}{v:V}{u:Value}{Q:VK}{E:Value->Shared->Prop}(I:Inv X pins σ H s)(L:BK X args body sc H f)(Bk:qR sc.names X.env.scope.names [x] N2 X.N)
  (hk:sc.kind= .function)(hco:sc.isCoroutine=false)(hgen:sc.isGenerator=false)(hnc:∀y∈sc.names,y.2≠ .cell)(hx:sc.names.lookup x=some .local)
  (hbind:∀qual cl pm c ctv u,bindArgs (kla_fn "<lambda>" qual args body sc cl pm c ctv) ⟨[u],[]⟩=pure [(x,u)])(hB:B.frames=some X.stack)(hh:B.handled=none)(hroom:B.depth<recursionLimit)
  (hbody:∀q cd,PE (X.lam B sc ([x]++N2) q f cd s H) body tb)(rv:RelV v u)(h:tb (some v::σ) H Q):wpAny (model X.prog X.w) B (call (.ref f) [u]) (EP X pins σ Q) E s:=by
 obtain⟨qual,pm,ctv,c,oc,vs,q,t,e1,e2,e3,e4⟩:=L.ex;obtain⟨g1,_⟩:s.heap.get? f=some _/\_:=I.hok f _ e1;obtain⟨g2,_⟩:s.heap.get? c=some oc/\_:=I.hok c _ e2;refine wpAny_call (DJ (q:=q) hroom g1 rfl hco hgen rfl ⟨c,oc,vs,t,rfl,g2,e3,e4⟩ ?_);rw[hbind];refine wpAny_pure (wpAny_newFunctionEnv hnc (λy hy=> ?_) (λh1 hns XF=>⟨(I.Fv).fresh _ XF,?_⟩) hk)
 ·rw[aap.mp hy]
  exact hx
 have keep:∀b o,s.heap.get? b=some o->h1.get? b=some o:=λb o e=>XF.extBut b o (aaI (Heap.lt_size e)) (Heap.get?_push_of_some _ e);have J:=Nv (q:=q) (f:=f) (cd:= .ref c) (tk:=s.toks+1) I Bk hk hnc hx hB hh hns keep rv;refine kla_codeExpr (wpAny_mono (hbody q (.ref c) [] _ _ H Q J h) (λu' s' hs=> ?_) λ_ _ z=>False.elim z);obtain⟨v',H',J',r',q'⟩:=hs;have I':Inv X pins σ H' s':=I.IU (ch:=[]) J'.os J'.base J'.hok J'.bare λb z=>nomatch z
 exact⟨v',H',I',r',q'⟩
end
end L2
namespace L2
open PySem PySem.Spec PyProof.Rows PySem.Calls zW
theorem yZ{α β:Type}{f:α->β}:∀{m n:List β},m.Perm n-> ∀l:List α,n=l.map f-> ∃l':List α,l'.Perm l/\m=l'.map f:=by
 intro m n p
 induction p with
 |nil=>
  intro l e;exact⟨l,.refl _,e⟩
 |cons x _ ih=>
  intro l e
  cases l with
  |nil=>cases e
  |cons a l=>
   injection e with e1 e2;obtain⟨l',p',e'⟩:=ih l e2;exact⟨a::l',p'.cons a,by rw[abp,e1,e']⟩
 |swap x y r=>
  intro l e
  match l,e with
  |a::b::l,e=>
   injection e with e1 e2;injection e2 with e2 e3;exact⟨b::a::l,List.Perm.swap _ _ _,by simp[e1,e2,e3]⟩
 |trans _ _ ih1 ih2=>
  intro l e;obtain⟨l2,p2,e2⟩:=ih2 l e;obtain⟨l1,p1,e1⟩:=ih1 l2 e2;exact⟨l1,p1.trans p2,e1⟩
inductive rD(kf:V->Int):List V->List Value->List Value->Prop
 |nil:rD kf [] [] []
 |cons{y:V}{u:Value}{ys:List V}{us ks:List Value}(t:Tok)(r:RelV y u):rD kf ys us ks->rD kf (y::ys) (u::us) (.int (kf y) t::ks)
theorem rD.out{kf:V->Int}{ys:List V}{us ks:List Value}(h:rD kf ys us ks):∃tr:List (Keyed×V),ks.zip us=tr.map Prod.fst/\ys=tr.map Prod.snd/\ ∀t∈tr,RelV t.2 t.1.2/\ ∃k,t.1.1= .int (kf t.2) k:=by
 induction h with
 |nil=>exact⟨[],rfl,rfl,λt h=>nomatch h⟩
 | @cons y u ys us ks t r _ ih=>
  obtain⟨tr,e1,e2,h⟩:=ih;refine⟨((.int (kf y) t,u),y)::tr,by rw[ac0,e1];rfl,by rw[e2];rfl,λz hz=> ?_⟩;rcases aar.mp hz with rfl|hz
  ·exact⟨r,t,rfl⟩
  ·exact h z hz
theorem rD.ints{kf:V->Int}{ys:List V}{us ks:List Value}(h:rD kf ys us ks):IntsAre ks (ys.map kf):=by
 induction h with
 |nil=>exact .nil
 |cons t r _ ih=>exact .cons _ t ih
theorem rD.snoc{kf:V->Int}{ys:List V}{us ks:List Value}{y:V}{u:Value}(h:rD kf ys us ks)(t:Tok)(r:RelV y u):rD kf (ys++ [y]) (us++ [u]) (ks++ [.int (kf y) t]):=by
 induction h with
 |nil=>exact .cons t r .nil
 |cons t' r' _ ih=>exact .cons t' r' ih
section
variable{prog:Program}{w:World}{A:Around}{E:Value->Shared->Prop}{s:Shared}
theorem HA:rq prog w A E s oneType' (λp=>numOf p.1) (λp=> ∃n t,p.1= .int n t):=
 z6 λx y hx hy E' Q hq=>by
  obtain⟨n,t,e1⟩:=hx;obtain⟨m,u,e2⟩:=hy;rw[keyLt'_oneType,e1,e2];rw[e1,e2]at hq;exact oneLt_int hq
end
section
variable{X:Cx}{pins:List (Addr×Obj)}{σ:St}{H:Hp}{s:Shared}{B:Around}{a:Addr}{f:Value}{kf:V->Int}{ys:List V}{us:List Value}
theorem Vals.at{ys:List V}{us:List Value}(r:Vals ys us){j:Nat}{x:Value}(h:us[j]?=some x):∃v,ys[j]?=some v/\RelV v x:=by
 induction r generalizing j with
 |nil=>cases h
 |cons a _ ih=>
  cases j with
  |zero=>cases h;exact⟨_,rfl,a⟩
  |succ j=>exact ih h
noncomputable abbrev FW(pins:List (Addr×Obj))(a:Addr)(e1:Nat)(kS:Addr)(ks:Array Value)(e:Nat):List (Addr×Obj):=pins++ [(a,seqObj "list" #[] e1),(kS,seqObj "list" ks e)]
theorem z7{a:Addr}{o:Obj}(fa:gb X pins H a)(h:s.heap.get? a=some o)(hd:∀v,o.data≠ .cell v):s.heap.get? a=some o/\H a=none/\a≠X.env.locals/\a∉X.fs/\ ∀v,o.data≠ .cell v:=⟨h,fa.1,fa.2.1,fa.2.2.1,hd⟩
theorem y9{H':Hp}(fa:gb X pins H a)(h:H' a=none):gb X pins H' a:=⟨h,fa.2⟩
end
theorem Kx{K:PySem.W.Frag}{H H':Hp}{a:Addr}{xs:List V}(h:aZ K H a xs)(s:ay H H'):aZ K H' a xs:=by
 rcases h with h|h
 ·rcases h with h|⟨o,h⟩
  ·exact .inl (.inl (s _ _ h))
  ·exact .inl (.inr ⟨o,s _ _ h⟩)
 ·exact .inr h
noncomputable def Tq(sc:Scope)(ks:List (Str×NameKind))(own N2 N:List Str):Bool:=
 Bg sc.names ks own N2 N && (sc.kind== .function) && !sc.isCoroutine && !sc.isGenerator && sc.names.all (λy=>y.2 != .cell) && own.all (λx=>sc.names.lookup x==some NameKind.local)
section
variable{X:Cx}{P:Addr}{te tb:TE}{e body:Expr}{args:Arguments}{sc:Scope}{x:Str}{N2:List Str}{p pos Ky kpos:Pos}
theorem gk.FZ{k:Nat}{A:Around}(r:gk k A):A.units+70<cLine:=by have:=r.un;omega
theorem Kz{k:Nat}{A:Around}{e:Env}(r:gk (k+3) A):gk k (A.in1.in1.deeper e):=r.in1.in1.deeper e
end
end L2
namespace L2
open PySem PySem.Spec PyProof.Rows
section
variable{X:Cx}
end
noncomputable def dR(H:Hp)(b:Addr):List Int:=match H b with
 |some (.lst xs)=>xs.map λv=>match v with| .int i=>i|_=>0
 |_=>[]
noncomputable def z8(H:Hp)(b:Addr):Prop:=H b=some (.lst [.int (aL (dR H b) 0),.int (aL (dR H b) 1),.int (aL (dR H b) 2)])/\(dR H b).length=3
theorem Tv{H:Hp}{b:Addr}{x y z:Int}(e:H b=some (.lst [.int x,.int y,.int z])):z8 H b/\dR H b=[x,y,z]:=by
 have h:dR H b=[x,y,z]:=by
  unfold dR;rw[e]
  rfl
 refine⟨⟨?_,by rw[h];rfl⟩,h⟩;rw[h,e]
 rfl
theorem z8.keep{H H':Hp}{b:Addr}(h:z8 H b)(s:∀o,H b=some o->H' b=some o):z8 H' b/\dR H' b=dR H b:=by
 have e:dR H' b=dR H b:=by
  have e1:=s _ h.1;have e2:=h.1;unfold dR at *;rw[e1]
  conv=>rhs;rw[e2]
 exact⟨⟨by rw[e];exact s _ h.1,by rw[e];exact h.2⟩,e⟩
theorem zc{r:List Int}(h:r.length=3):r=[aL r 0,aL r 1,aL r 2]:=by
 match r,h with
 | [a,b,c],_=>rfl
noncomputable def gH(H:Hp)(as:List Addr):Prop:=∀b∈as,z8 H b
noncomputable def rws(H:Hp)(as:List Addr):List (List Int):=as.map (dR H)
theorem gH.keep{H H':Hp}{as:List Addr}(h:gH H as)(s:∀b∈as,∀o,H b=some o->H' b=some o):gH H' as/\rws H' as=rws H as:=
 ⟨λb hb=>((h b hb).keep (s b hb)).1,List.map_congr_left λb hb=>((h b hb).keep (s b hb)).2⟩
theorem gH.same{H H':Hp}{as:List Addr}(h:gH H as)(s:ay H H'):gH H' as/\rws H' as=rws H as:=h.keep λb _ o e=>s b o e
theorem Ny{H:Hp}{t:Addr}{as:List Addr}(ht:H t=some (.lst (as.map V.ref)))(h:gH H as):Tab H t as (rws H as):=by
 refine⟨ht,?_⟩;clear ht
 induction as with
 |nil=>exact .nil
 |cons b as ih=>
  refine .cons ?_ (ih λc hc=>h c (aay _ hc));have:=h b aaD;rw[this.1]
  conv=>rhs;rw[zc this.2]
  rfl
theorem DK(H:Hp)(as bs:List Addr):rws H (as++bs)=rws H as++rws H bs:=List.map_append
theorem HB{zs:List V}{as:List Addr}(p:zs.Perm (as.map V.ref)):∃bs:List Addr,zs=bs.map V.ref/\bs.Perm as:=by
 obtain⟨l,p',e⟩:=yZ p as rfl;exact⟨l,e,p'⟩
theorem BL{H:Hp}{b l:Addr}{as:List Addr}(h:z8 H b)(e:H l=some (.lst (as.map V.ref))):b≠l:=by
 rintro rfl;have e1:=h.1;rw[e]at e1
 cases as with
 |nil=>cases e1
 |cons a as=>cases e1
noncomputable def fB(H:Hp)(bo:List Int->Bool):V->V
 | .ref d=> .bl (bo (dR H d))
 |_=> .gF
theorem Nz{A B:List (List Int)}(ca:aY A)(cb:aY B)(h:∀i j,i<3->j<3->ent A i j=ent B i j):A=B:=by
 rw[kG ca,kG cb];exact fU h
theorem KA{J:It}{H1:Hp}{xs:List V}{σ:St}{te:TE}{Q:VK}(jw:JW J H1 xs)(hz:xs.length<=sizeLine){D:Addr}(hD:H1 D=none)(R:Nat->V->Hp->Prop)
  (mono:∀j v H H',R j v H->(∀b o,b≠D->H b=some o->H' b=some o) ->R j v H')
  (hs:∀j x,xs[j]?=some x-> ∀H' (Q':VK),ay H1 H'->(∃o,H' D=some o) ->(∀v H2,ay H' H2->R j v H2->Q' v H2) ->te (some x::σ) H' Q')
  (hq:∀vs H',ay H1 H'->vs.length=xs.length->(∀j v,vs[j]?=some v->R j v H') ->H' D=some (.lst vs) ->Q (.ref D) H'):lQ 1 (dP 0) te σ J H1 D Q:=by
 refine qZ jw hz hD (λpre acc H'=> ∀j v,acc[j]?=some v->R j v H') (λj v e=>by simp at e) (λpre x post acc H' Q' e hl sm eD p k=> ?_) (λacc H' hl sm eD p=>hq acc H' sm hl p eD);refine hs pre.length x (by rw[e];simp) H' Q' sm ⟨_,eD⟩ λv H2 s2 r=>k v H2 s2 λj u eu=> ?_;have off:∀b o,b≠D->H2 b=some o->upd H2 D (.lst (acc++ [v])) b=some o:=λb o n h=>by rw[aH n];exact h
 by_cases c:j<acc.length
 ·rw[aaR c]at eu
  exact mono j u H' _ (p j u eu) λb o n h=>off b o n (s2 b o h)
 ·have:j=acc.length:=by
   have:=(aat.mp eu).1;rw[aaC]at this;simp at this;omega
  subst this;rw[aaO (aav _)]at eu;simp at eu;subst eu;rw[hl];exact mono _ v H2 _ r off
theorem HD{K:PySem.W.Frag}{J:It}{H1:Hp}{xs:List V}{σ:St}{te:TE}{Q:VK}(jw:JW J H1 xs)(hz:xs.length<=sizeLine){D:Addr}(hD:H1 D=none)(us vs:Nat->V)(items:∀j x,xs[j]?=some x-> ∃p,x= .ref p/\nZ K H1 p [us j,vs j])(R:Nat->V->Hp->Prop)
  (mono:∀j v H H',R j v H->(∀b o,b≠D->H b=some o->H' b=some o) ->R j v H')
  (hs:∀j,j<xs.length-> ∀H' (Q':VK),ay H1 H'->(∃o,H' D=some o) ->(∀v H2,ay H' H2->R j v H2->Q' v H2) ->te (some (us j)::some (vs j)::σ) H' Q')
  (hq:∀ws H',ay H1 H'->ws.length=xs.length->(∀j v,ws[j]?=some v->R j v H') ->H' D=some (.lst ws) ->Q (.ref D) H'):lQ 2 (g2 K) te σ J H1 D Q:=by
 refine⟨λi m acc σ' H'=>m=xs.length-i/\i<=xs.length/\acc.length=i/\(∃o o',σ'=o::o'::σ)/\ay H1 H'/\H' D=some (.lst acc)/\ ∀j v,acc[j]?=some v->R j v H',⟨xs.length,rfl,aa3 _,rfl,⟨none,none,rfl⟩,ay.up hD,ao,λj v e=>by simp at e⟩,?_⟩;rintro i m acc σ' H' ⟨rfl,hi,hl,⟨o,o',rfl⟩,sm,eD,p⟩
 by_cases hlt:i<xs.length
 ·refine .inr ⟨jw.go i H' sm hlt,by omega,λx H2 y=> ?_⟩
  obtain⟨rfl,ex⟩:=jw.AN i H' x H2 sm hlt y;obtain⟨T,rfl,hT⟩:=items i x ex;refine⟨T,[us i,vs i],rfl,sm.Zi hT,rfl,us i,[vs i],rfl,vs i,[],rfl,rfl,?_⟩;show te (some (us i)::some (vs i)::σ) _ _;refine hs i hlt H2 _ sm ⟨_,eD⟩ λv H4 s4 r=> ?_;refine⟨s4 _ _ eD,xs.length- (i+1),by(clear ex p eD hi hq hs mono items hD hz;omega),rfl,hlt,by simp[hl],⟨_,_,rfl⟩,(sm.trans s4).upd hD,ao,λj u eu=> ?_⟩;have off:∀b o,b≠D->H4 b=some o->upd H4 D (.lst (acc++ [v])) b=some o:=λb o n h=>by rw[aH n];exact h
  by_cases c:j<acc.length
  ·rw[aaR c]at eu
   exact mono j u H2 _ (p j u eu) λb o n h=>off b o n (s4 b o h)
  ·have:j=acc.length:=by
    have:=(aat.mp eu).1;rw[aaC]at this;simp at this;omega
   subst this;rw[aaO (aav _)]at eu;simp at eu;subst eu;rw[hl];exact mono _ v H4 _ r off
 ·have e:i=xs.length:=by omega
  subst e;exact .inl ⟨jw.stop H' sm,eD,hq acc H' sm hl p eD⟩
noncomputable def KC(m:List (List Int))(i:Nat)(σ:St)(H:Hp):Nat:=match σ[i]? with
 |some (some (.ref a))=>match H a with
  |some (.lst [.int x0,.int x1,.int x2])=>(au m (aL [x0,x1,x2]) (aL [x0,x1,x2])).toNat
  |_=>0
 |_=>0
theorem sI{m:List (List Int)}{i:Nat}{σ:St}{H:Hp}{a:Addr}{x:Nat->Int}(hs:σ[i]?=some (some (.ref a)))(h:bJ H a x):KC m i σ H=(au m x x).toNat:=by
 unfold KC;have h:H a=some (.lst [.int (x 0),.int (x 1),.int (x 2)]):=h;rw[hs];simp only[h];rw[eH (m:=m) (x:=aL [x 0,x 1,x 2]) (y:=aL [x 0,x 1,x 2]) (x':=x) (y':=x) (λi hi=>by rcases aW hi with rfl|rfl|rfl<;>rfl) (λi hi=>by rcases aW hi with rfl|rfl|rfl<;>rfl)]
theorem kL(a:Int){b:Int}(h:0<b):(a/b).natAbs<=a.natAbs:=by
 have e:=acd a b;have l:=abq a (show b≠0 by omega);have u:=abr a h;generalize a%b=r at e l u;generalize a/b=q at e ⊢;rcases abH q 0 with z|z
 ·have:b*q<=1*q:=by
   have:=acK (show(1:Int)<=b by omega) (aas z);omega
  by_cases c:q= -1
  ·subst c
   omega
  ·have:b*(q+1)<=1*(q+1):=acK (show(1:Int)<=b by omega) (by omega)
   have e2:b*(q+1)=b*q+b:=by grind
   omega
 ·have:1*q<=b*q:=aan (show(1:Int)<=b by omega) z
  (clear u h;omega)
noncomputable abbrev aQ(m:List (List Int))(x:Nat->Int):Int:=au m x x
theorem NC{m:List (List Int)}(P:Du m){x:Nat->Int}(h:¬(x 0=0/\x 1=0/\x 2=0)):0<aQ m x:=P x h
theorem eO{m:List (List Int)}(P:Du m)(x:Nat->Int):0<=aQ m x:=by
 by_cases h:x 0=0/\x 1=0/\x 2=0
 ·have:aQ m x=0:=by
   show au m x x=0;rw[aT,h.1,h.2.1,h.2.2]
   grind
  (clear h;omega)
 ·exact aas (P x h)
noncomputable def jt(y:Nat->Int)(q:Int)(x:Nat->Int):Nat->Int:=λi=>y i-q*x i
theorem zd{m:List (List Int)}(y:Nat->Int)(q:Int)(x z:Nat->Int):au m (jt y q x) z=au m y z-q*au m x z:=by
 unfold jt;rw[aT,aT,aT]
 grind
theorem gI{m:List (List Int)}(ev:br m)(y:Nat->Int)(q:Int)(x z:Nat->Int):au m z (jt y q x)=au m z y-q*au m z x:=by
 rw[kh ev,zd,kh ev y,kh ev x]
theorem rE{m:List (List Int)}(ev:br m)(y:Nat->Int)(q:Int)(x:Nat->Int):aQ m (jt y q x)=aQ m y-2*q*au m x y+q*q*aQ m x:=by
 show au m _ _=_;rw[zd,gI ev,gI ev,kh ev y x]
 grind
theorem sM{P A:Int}(h:0<A): -A<=2*(P- (2*P+A)/(2*A)*A)/\2*(P- (2*P+A)/(2*A)*A)<=A:=by
 have e:=acd (2*P+A) (2*A);have l:=abq (2*P+A) (show 2*A≠0 by omega);have u:=abr (2*P+A) (show 0<2*A by omega);generalize(2*P+A)/(2*A)=q at e ⊢;generalize(2*P+A)%(2*A)=r at e l u;have e2:2*A*q=2*(q*A):=by grind
 rw[e2]at e;omega
theorem Ga{A P q N:Int}(hA:0<=A)(h1: -A<=2*(P-q*A))(h2:2*(P-q*A)<=A):N-2*q*P+q*q*A<=N:=by
 obtain⟨e,he⟩:∃e,P-q*A=e:=⟨_,rfl⟩;rw[he]at h1 h2;have hP:P=q*A+e:=by omega
 rw[hP];have key:N-2*q*(q*A+e)+q*q*A=N- (q*q*A+q*(2*e)):=by grind
 rw[key]
 suffices 0<=q*q*A+q*(2*e)by omega
 rcases abH 0 q with hq|hq
 ·have a1:q*(-A)<=q*(2*e):=aal (by omega) (by(clear key hP he h1 h2 hA;omega))
  have a2:q*A<=q*(q*A):=aal (by
   have:1*A<=q*A:=aan (by(clear a1 key hP he h1 h2 hA;omega)) hA;omega) (by(clear a1 key hP he h1 h2 hA;omega))
  have e1:q*(-A)= -(q*A):=by grind
  have e2:q*(q*A)=q*q*A:=by grind
  (clear hq key hP he h1 h2 hA;omega)
 ·have a1:(-q)*(2*e)<=(-q)*A:=aal (by omega) (by(clear key hP he h1 h2 hA;omega))
  have e3:(-q)*(2*e)= -(q*(2*e)):=by grind
  rcases abH q 0 with h|h
  ·have a2:(-q)*A<=(-q)*((-q)*A):=aal (by
    have:1*A<=(-q)*A:=aan (by(clear e3 a1 hq key hP he h1 h2 hA;omega)) hA;omega) (by(clear e3 a1 hq key hP he h1 h2 hA;omega))
   have e2:(-q)*((-q)*A)=q*q*A:=by grind
   (clear h hq key hP he h1 h2 hA;omega)
  ·have:q=0:=by(clear e3 a1 key hP he h1 h2 hA;omega)
   subst this;simp
noncomputable def oM(s:Nat->Nat)(m:List (List Int)):List (List Int):=mk3 λi j=>ent m (s i) (s j)
theorem qg{m:List (List Int)}(hS:dI m=m)(ab:bQ m=true)(x:Nat->Int):aA m*(x 2*x 2)<=iW m 2 2*aQ m x:=by
 obtain⟨c1,c2,c3⟩:=gU ab;have e:=JX hS x;have hm:iW m 2 2=ent m 0 0*ent m 1 1-ent m 0 1*ent m 0 1:=by
  show ent m 0 0*ent m 1 1-ent m 0 1*ent m 1 0=_;rw[jl hS (i:=0) (j:=1) (by decide) (by decide)]
 rw[<-hm]at e;have q1:=Rg (show 0<=iW m 2 2 by(clear e c3 c1 ab hS;omega)) (bI (ent m 0 0*x 0+ent m 0 1*x 1+ent m 0 2*x 2));have q2:=bI (iW m 2 2*x 1+(ent m 0 0*ent m 1 2-ent m 0 1*ent m 0 2)*x 2);have e2:ent m 0 0*(aA m*(x 2*x 2))<=ent m 0 0*(iW m 2 2*aQ m x):=by
  have a1:ent m 0 0*(aA m*(x 2*x 2))=ent m 0 0*aA m*(x 2*x 2):=(abQ ..).symm;have a2:ent m 0 0*(iW m 2 2*aQ m x)=ent m 0 0*iW m 2 2*au m x x:=(abQ ..).symm
  (clear hm c3 c2 c1 ab hS;omega)
 exact aaW e2 c1
theorem ze{m:List (List Int)}(ev:br m)(c:aY m)(ab:bQ m=true)(s:Nat->Nat)(hs:(s 0=2/\s 1=1/\s 2=0)∨(s 0=0/\s 1=2/\s 2=1))(x:Nat->Int):
  dI (oM s m)=oM s m/\bQ (oM s m)=true/\aA (oM s m)=aA m/\aQ (oM s m) (λi=>x (s i))=aQ m x/\iW (oM s m) 2 2=iW m (s 2) (s 2):=by
 have hS:=fG ev c;have P:=kg hS ab;have z9:ent m 1 0=ent m 0 1:=ev.sym.1;have DL:ent m 2 0=ent m 0 2:=ev.sym.2.1;have DM:ent m 2 1=ent m 1 2:=ev.sym.2.2;have en:∀i j,i<3->j<3->ent (oM s m) i j=ent m (s i) (s j):=λi j hi hj=>cZ _ hi hj;have hN:∀y:Nat->Int,au (oM s m) (λi=>y (s i)) (λi=>y (s i))=au m y y:=λy=>by
  rw[aT,aT,en 0 0 (by decide) (by decide),en 0 1 (by decide) (by decide),en 0 2 (by decide) (by decide),en 1 0 (by decide) (by decide),en 1 1 (by decide) (by decide),en 1 2 (by decide) (by decide),en 2 0 (by decide) (by decide),en 2 1 (by decide) (by decide),en 2 2 (by decide) (by decide)];rcases hs with⟨h0,h1,h2⟩|⟨h0,h1,h2⟩<;>rw[h0,h1,h2]<;>grind
 have ov:dI (oM s m)=oM s m:=Nz (cJ _) (cJ _) λi j hi hj=>by
  rw[bf _ hi hj,en j i hj hi,en i j hi hj];rcases hs with⟨h0,h1,h2⟩|⟨h0,h1,h2⟩<;>rcases aW hi with rfl|rfl|rfl<;>rcases aW hj with rfl|rfl|rfl<;>simp only[h0,h1,h2,z9,DL,DM]
 have Pp:Du (oM s m):=λy n0=>by
  have e:=hN (λi=>y (s i));have back:∀i,i<3->s (s i)=i:=λi hi=>by
   rcases hs with⟨h0,h1,h2⟩|⟨h0,h1,h2⟩<;>rcases aW hi with rfl|rfl|rfl<;>simp only[h0,h1,h2]
  have e2:au (oM s m) y y=au (oM s m) (λi=>(λi=>y (s i)) (s i)) (λi=>(λi=>y (s i)) (s i)):=eH (λi hi=>by show y i=y (s (s i));rw[back i hi]) (λi hi=>by show y i=y (s (s i));rw[back i hi]);rw[e2,e];refine P _ λz=>n0 ?_;rcases hs with⟨h0,h1,h2⟩|⟨h0,h1,h2⟩<;>rw[h0,h1,h2]at z<;>exact⟨by(clear h2 h1 h0 e2 back e n0 ov hN en DM DL z9 hS ab;omega),by(clear h2 h1 h0 e2 back e n0 ov hN en DM DL z9 hS ab;omega),by(clear h2 h1 h0 e2 back e n0 ov hN en DM DL z9 hS ab;omega)⟩
 refine⟨ov,yR ov Pp,?_,hN x,?_⟩
 ·rw[dJ,dJ,en 0 0 (by decide) (by decide),en 0 1 (by decide) (by decide),en 0 2 (by decide) (by decide),en 1 0 (by decide) (by decide),en 1 1 (by decide) (by decide),en 1 2 (by decide) (by decide),en 2 0 (by decide) (by decide),en 2 1 (by decide) (by decide),en 2 2 (by decide) (by decide)]
  rcases hs with⟨h0,h1,h2⟩|⟨h0,h1,h2⟩<;>rw[h0,h1,h2]<;>grind
 ·show ent (oM s m) 0 0*ent (oM s m) 1 1-ent (oM s m) 0 1*ent (oM s m) 1 0=_
  rw[en 0 0 (by decide) (by decide),en 0 1 (by decide) (by decide),en 1 0 (by decide) (by decide),en 1 1 (by decide) (by decide)];unfold iW;rcases hs with⟨h0,h1,h2⟩|⟨h0,h1,h2⟩<;>rw[h0,h1,h2]<;>simp only[Nat.reduceAdd,adZ]<;>grind
theorem zf{m:List (List Int)}(ev:br m)(c:aY m)(ab:bQ m=true)(x:Nat->Int){i:Nat}(hi:i<3):aA m*(x i*x i)<=iW m i i*aQ m x:=by
 rcases aW hi with rfl|rfl|rfl
 ·obtain⟨h1,h2,h3,h4,h5⟩:=ze ev c ab (λi=>2-i) (.inl ⟨rfl,rfl,rfl⟩) x
  have:=qg h1 h2 (λi=>x (2-i));rw[h3,h4,h5]at this;exact this
 ·obtain⟨h1,h2,h3,h4,h5⟩:=ze ev c ab (λi=>if i=0 then 0 else 3-i) (.inr ⟨rfl,rfl,rfl⟩) x
  have:=qg h1 h2 (λi=>x (if i=0 then 0 else 3-i));rw[h3,h4,h5]at this;exact this
 ·exact qg (fG ev c) ab x
theorem mS{m:List (List Int)}(ev:br m)(c:aY m)(ab:bQ m=true)(hB:Bd 440 m){x:Nat->Int}(hx:(aQ m x).natAbs<2^450){i:Nat}(hi:i<3):(x i).natAbs<2^666:=by
 have e:=zf ev c ab x hi;have d1:=(gU ab).2.2;have b1:=nk hB i i;have e2:x i*x i<=iW m i i*aQ m x:=by
  refine aaB ?_ e;have:=aan (show(1:Int)<=aA m by omega) (bI (x i))
  (clear b1 d1 e hi hx ab;omega)
 have b2:(iW m i i*aQ m x).natAbs<2^(881+450):=cu b1 hx;have b3:(x i*x i).natAbs<2^1332:=by
  have:=bI (x i);refine aaL ?_ (aK b2 (show 881+450<=1332 by decide))
  (clear b1 d1 e hi hx ab;omega)
 rw[acD]at b3;refine Nat.lt_of_not_le λz=> ?_;have:=acg z z;rw[<-Nat.pow_add]at this
 (clear z b2 e2 b1 d1 e hi hx ab;omega)
noncomputable def eK(x y t:Nat->Int):List (List Int):=mk3 λi j=>if i=0 then x j else if i=1 then y j else t j
noncomputable def bW(x y t:Nat->Int):Int:=x 0*(y 1*t 2-y 2*t 1)+x 1*(y 2*t 0-y 0*t 2)+x 2*(y 0*t 1-y 1*t 0)
theorem HE(x y t:Nat->Int):aA (eK x y t)=bW x y t:=by
 rw[dJ];show x 0*(y 1*t 2-y 2*t 1)+x 1*(y 2*t 0-y 0*t 2)+x 2*(y 0*t 1-y 1*t 0)=_
 rfl
theorem HF(x y t:Nat->Int):bW y x t= -bW x y t:=by unfold bW;grind
theorem DN(x y t:Nat->Int)(q:Int):bW x (jt y q x) t=bW x y t:=by unfold bW jt;grind
theorem qh(x y t:Nat->Int)(i j:Int):bW x y (jt (jt t i x) j y)=bW x y t:=by unfold bW jt;grind
theorem DO{x:Nat->Int}(h:x 0=0/\x 1=0/\x 2=0)(y t:Nat->Int):bW x y t=0:=by unfold bW;rw[h.1,h.2.1,h.2.2];grind
structure iy(m:List (List Int))(x y x' y':Nat->Int):Prop where
 det:∃e:Int,(e=1∨e= -1)/\ ∀t,bW x' y' t=e*bW x y t
 sum:aQ m x'+aQ m y'<=aQ m x+aQ m y
theorem iy.refl(m:List (List Int))(x y:Nat->Int):iy m x y x y:=⟨⟨1,.inl rfl,λt=>by rw[abU]⟩,aaZ _⟩
theorem iy.trans{m:List (List Int)}{x y x1 y1 x2 y2:Nat->Int}(a:iy m x y x1 y1)(b:iy m x1 y1 x2 y2):iy m x y x2 y2:=by
 obtain⟨e,he,h⟩:=a.det;obtain⟨f,hf,k⟩:=b.det;refine⟨⟨f*e,?_,λt=>by rw[k,h,abQ]⟩,aaB b.sum a.sum⟩;rcases he with rfl|rfl<;>rcases hf with rfl|rfl<;>simp
theorem iy.swap{m:List (List Int)}{x y x' y':Nat->Int}(a:iy m x y x' y'):iy m x y y' x':=by
 obtain⟨e,he,h⟩:=a.det;refine⟨⟨-e,by omega,λt=>by rw[HF,h];grind⟩,by have:=a.sum;omega⟩
theorem iy.less{m:List (List Int)}(ev:br m){x y:Nat->Int}(h:0<aQ m x):iy m x y x (jt y ((2*au m x y+aQ m x)/(2*aQ m x)) x):=by
 obtain⟨h1,h2⟩:=sM (P:=au m x y) h;refine⟨⟨1,.inl rfl,λt=>by rw[DN,abU]⟩,?_⟩;rw[rE ev];have:=Ga (N:=aQ m y) (aas h) h1 h2;omega
theorem KD{m:List (List Int)}(ev:br m){x y:Nat->Int}(h:0<aQ m x):aQ m (jt y ((2*au m x y+aQ m x)/(2*aQ m x)) x)<=aQ m y:=by
 obtain⟨h1,h2⟩:=sM (P:=au m x y) h;rw[rE ev];exact Ga (N:=aQ m y) (aas h) h1 h2
theorem HG{m:List (List Int)}(ev:br m){x y:Nat->Int}(h:0<aQ m x): -(aQ m x)<=2*au m x (jt y ((2*au m x y+aQ m x)/(2*aQ m x)) x)/\2*au m x (jt y ((2*au m x y+aQ m x)/(2*aQ m x)) x)<=aQ m x:=by
 rw[gI ev];exact sM h
structure nE(m:List (List Int))(x y:Nat->Int):Prop where
 pos:0<aQ m x
 le:aQ m x<=aQ m y
 lo: -(aQ m x)<=2*au m x y
 hi:2*au m x y<=aQ m x
theorem mT{a b:Int}(h1: -b<=a)(h2:a<=b):a*a<=b*b:=by
 have hb:0<=b:=by omega
 rcases abc 0 a with h|h
 ·exact aaN h2 h2 h hb
 ·have:(-a)*(-a)<=b*b:=aaN (by omega) (by omega) (by omega) hb
  have e:(-a)*(-a)=a*a:=by grind
  omega
theorem nE.Aa{m:List (List Int)}{x y:Nat->Int}(h:nE m x y):3*(aQ m x*aQ m y)<=4*(aQ m x*aQ m y-au m x y*au m x y)/\0<aQ m x*aQ m y-au m x y*au m x y:=by
 have s:=mT h.lo h.hi;have l:aQ m x*aQ m x<=aQ m x*aQ m y:=aal h.le (aas h.pos);have p:=abT h.pos h.pos;have e:2*au m x y*(2*au m x y)=4*(au m x y*au m x y):=by grind
 omega
theorem Wl{m:List (List Int)}(ev:br m)(x y t:Nat->Int):
  (aQ m x*aQ m y-au m x y*au m x y)*aQ m t=aA m*(bW x y t*bW x y t)+(aQ m x*(au m y t*au m y t) -2*(au m x y*(au m x t*au m y t))+aQ m y*(au m x t*au m x t)):=by
 have z9:ent m 1 0=ent m 0 1:=ev.sym.1;have DL:ent m 2 0=ent m 0 2:=ev.sym.2.1;have DM:ent m 2 1=ent m 1 2:=ev.sym.2.2;show(au m x x*au m y y-_)*au m t t=_*_+(au m x x*_-_+au m y y*_);rw[dJ];unfold bW;simp only[aT,z9,DL,DM];generalize ent m 0 0=a,ent m 0 1=p,ent m 0 2=q,ent m 1 1=b,ent m 1 2=r,ent m 2 2=c;generalize x 0=x0,x 1=x1,x 2=x2,y 0=y0,y 1=y1,y 2=y2,t 0=t0,t 1=t1,t 2=t2
 grind
end L2
set_option maxHeartbeats 4000000
namespace L2
open PySem
theorem vK{a p d X Y:Int}(ha:0<=a)(h1: -a<=2*p)(h2:2*p<=a)(hX:d<=X)(l1: -X<=Y)(l2:Y<=X):0<=a*(2*X-d)+2*p*Y:=by
 have k1:0<=(a+2*p)*(X+Y):=Rg (by omega) (by omega);have k2:0<=(a-2*p)*(X-Y):=Rg (by omega) (by omega);have k3:0<=a*(X-d):=Rg ha (by omega);have e:2*(a*(2*X-d)+2*p*Y)=(a+2*p)*(X+Y)+(a-2*p)*(X-Y)+2*(a*(X-d)):=by grind
 (clear l2 l1 hX h2 h1 ha;omega)
noncomputable def gq(a p b c u v i j:Int):Int:=c-2*(i*u) -2*(j*v)+a*(i*i)+2*(p*(i*j))+b*(j*j)
theorem Wm{a p b c u v i j S R:Int}(eS:S=b*u-p*v)(eR:R=a*v-p*u):(a*b-p*p)*(gq a p b c u v i j-gq a p b c u v (i-1) j)=a*(2*((a*b-p*p)*i-S) - (a*b-p*p))+2*p*((a*b-p*p)*j-R):=by
 subst eS eR;unfold gq
 grind
theorem Wn{a p b c u v i j S R:Int}(eS:S=b*u-p*v)(eR:R=a*v-p*u):(a*b-p*p)*(gq a p b c u v i j-gq a p b c u v i (j-1))=b*(2*((a*b-p*p)*j-R) - (a*b-p*p))+2*p*((a*b-p*p)*i-S):=by
 subst eS eR;unfold gq
 grind
theorem j6{D x y:Int}(D0:0<D)(h:0<=D*(x-y)):y<=x:=by
 refine Classical.byContradiction λc=> ?_;have:D*(x-y)<0:=ach D0 (by omega);omega
noncomputable def mz(i:Int):Nat:=(2*i-1).natAbs
theorem Qu(i:Int):0<mz i:=by unfold mz;omega
theorem KG{i:Int}(h:2<=i):mz (i-1)<mz i:=by unfold mz;omega
theorem KH{i:Int}(h:i<= -1):mz (i+1)<mz i:=by unfold mz;omega
theorem Gb{a p b c u v S R:Int}(a0:0<a)(ab:a<=b)(h1: -a<=2*p)(h2:2*p<=a)(eS:S=b*u-p*v)(eR:R=a*v-p*u)(D0:0<a*b-p*p)(s0:0<=S)(s1:S<a*b-p*p)(r0:0<=R)(r1:R<a*b-p*p):
  ∀(n:Nat)(i j:Int),mz i+mz j<=n-> ∃i' j',(i'=0∨i'=1)/\(j'=0∨j'=1)/\gq a p b c u v i' j'<=gq a p b c u v i j
 |0,i,j,h=>absurd h (by have:=Qu i;(clear r1 r0 s1 s0 D0 eR eS h2 h1 ab a0;omega))
 |n+1,i,j,h=>by
  obtain⟨D,eD⟩:∃D,D=a*b-p*p:=⟨_,rfl⟩;have gi:=λi j=>Wm (i:=i) (j:=j) (c:=c) eS eR;have gj:=λi j=>Wn (i:=i) (j:=j) (c:=c) eS eR;rw[<-eD]at D0 s1 r1 gi gj;have fO:=Gb (c:=c) a0 ab h1 h2 eS eR (eD▸D0) s0 (eD▸s1) r0 (eD▸r1) n;obtain⟨X,eX⟩:∃X,X=D*i-S:=⟨_,rfl⟩;obtain⟨Y,eY⟩:∃Y,Y=D*j-R:=⟨_,rfl⟩;have i2:2<=i->D<=X:=λh=>by
   have:=aal h (aas D0)
   (clear h eY fO gj gi D0 r1 r0 s0 eR h2 h1 ab a0;omega)
  have i1:i<= -1->D<= -X:=λh=>by
   have:=aal h (aas D0)
   (clear h i2 eY fO gj gi D0 s1 r1 r0 eR h2 h1 ab a0;omega)
  have j2:2<=j->D<=Y:=λh=>by
   have:=aal h (aas D0)
   (clear h i1 i2 eX fO gj gi D0 s1 r0 s0 eS h2 h1 ab a0;omega)
  have j1:j<= -1->D<= -Y:=λh=>by
   have:=aal h (aas D0)
   (clear h j2 i1 i2 eX fO gj gi D0 s1 r1 s0 eS h2 h1 ab a0;omega)
  have ii:(i=0∨i=1) -> -D<=X/\X<=D:=λh=>by rcases h with rfl|rfl<;>simp at eX<;>(clear i1 i2 h j1 j2 eY fO gj gi D0 r1 r0 eR h2 h1 ab a0;omega)
  have jj:(j=0∨j=1) -> -D<=Y/\Y<=D:=λh=>by rcases h with rfl|rfl<;>simp at eY<;>(clear j1 j2 h ii i1 i2 eX fO gj gi D0 s1 s0 eS h2 h1 ab a0;omega)
  have qi:(2<=i/\ -X<=Y/\Y<=X) ->gq a p b c u v (i-1) j<=gq a p b c u v i j:=λ ⟨k,l1,l2⟩=>by
   refine j6 D0 ?_;rw[gi i j,<-eX,<-eY];exact vK (aas a0) h1 h2 (i2 k) l1 l2
  have iF:(i<= -1/\X<=Y/\Y<= -X) ->gq a p b c u v (i+1) j<=gq a p b c u v i j:=λ ⟨k,l1,l2⟩=>by
   refine j6 D0 ?_;have g:=gi (i+1) j;rw[show i+1-1=i by omega,<-eY]at g;have s:=vK (d:=D) (X:= -X) (Y:= -Y) (aas a0) h1 h2 (i1 k) (by(clear g l2 l1 k qi jj ii j1 j2 i1 i2 eY eX fO gj gi eD D0 s1 r1 h r0 s0 eR eS h2 h1 ab a0;omega)) (by omega);have e:D*(gq a p b c u v i j-gq a p b c u v (i+1) j)=a*(2* -X-D)+2*p* -Y:=by
    have:D*(gq a p b c u v i j-gq a p b c u v (i+1) j)= -(D*(gq a p b c u v (i+1) j-gq a p b c u v i j)):=by grind
    rw[this,g,eX]
    grind
   rw[e];exact s
  have qj:(2<=j/\ -Y<=X/\X<=Y) ->gq a p b c u v i (j-1)<=gq a p b c u v i j:=λ ⟨k,l1,l2⟩=>by
   refine j6 D0 ?_;rw[gj i j,<-eX,<-eY];exact vK (by omega) (by omega) (by omega) (j2 k) l1 l2
  have iz:(j<= -1/\Y<=X/\X<= -Y) ->gq a p b c u v i (j+1)<=gq a p b c u v i j:=λ ⟨k,l1,l2⟩=>by
   refine j6 D0 ?_;have g:=gj i (j+1);rw[show j+1-1=j by omega,<-eX]at g;have s:=vK (a:=b) (p:=p) (d:=D) (X:= -Y) (Y:= -X) (by omega) (by omega) (by omega) (j1 k) (by omega) (by omega);have e:D*(gq a p b c u v i j-gq a p b c u v i (j+1))=b*(2* -Y-D)+2*p* -X:=by
    have:D*(gq a p b c u v i j-gq a p b c u v i (j+1))= -(D*(gq a p b c u v i (j+1) -gq a p b c u v i j)):=by grind
    rw[this,g,eY]
    grind
   rw[e];exact s
  by_cases ci:i=0∨i=1
  ·by_cases cj:j=0∨j=1
   ·exact⟨i,j,ci,cj,aaZ _⟩
   ·have:=ii ci
    rcases abH 1 j with k|k
    ·obtain⟨i',j',q1,q2,q3⟩:=fO i (j-1) (by have:=KG (show 2<=j by omega);(clear k cj ci iz qj iF qi jj ii j1 j2 i1 i2 eY eX fO gj gi eD D0 s1 r1 r0 s0 eR eS h2 h1 ab a0;omega))
     exact⟨i',j',q1,q2,aaB q3 (qj ⟨by omega,by have:=j2 (by omega);(clear q3 q2 q1 k cj ci iz qj iF qi jj ii j1 j2 i1 i2 eY eX fO gj gi D0 s1 r1 h r0 s0 eR eS h2 h1 ab a0;omega),by have:=j2 (by omega);(clear q3 q2 q1 k cj ci iz qj iF qi jj ii j1 j2 i1 i2 eY eX fO gj gi D0 s1 r1 h r0 s0 eR eS h2 h1 ab a0;omega)⟩)⟩
    ·obtain⟨i',j',q1,q2,q3⟩:=fO i (j+1) (by have:=KH (show j<= -1 by(clear this ci iz qj iF qi jj ii j1 j2 i1 i2 eY eX fO gj gi eD D0 s1 r1 h r0 s0 eR eS h2 h1 ab a0;omega));(clear k cj ci iz qj iF qi jj ii j1 j2 i1 i2 eY eX fO gj gi eD D0 s1 r1 r0 s0 eR eS h2 h1 ab a0;omega))
     exact⟨i',j',q1,q2,aaB q3 (iz ⟨by(clear q3 this ci iz qj iF qi jj ii j1 j2 i1 i2 eY eX fO gj gi eD D0 s1 r1 h r0 s0 eR eS h2 h1 ab a0;omega),by have:=j1 (by(clear q3 this ci iz qj iF qi jj ii j1 j2 i1 i2 eY eX fO gj gi eD D0 s1 r1 h r0 s0 eR eS h2 h1 ab a0;omega));(clear q3 q2 q1 k cj ci iz qj iF qi jj ii j1 j2 i1 i2 eY eX fO gj gi D0 s1 r1 h r0 s0 eR eS h2 h1 ab a0;omega),by have:=j1 (by(clear q3 this ci iz qj iF qi jj ii j1 j2 i1 i2 eY eX fO gj gi eD D0 s1 r1 h r0 s0 eR eS h2 h1 ab a0;omega));(clear q3 q2 q1 k cj ci iz qj iF qi jj ii j1 j2 i1 i2 eY eX fO gj gi D0 s1 r1 h r0 s0 eR eS h2 h1 ab a0;omega)⟩)⟩
  ·--i is to be moved,or j where it is UG off
   have xi:D<=X∨D<= -X:=by
    rcases abH 1 i with k|k
    ·exact .inl (i2 (by omega))
    ·exact .inr (i1 (by(clear iz qj iF qi jj ii j1 j2 i1 i2 eY eX fO gj gi eD D0 s1 r1 h r0 s0 eR eS h2 h1 ab a0;omega)))
   have Qv:(2<=i/\ -X<=Y/\Y<=X)∨(i<= -1/\X<=Y/\Y<= -X)∨(2<=j/\ -Y<=X/\X<=Y)∨(j<= -1/\Y<=X/\X<= -Y):=by
    have hi:2<=i∨i<= -1:=by(clear iz qj iF qi jj ii j1 j2 i1 i2 eY eX fO gj gi eD D0 s1 r1 h r0 s0 eR eS h2 h1 ab a0;omega)
    have hj:(j=0∨j=1)∨2<=j∨j<= -1:=by(clear hi xi ci iz qj iF qi jj ii j1 j2 i1 i2 eY eX fO gj gi eD D0 s1 r1 h r0 s0 eR eS h2 h1 ab a0;omega)
    rcases hi with hi|hi
    ·have:=i2 hi
     rcases hj with hj|hj|hj
     ·have:=jj hj
      exact .inl ⟨hi,by(clear hj hi xi ci iz qj iF qi jj ii j1 j2 i1 i2 eY eX fO gj gi D0 s1 r1 h r0 s0 eR eS h2 h1 ab a0;omega),by(clear hj hi xi ci iz qj iF qi jj ii j1 j2 i1 i2 eY eX fO gj gi D0 s1 r1 h r0 s0 eR eS h2 h1 ab a0;omega)⟩
     ·have:=j2 hj
      rcases abc X Y with w|w
      ·exact .inr (.inr (.inl ⟨hj,by(clear w hj hi xi ci iz qj iF qi jj ii j1 j2 i1 i2 eX fO gj gi D0 s1 h s0 eS h2 h1 ab a0;omega),w⟩))
      ·exact .inl ⟨hi,by(clear hj hi xi ci iz qj iF qi jj ii j1 j2 i1 i2 eX fO gj gi D0 s1 h s0 eS h2 h1 ab a0;omega),w⟩
     ·have:=j1 hj
      rcases abc X (-Y)with w|w
      ·exact .inr (.inr (.inr ⟨hj,by(clear w hj hi xi ci iz qj iF qi jj ii j1 j2 i1 i2 eX fO gj gi D0 s1 h s0 eS h2 h1 ab a0;omega),w⟩))
      ·exact .inl ⟨hi,by omega,by(clear hj hi xi ci iz qj iF qi jj ii j1 j2 i1 i2 eX fO gj gi D0 s1 h s0 eS h2 h1 ab a0;omega)⟩
    ·have:=i1 hi
     rcases hj with hj|hj|hj
     ·have:=jj hj
      exact .inr (.inl ⟨hi,by(clear hj hi xi ci iz qj iF qi jj ii j1 j2 i1 i2 eY eX fO gj gi D0 s1 r1 h r0 s0 eR eS h2 h1 ab a0;omega),by(clear hj hi xi ci iz qj iF qi jj ii j1 j2 i1 i2 eY eX fO gj gi D0 s1 r1 h r0 s0 eR eS h2 h1 ab a0;omega)⟩)
     ·have:=j2 hj
      rcases abc (-X) Y with w|w
      ·exact .inr (.inr (.inl ⟨hj,by omega,by(clear w hj hi xi ci iz qj iF qi jj ii j1 j2 i1 i2 eX fO gj gi D0 s1 h s0 eS h2 h1 ab a0;omega)⟩))
      ·exact .inr (.inl ⟨hi,by(clear hj hi xi ci iz qj iF qi jj ii j1 j2 i1 i2 eX fO gj gi D0 s1 h s0 eS h2 h1 ab a0;omega),w⟩)
     ·have:=j1 hj
      rcases abc (-X) (-Y)with w|w
      ·exact .inr (.inr (.inr ⟨hj,by omega,by(clear w hj hi xi ci iz qj iF qi jj ii j1 j2 i1 i2 eX fO gj gi D0 s1 h s0 eS h2 h1 ab a0;omega)⟩))
      ·exact .inr (.inl ⟨hi,by omega,by(clear hj hi xi ci iz qj iF qi jj ii j1 j2 i1 i2 eX fO gj gi D0 s1 h s0 eS h2 h1 ab a0;omega)⟩)
   rcases Qv with w|w|w|w
   ·obtain⟨i',j',q1,q2,q3⟩:=fO (i-1) j (by have:=KG w.1;(clear w xi ci iz qj iF qi jj ii j1 j2 i1 i2 eY eX fO gj gi eD D0 s1 r1 r0 s0 eR eS h2 h1 ab a0;omega))
    exact⟨i',j',q1,q2,aaB q3 (qi w)⟩
   ·obtain⟨i',j',q1,q2,q3⟩:=fO (i+1) j (by have:=KH w.1;(clear w xi ci iz qj iF qi jj ii j1 j2 i1 i2 eY eX fO gj gi eD D0 s1 r1 r0 s0 eR eS h2 h1 ab a0;omega))
    exact⟨i',j',q1,q2,aaB q3 (iF w)⟩
   ·obtain⟨i',j',q1,q2,q3⟩:=fO i (j-1) (by have:=KG w.1;(clear w xi ci iz qj iF qi jj ii j1 j2 i1 i2 eY eX fO gj gi eD D0 s1 r1 r0 s0 eR eS h2 h1 ab a0;omega))
    exact⟨i',j',q1,q2,aaB q3 (qj w)⟩
   ·obtain⟨i',j',q1,q2,q3⟩:=fO i (j+1) (by have:=KH w.1;(clear w xi ci iz qj iF qi jj ii j1 j2 i1 i2 eY eX fO gj gi eD D0 s1 r1 r0 s0 eR eS h2 h1 ab a0;omega))
    exact⟨i',j',q1,q2,aaB q3 (iz w)⟩
end L2
namespace L2
open PySem PySem.Spec PyProof.Rows
noncomputable def bL(m:List (List Int))(x y t:Nat->Int):Int:=aQ m y*au m x t-au m x y*au m y t
noncomputable def bO(m:List (List Int))(x y t:Nat->Int):Int:=aQ m x*au m y t-au m x y*au m x t
noncomputable abbrev aq(m:List (List Int))(x y:Nat->Int):Int:=aQ m x*aQ m y-au m x y*au m x y
noncomputable abbrev b8(t:Nat->Int)(i:Int)(x:Nat->Int)(j:Int)(y:Nat->Int):Nat->Int:=jt (jt t i x) j y
theorem sN{m:List (List Int)}(ev:br m)(x y t:Nat->Int)(i j:Int):bL m x y (b8 t i x j y)=bL m x y t-i*aq m x y/\bO m x y (b8 t i x j y)=bO m x y t-j*aq m x y:=by
 unfold bL bO b8 aq;rw[gI ev,gI ev,gI ev,gI ev,kh ev y x];constructor<;>grind
theorem sO{m:List (List Int)}(ev:br m)(x y t:Nat->Int):aq m x y*(aq m x y*aQ m t)=aq m x y*(aA m*(bW x y t*bW x y t))+(aQ m x*(bL m x y t*bL m x y t)+2*(au m x y*(bL m x y t*bO m x y t))+aQ m y*(bO m x y t*bO m x y t)):=by
 have g:=Wl ev x y t;show aq m x y*((aQ m x*aQ m y-au m x y*au m x y)*aQ m t)=_;rw[g];unfold bL bO aq;generalize aQ m x=A,aQ m y=B,au m x y=P,au m x t=u,au m y t=v;generalize aA m*(bW x y t*bW x y t)=D
 grind
theorem HH(m:List (List Int))(x y t:Nat->Int):aq m x y*au m x t=aQ m x*bL m x y t+au m x y*bO m x y t/\aq m x y*au m y t=au m x y*bL m x y t+aQ m y*bO m x y t:=by
 unfold bL bO aq;constructor<;>grind
structure Drawn(m:List (List Int))(x y t t':Nat->Int):Prop where
 det:bW x y t'=bW x y t
 le:aQ m t'<=aQ m t∨True
 s: -(aq m x y)<=bL m x y t'/\bL m x y t'<=aq m x y
 r: -(aq m x y)<=bO m x y t'/\bO m x y t'<=aq m x y
 few:4*(aq m x y*aQ m t')<=4*(aA m*(bW x y t*bW x y t))+3*(aq m x y*aQ m y)
 Ri:∀I J:Int,aQ m t'<=aQ m (b8 t' I x J y)
theorem Gd{A B P s r d:Int}(hA:0<=A)(hB:0<=B)(h1: -A<=2*P)(h2:2*P<=A)(s1: -d<=2*s)(s2:2*s<=d)(r1: -d<=2*r)(r2:2*r<=d):4*(A*(s*s)+2*(P*(s*r))+B*(r*r))<=(2*A+B)*(d*d):=by
 have hd:0<=d:=by(clear r2 r1 h2 h1 hB hA;omega)
 have ss:=mT s1 s2;have rr:=mT r1 r2;have e1:2*s*(2*s)=4*(s*s):=by grind
 have e2:2*r*(2*r)=4*(r*r):=by grind
 rw[e1]at ss;rw[e2]at rr;have sr:2*P*(2*s*(2*r))<=A*(d*d):=by
  have ab:∀a b c e:Int,-c<=a->a<=c-> -e<=b->b<=e->a*b<=c*e:=λa b c e h1 h2 h3 h4=>by
   have k1:=Rg (show 0<=c-a by omega) (show 0<=e+b by(clear h4 h2 h1 e2 e1 rr ss hd r2 r1 s2 s1 hB hA;omega));have k2:=Rg (show 0<=c+a by(clear k1 h4 h3 h2 e2 e1 rr ss hd r2 r1 s2 s1 hB hA;omega)) (show 0<=e-b by omega);have e3:(c-a)*(e+b)+(c+a)*(e-b)=2*(c*e) -2*(a*b):=by grind
   (clear h4 h3 h2 h1 e2 e1 rr ss hd r2 r1 s2 s1 hB hA;omega)
  have DP:∀a b c e:Int,-c<=a->a<=c-> -e<=b->b<=e-> -(c*e)<=a*b:=λa b c e h1 h2 h3 h4=>by
   have:=ab (-a) b c e (by(clear h4 h3 h1 ab e2 e1 rr ss hd r2 r1 s2 s1 hB hA;omega)) (by(clear h4 h3 h2 ab e2 e1 rr ss hd r2 r1 s2 s1 hB hA;omega)) h3 h4;have e3: -a*b= -(a*b):=by grind
   (clear h4 h3 h2 h1 ab e2 e1 rr ss hd r2 r1 s2 s1 hB hA;omega)
  exact ab _ _ _ _ h1 h2 (DP _ _ _ _ s1 s2 r1 r2) (ab _ _ _ _ s1 s2 r1 r2)
 have f1:=aal ss hA;have f2:=aal rr hB;have e3:4*(A*(s*s)+2*(P*(s*r))+B*(r*r))=A*(4*(s*s))+2*P*(2*s*(2*r))+B*(4*(r*r)):=by grind
 have e4:(2*A+B)*(d*d)=A*(d*d)+A*(d*d)+B*(d*d):=by grind
 (clear e2 e1 rr ss hd r2 r1 s2 s1 h2 h1 hB hA;omega)
theorem KI{m:List (List Int)}(ev:br m)(x y t:Nat->Int)(i j:Int):aQ m (b8 t i x j y)=gq (aQ m x) (au m x y) (aQ m y) (aQ m t) (au m x t) (au m y t) i j:=by
 unfold b8 gq;rw[rE ev,rE ev,gI ev,kh ev y x]
 grind
theorem sP(t x y:Nat->Int)(i j I J:Int):b8 (b8 t i x j y) I x J y=b8 t (i+I) x (j+J) y:=by
 funext k
 show t k-i*x k-j*y k-I*x k-J*y k=t k- (i+I)*x k- (j+J)*y k
 grind
theorem Qw{m:List (List Int)}(ev:br m){x y t:Nat->Int}(h:nE m x y){i j:Int}
  (least:∀i' j',(i'=bL m x y t/aq m x y∨i'=bL m x y t/aq m x y+1) ->(j'=bO m x y t/aq m x y∨j'=bO m x y t/aq m x y+1) ->aQ m (b8 t i x j y)<=aQ m (b8 t i' x j' y)):∀I J:Int,aQ m (b8 t i x j y)<=aQ m (b8 (b8 t i x j y) I x J y):=λI J=>by
 obtain⟨_,ap⟩:=h.Aa;have ki:0<aq m x y:=ap;obtain⟨i0,ei⟩:∃i0,i0=bL m x y t/aq m x y:=⟨_,rfl⟩;obtain⟨j0,ej⟩:∃j0,j0=bO m x y t/aq m x y:=⟨_,rfl⟩;rw[<-ei,<-ej]at least;have fl:=sN ev x y t i0 j0;have sS:bL m x y (b8 t i0 x j0 y)=bL m x y t%aq m x y:=by
  rw[fl.1,ei,Int.emod_def,abb]
 have sR:bO m x y (b8 t i0 x j0 y)=bO m x y t%aq m x y:=by
  rw[fl.2,ej,Int.emod_def,abb]
 have s0:=abq (bL m x y t) (show aq m x y≠0 by omega);have s1:=abr (bL m x y t) ki;have r0:=abq (bO m x y t) (show aq m x y≠0 by omega);have r1:=abr (bO m x y t) ki;obtain⟨i',j',q1,q2,q3⟩:=Gb (c:=aQ m (b8 t i0 x j0 y)) h.pos h.le h.lo h.hi (u:=au m x (b8 t i0 x j0 y)) (v:=au m y (b8 t i0 x j0 y)) (S:=bL m x y t%aq m x y) (R:=bO m x y t%aq m x y) sS.symm sR.symm ki s0 s1 r0 r1 _ (i+I-i0) (j+J-j0) (aav _);rw[<-KI ev,<-KI ev,sP,sP,show i0+(i+I-i0)=i+I by omega,show j0+(j+J-j0)=j+J by omega]at q3;rw[sP];exact aaB (least (i0+i') (j0+j') (by(clear q3 r1 r0 s1 s0 sR sS fl ej least ei ki ap;omega)) (by(clear q3 q1 r1 r0 s1 s0 sR sS fl ej least ei ki ap;omega))) q3
theorem KJ{m:List (List Int)}(ev:br m){x y t:Nat->Int}(h:nE m x y){i j:Int}(i0:i=bL m x y t/aq m x y∨i=bL m x y t/aq m x y+1)(j0:j=bO m x y t/aq m x y∨j=bO m x y t/aq m x y+1)
  (least:∀i' j',(i'=bL m x y t/aq m x y∨i'=bL m x y t/aq m x y+1) ->(j'=bO m x y t/aq m x y∨j'=bO m x y t/aq m x y+1) ->aQ m (b8 t i x j y)<=aQ m (b8 t i' x j' y)):Drawn m x y t (b8 t i x j y):=by
 obtain⟨_,ap⟩:=h.Aa;have fl:=sN ev x y t;have em:=λz:Int=>acd z (aq m x y);have lo:=λz:Int=>abq z (show aq m x y≠0 by show aQ m x*aQ m y-au m x y*au m x y≠0;omega);have up:=λz:Int=>abr z (show 0<aq m x y from ap);have ki:0<aq m x y:=ap;have near:∀{z k:Int},(k=z/aq m x y∨k=z/aq m x y+1) -> -(aq m x y)<=z-k*aq m x y/\z-k*aq m x y<=aq m x y:=λ {z k} hk=>by
  have e:=em z;have l:=lo z;have u:=up z;rcases hk with rfl|rfl
  ·generalize aq m x y=d at e l u ⊢
   have e2:z/d*d=d*(z/d):=abb ..;omega
  ·generalize aq m x y=d at e l u ⊢
   have e2:(z/d+1)*d=d*(z/d)+d:=by rw[adU,abU,abb]
   omega
 have half:∀z:Int,∃k,(k=z/aq m x y∨k=z/aq m x y+1)/\ -(aq m x y)<=2*(z-k*aq m x y)/\2*(z-k*aq m x y)<=aq m x y:=λz=>by
  have e:=em z;have l:=lo z;have u:=up z
  by_cases c:2*(z%aq m x y)<=aq m x y
  ·refine⟨_,.inl rfl,?_⟩
   generalize aq m x y=d at e l u c ⊢;have e2:z/d*d=d*(z/d):=abb ..;omega
  ·refine⟨_,.inr rfl,?_⟩
   generalize aq m x y=d at e l u c ⊢;have e2:(z/d+1)*d=d*(z/d)+d:=by rw[adU,abU,abb]
   (clear near ki up lo em fl ap least j0 i0;omega)
 have hn:=near i0;have hr:=near j0;refine⟨qh _ _ _ _ _,.inr trivial,by rw[(fl i j).1];exact hn,by rw[(fl i j).2];exact hr,?_,Qw ev h least⟩;obtain⟨i1,hi1,s1,s2⟩:=half (bL m x y t);obtain⟨j1,hj1,r1,r2⟩:=half (bO m x y t);have best:=least i1 j1 hi1 hj1;rw[<- (fl i1 j1).1]at s1 s2;rw[<- (fl i1 j1).2]at r1 r2;have g:=sO ev x y (b8 t i1 x j1 y);have dt:bW x y (b8 t i1 x j1 y)=bW x y t:=qh _ _ _ _ _;rw[dt]at g;have q:=Gd (aas h.pos) (aaB (aas h.pos) h.le) h.lo h.hi s1 s2 r1 r2;have uK:2*aQ m x+aQ m y<=3*aQ m y:=by have:=h.le;(clear q dt g best r2 r1 hj1 s1 s2 hi1 hr hn half near ki up lo em fl ap least j0 i0;omega)
 have q2:=aan uK (bI (aq m x y));have TF:=aal best (aas ki);generalize aQ m x*(bL m x y (b8 t i1 x j1 y)*bL m x y (b8 t i1 x j1 y))+2*(au m x y*(bL m x y (b8 t i1 x j1 y)*bO m x y (b8 t i1 x j1 y)))+aQ m y*(bO m x y (b8 t i1 x j1 y)*bO m x y (b8 t i1 x j1 y))=qq at g q;have fin:aq m x y*(4*(aq m x y*aQ m (b8 t i1 x j1 y)))<=aq m x y*(4*(aA m*(bW x y t*bW x y t))+3*(aq m x y*aQ m y)):=by
  have e1:aq m x y*(4*(aq m x y*aQ m (b8 t i1 x j1 y)))=4*(aq m x y*(aq m x y*aQ m (b8 t i1 x j1 y))):=by grind
  have e2:aq m x y*(4*(aA m*(bW x y t*bW x y t))+3*(aq m x y*aQ m y))=4*(aq m x y*(aA m*(bW x y t*bW x y t)))+3*aQ m y*(aq m x y*aq m x y):=by grind
  rw[e1,e2,g]
  (clear e1 g TF uK dt best r2 r1 hj1 s1 s2 hi1 hr hn half near ki up lo em fl ap least j0 i0;omega)
 have:=aaW fin ki
 (clear fin q g q2 uK dt best r2 r1 hj1 s1 s2 hi1 hr hn half near ki up lo em fl ap least j0 i0;omega)
theorem HJ{m:List (List Int)}(ev:br m){x y t:Nat->Int}(h:nE m x y){i j:Int}(i0:i=bL m x y t/aq m x y∨i=bL m x y t/aq m x y+1)(j0:j=bO m x y t/aq m x y∨j=bO m x y t/aq m x y+1)(D0:0<=aA m):
  aQ m (b8 t i x j y)<=aA m*(bW x y t*bW x y t)+3*aQ m y:=by
 obtain⟨_,ap⟩:=h.Aa;have fl:=sN ev x y t;have ki:0<aq m x y:=ap;have near:∀{z k:Int},(k=z/aq m x y∨k=z/aq m x y+1) -> -(2*aq m x y)<=2*(z-k*aq m x y)/\2*(z-k*aq m x y)<=2*aq m x y:=λ {z k} hk=>by
  have e:=acd z (aq m x y);have l:=abq z (show aq m x y≠0 by omega);have u:=abr z ki;rcases hk with rfl|rfl
  ·generalize aq m x y=d at e l u ⊢
   have e2:z/d*d=d*(z/d):=abb ..
   (clear ki fl ap D0 j0 i0;omega)
  ·generalize aq m x y=d at e l u ⊢
   have e2:(z/d+1)*d=d*(z/d)+d:=by rw[adU,abU,abb]
   (clear ki fl ap D0 j0 i0;omega)
 have s:=near i0;have r:=near j0;rw[<- (fl i j).1]at s;rw[<- (fl i j).2]at r;have g:=sO ev x y (b8 t i x j y);have dt:bW x y (b8 t i x j y)=bW x y t:=qh _ _ _ _ _;rw[dt]at g;have q:=Gd (aas h.pos) (aaB (aas h.pos) h.le) h.lo h.hi s.1 s.2 r.1 r.2;generalize aQ m x*(bL m x y (b8 t i x j y)*bL m x y (b8 t i x j y))+2*(au m x y*(bL m x y (b8 t i x j y)*bO m x y (b8 t i x j y)))+aQ m y*(bO m x y (b8 t i x j y)*bO m x y (b8 t i x j y))=qq at g q;have uK:2*aQ m x+aQ m y<=3*aQ m y:=by have:=h.le;(clear q g dt r s near ki fl ap D0 j0 i0;omega)
 have q2:=aan uK (bI (aq m x y));have DD:=Rg D0 (bI (bW x y t));generalize aA m*(bW x y t*bW x y t)=dd at g DD ⊢;have e3:(2*aQ m x+aQ m y)*(2*aq m x y*(2*aq m x y))=4*((2*aQ m x+aQ m y)*(aq m x y*aq m x y)):=by grind
 rw[e3]at q;have fin:aq m x y*(aq m x y*aQ m (b8 t i x j y))<=aq m x y*(aq m x y*(dd+3*aQ m y)):=by
  rw[g];have e1:aq m x y*(aq m x y*(dd+3*aQ m y))=aq m x y*(aq m x y*dd)+3*aQ m y*(aq m x y*aq m x y):=by grind
  have m1:aq m x y*dd<=aq m x y*(aq m x y*dd):=aal (by
   have:=aan (show(1:Int)<=aq m x y by omega) DD
   (clear e1 e3 DD g q2 uK q dt r s near ki fl ap D0 j0 i0;omega)) (aas ki)
  (clear e3 DD uK dt r s near ki fl ap D0 j0 i0;omega)
 exact aaW (aaW fin ki) ki
theorem KL{α:Type}{a b:α}{l:List α}(h:l.Perm [a,b]):l=[a,b]∨l=[b,a]:=by
 match l,h.length_eq with
 | [p,q],_=>
  have hp:p∈ [a,b]:=h.mem_iff.mp (by simp);simp only[aar,aaJ,or_false]at hp;rcases hp with rfl|rfl
  ·left
   have:=(acE p).mp h;rw[adV.mp this]
  ·right
   have h2: [p,q].Perm [p,a]:=h.trans (List.Perm.swap p a []);have:=(acE p).mp h2;rw[adV.mp this]
theorem OM{α:Type}{a b c:α}{l:List α}(h:l.Perm [a,b,c]):l=[a,b,c]∨l=[a,c,b]∨l=[b,a,c]∨l=[b,c,a]∨l=[c,a,b]∨l=[c,b,a]:=by
 match l,h.length_eq with
 |p::r,_=>
  have hp:p∈ [a,b,c]:=h.mem_iff.mp (by simp);simp only[aar,aaJ,or_false]at hp;rcases hp with rfl|rfl|rfl
  ·rcases KL ((acE p).mp h)with z|z<;>rw[z]<;>simp
  ·have h2:(p::r).Perm [p,a,c]:=h.trans (List.Perm.swap p a [c])
   rcases KL ((acE p).mp h2)with z|z<;>rw[z]<;>simp
  ·have h2:(p::r).Perm [p,a,b]:=h.trans (((List.Perm.swap p b []).cons a).trans (List.Perm.swap p a [b]))
   rcases KL ((acE p).mp h2)with z|z<;>rw[z]<;>simp
theorem HK{α:Type}{a b c p q r:α}(X:α->Nat->Int)(h: [p,q,r].Perm [a,b,c]):bW (X p) (X q) (X r)=bW (X a) (X b) (X c)∨bW (X p) (X q) (X r)= -bW (X a) (X b) (X c):=by
 rcases OM h with z|z|z|z|z|z<;>injection z with e1 z<;>injection z with e2 z<;>injection z with e3 z<;>subst e1 e2 e3<;>unfold bW
 ·left;rfl
 ·right;grind
 ·right;grind
 ·left;grind
 ·left;grind
 ·right;grind
theorem iM{H:Hp}{b:Addr}{x:Nat->Int}(h:bJ H b x):∀i,i<3->aL (dR H b) i=x i:=λi hi=>by
 have h:H b=some (.lst [.int (x 0),.int (x 1),.int (x 2)]):=h;unfold dR;rw[h];rcases aW hi with rfl|rfl|rfl<;>rfl
theorem Ab{H:Hp}{b:Addr}{x:Nat->Int}(h:bJ H b x):bJ H b (aL (dR H b)):=by
 show H b=some (.lst [.int (aL (dR H b) 0),.int (aL (dR H b) 1),.int (aL (dR H b) 2)]);rw[iM h 0 (by decide),iM h 1 (by decide),iM h 2 (by decide)];exact h
structure Ge(m:List (List Int))(x y t:Nat->Int):Prop where
 pair:nE m x y
 le:aQ m y<=aQ m t
 unit:bW x y t=1∨bW x y t= -1
 few:3*(aQ m x*aQ m y*aQ m t)<=16*aA m
 Ri:∀I J:Int,aQ m t<=aQ m (b8 t I x J y)
 hgt:4*(aq m x y*aQ m t)<=4*aA m+3*(aq m x y*aQ m y)
 u: -(2*aQ m x)<=au m x t/\au m x t<=2*aQ m x
 v: -(2*aQ m y)<=au m y t/\au m y t<=2*aQ m y
theorem ND{m:List (List Int)}{x y t t':Nat->Int}(h:nE m x y)(d:Drawn m x y t t')(un:bW x y t=1∨bW x y t= -1)(le:aQ m y<=aQ m t'):Ge m x y t':=by
 obtain⟨ar,ap⟩:=h.Aa;have ki:0<aq m x y:=ap;have one:bW x y t*bW x y t=1:=by rcases un with z|z<;>rw[z]<;>decide
 have f:=d.few;rw[one,adO]at f;have g:=aal le (aas ki);have ht:0<=aQ m t':=by have:=h.pos;have:=h.le;(clear g f one ki ap ar un;omega)
 have k:=aan ar ht;obtain⟨p1,p2⟩:=HH m x y t';have cancel:∀{a b c:Int},aq m x y*a<=aq m x y*b->a<=b:=λh=>aaW h ki;have ab:∀a b c e:Int,-c<=a->a<=c-> -e<=b->b<=e->a*b<=c*e:=λa b c e h1 h2 h3 h4=>by
  have k1:=Rg (show 0<=c-a by(clear h4 h3 h1 cancel p2 p1 k ht g f one ki ap ar le un;omega)) (show 0<=e+b by(clear h4 h2 h1 cancel p2 p1 k ht g f one ki ap ar le un;omega));have k2:=Rg (show 0<=c+a by(clear k1 h4 h3 h2 cancel p2 p1 k ht g f one ki ap ar le un;omega)) (show 0<=e-b by(clear k1 h3 h2 h1 cancel p2 p1 k ht g f one ki ap ar le un;omega));have e3:(c-a)*(e+b)+(c+a)*(e-b)=2*(c*e) -2*(a*b):=by grind
  (clear h4 h3 h2 h1 cancel p2 p1 k ht g f one ki ap ar le un;omega)
 have DP:∀a b c e:Int,-c<=a->a<=c-> -e<=b->b<=e-> -(c*e)<=a*b:=λa b c e h1 h2 h3 h4=>by
  have:=ab (-a) b c e (by(clear h4 h3 h1 ab cancel p2 p1 k ht g f one ki ap ar le un;omega)) (by(clear h4 h3 h2 ab cancel p2 p1 k ht g f one ki ap ar le un;omega)) h3 h4;have e3: -a*b= -(a*b):=by grind
  (clear h4 h3 h2 h1 ab cancel p2 p1 k ht g f one ki ap ar le un;omega)
 have Ap:=h.pos;have Bp:0<aQ m y:=Int.lt_of_lt_of_le h.pos h.le;have pl: -(aQ m x)<=au m x y/\au m x y<=aQ m x:=by have:=h.lo;have:=h.hi;(clear Bp Ap DP ab cancel p2 p1 k ht g f one ki ap ar le un;omega)
 have KN: -(aQ m y)<=au m x y/\au m x y<=aQ m y:=by have:=h.le;(clear Bp Ap DP ab cancel p2 p1 k ht g f one ki ap ar le un;omega)
 have s1:=ab (aQ m x) (bL m x y t') (aQ m x) (aq m x y) (by(clear KN pl Bp DP ab cancel p2 p1 k ht g f one ki ap ar le un;omega)) (aaZ _) d.s.1 d.s.2;have s2:=DP (aQ m x) (bL m x y t') (aQ m x) (aq m x y) (by(clear s1 KN pl Bp DP ab cancel p2 p1 k ht g f one ki ap ar le un;omega)) (aaZ _) d.s.1 d.s.2;have s3:=ab (au m x y) (bO m x y t') (aQ m x) (aq m x y) pl.1 pl.2 d.r.1 d.r.2;have s4:=DP (au m x y) (bO m x y t') (aQ m x) (aq m x y) pl.1 pl.2 d.r.1 d.r.2;have r1:=ab (au m x y) (bL m x y t') (aQ m y) (aq m x y) KN.1 KN.2 d.s.1 d.s.2;have r2:=DP (au m x y) (bL m x y t') (aQ m y) (aq m x y) KN.1 KN.2 d.s.1 d.s.2;have r3:=ab (aQ m y) (bO m x y t') (aQ m y) (aq m x y) (by omega) (aaZ _) d.r.1 d.r.2;have r4:=DP (aQ m y) (bO m x y t') (aQ m y) (aq m x y) (by omega) (aaZ _) d.r.1 d.r.2;refine⟨h,le,by rw[d.det];exact un,?_,d.Ri,f,⟨?_,?_⟩,?_,?_⟩
 ·have e1:3*(aQ m x*aQ m y)*aQ m t'=3*(aQ m x*aQ m y*aQ m t'):=by grind
  have e2:4*(aQ m x*aQ m y-au m x y*au m x y)*aQ m t'=4*(aq m x y*aQ m t'):=by show _=4*((aQ m x*aQ m y-au m x y*au m x y)*aQ m t');grind
  (clear r4 r3 r2 r1 s4 s3 s2 s1 KN pl Bp Ap DP ab cancel p2 p1 ht one ki ap ar le un;omega)
 ·refine cancel (c:=0) ?_
  rw[p1];have e:aq m x y* -(2*aQ m x)= -(2*(aQ m x*aq m x y)):=by grind
  (clear r4 r3 r2 r1 s3 s1 KN pl Bp Ap DP ab cancel p2 p1 k ht g f one ki ap ar le un;omega)
 ·refine cancel (c:=0) ?_
  rw[p1];have e:aq m x y*(2*aQ m x)=2*(aQ m x*aq m x y):=by grind
  (clear r4 r3 r2 r1 s4 s2 KN pl Bp Ap DP ab cancel p2 p1 k ht g f one ki ap ar le un;omega)
 ·refine cancel (c:=0) ?_
  rw[p2];have e:aq m x y* -(2*aQ m y)= -(2*(aQ m y*aq m x y)):=by grind
  (clear r3 r1 s4 s3 s2 s1 KN pl Bp Ap DP ab cancel p2 p1 k ht g f one ki ap ar le un;omega)
 ·refine cancel (c:=0) ?_
  rw[p2];have e:aq m x y*(2*aQ m y)=2*(aQ m y*aq m x y):=by grind
  (clear r4 r2 s4 s3 s2 s1 KN pl Bp Ap DP ab cancel p2 p1 k ht g f one ki ap ar le un;omega)
theorem KO{x y z x' y' z':Nat->Int}(hx:∀i,i<3->x i=x' i)(hy:∀i,i<3->y i=y' i)(hz:∀i,i<3->z i=z' i):bW x y z=bW x' y' z':=by
 unfold bW;rw[hx 0 (by decide),hx 1 (by decide),hx 2 (by decide),hy 0 (by decide),hy 1 (by decide),hy 2 (by decide),hz 0 (by decide),hz 1 (by decide),hz 2 (by decide)]
theorem wQ(m:List (List Int)){i:Nat}(hi:i<3):aQ m (yV i 1)=ent m i i:=by
 show au m _ _=_;rw[aT];unfold yV;rcases aW hi with rfl|rfl|rfl<;>simp
theorem Qx{m:List (List Int)}(ev:br m){a b c:Addr}{X:Addr->Nat->Int}{zs:List Addr}(h:zs.Perm [a,b,c])(so:zs.Pairwise λa b=>cN m (X a)<=cN m (X b)):
  ∃p q r,zs=[p,q,r]/\p∈ [a,b,c]/\q∈ [a,b,c]/\r∈ [a,b,c]/\(bW (X p) (X q) (X r)=bW (X a) (X b) (X c)∨bW (X p) (X q) (X r)= -bW (X a) (X b) (X c))/\aQ m (X p)+aQ m (X q)<=aQ m (X a)+aQ m (X c):=by
 match zs,h.length_eq with
 | [p,q,r],_=>
  refine⟨p,q,r,rfl,h.mem_iff.mp (by simp),h.mem_iff.mp (by simp),h.mem_iff.mp (by simp),HK X h,?_⟩;have e:=λd=>fV ev (X d);have ea:=e a;have eb:=e b;have ec:=e c;simp only[ab7,aar,aaJ,or_false,forall_eq_or_imp,forall_eq]at so;show au m _ _+au m _ _<=au m _ _+au m _ _;rcases OM h with z|z|z|z|z|z<;>injection z with e1 z<;>injection z with e2 z<;>injection z with e3 z<;>subst e1 e2 e3<;>omega
structure gJ(N:List (List Int)):Prop where
 uO:aY N
 ev:br N
 ab:bQ N=true
 pos:0<ent N 0 0
 CN:ent N 0 0<=ent N 1 1
 Gf:ent N 1 1<=ent N 2 2
 p: -(ent N 0 0)<=2*ent N 0 1/\2*ent N 0 1<=ent N 0 0
 u: -(2*ent N 0 0)<=ent N 0 2/\ent N 0 2<=2*ent N 0 0
 v: -(2*ent N 1 1)<=ent N 1 2/\ent N 1 2<=2*ent N 1 1
 few:3*(ent N 0 0*ent N 1 1*ent N 2 2)<=16*aA N
 Ri:∀v:Nat->Int,v 2=1->ent N 2 2<=aQ N v
 hgt:4*((ent N 0 0*ent N 1 1-ent N 0 1*ent N 0 1)*ent N 2 2)<=4*aA N+3*((ent N 0 0*ent N 1 1-ent N 0 1*ent N 0 1)*ent N 1 1)
theorem pF(x y z:Nat->Int){j:Nat}(hj:j<3):ent (eK x y z) 0 j=x j/\ent (eK x y z) 1 j=y j/\ent (eK x y z) 2 j=z j:=⟨cZ _ (by decide) hj,cZ _ (by decide) hj,cZ _ (by decide) hj⟩
theorem DQ{m:List (List Int)}(ev:br m)(c:aY m)(ab:bQ m=true){x y z:Nat->Int}(h:Ge m x y z):gJ (aX m (eK x y z))/\(aA (eK x y z)=1∨aA (eK x y z)= -1)/\aA (aX m (eK x y z))=aA m:=by
 have hS:=fG ev c;have un:cy (aA (eK x y z)):=by rw[HE];exact h.unit
 have c3:aY (eK x y z):=cJ _;have e:∀i j,i<3->j<3->ent (aX m (eK x y z)) i j=au m (λk=>ent (eK x y z) i k) (λk=>ent (eK x y z) j k):=λi j hi hj=>jr m _ hi hj;have r0:∀k,k<3->ent (eK x y z) 0 k=x k:=λk hk=>(pF x y z hk).1;have r1:∀k,k<3->ent (eK x y z) 1 k=y k:=λk hk=>(pF x y z hk).2.1;have r2:∀k,k<3->ent (eK x y z) 2 k=z k:=λk hk=>(pF x y z hk).2.2;have Rj:ent (aX m (eK x y z)) 0 0=aQ m x:=(e 0 0 (by decide) (by decide)).trans (eH r0 r0);have TH:ent (aX m (eK x y z)) 1 1=aQ m y:=(e 1 1 (by decide) (by decide)).trans (eH r1 r1);have UH:ent (aX m (eK x y z)) 2 2=aQ m z:=(e 2 2 (by decide) (by decide)).trans (eH r2 r2);have z9:ent (aX m (eK x y z)) 0 1=au m x y:=(e 0 1 (by decide) (by decide)).trans (eH r0 r1);have DL:ent (aX m (eK x y z)) 0 2=au m x z:=(e 0 2 (by decide) (by decide)).trans (eH r0 r2);have DM:ent (aX m (eK x y z)) 1 2=au m y z:=(e 1 2 (by decide) (by decide)).trans (eH r1 r2);have dt:=wG (m:=m) un;refine⟨⟨(show aY (fY (fY (eK x y z) m) (dI (eK x y z)))from cJ _),r9 ev c c3,qc hS ab c3 un,?_,?_,?_,?_,?_,?_,?_,?_,?_⟩,un,dt⟩
 ·rw[Rj];exact h.pair.pos
 ·rw[Rj,TH];exact h.pair.le
 ·rw[TH,UH];exact h.le
 ·rw[Rj,z9];exact⟨h.pair.lo,h.pair.hi⟩
 ·rw[Rj,DL];exact h.u
 ·rw[TH,DM];exact h.v
 ·rw[Rj,TH,UH,dt];exact h.few
 ·intro v hv
  have c:=h.Ri (-v 0) (-v 1);rw[UH];refine aaB c (Int.le_of_eq ?_);rw[show aQ (aX m (eK x y z)) v=aQ m (wF v (eK x y z))from yQ m (eK x y z) v v];refine eH (λi hi=> ?_) (λi hi=> ?_)<;>
  ·show z i- -v 0*x i- -v 1*y i=v 0*ent (eK x y z) 0 i+v 1*ent (eK x y z) 1 i+v 2*ent (eK x y z) 2 i
   rw[r0 i hi,r1 i hi,r2 i hi,hv]
   grind
 ·rw[Rj,TH,UH,z9,dt];exact h.hgt
theorem KP{m:List (List Int)}{x y z:Nat->Int}(h:Ge m x y z):3*aQ m x<=16*aA m/\3*aQ m y<=16*aA m/\3*aQ m z<=16*aA m:=by
 have p:=h.pair.pos;have q:=h.pair.le;have r:=h.le;have f:=h.few;have k1:aQ m y<=aQ m x*aQ m y:=by
  have:=aan (show 1<=aQ m x by omega) (show 0<=aQ m y by omega)
  (clear f r q p;omega)
 have k2:1*aQ m z<=aQ m x*aQ m y*aQ m z:=aan (by(clear f r;omega)) (by omega)
 (clear k1 p;omega)
end L2
namespace zW
open PySem PyProof.Rows
section
variable{prog:Program}{w:World}{A:Around}{E:Value->Shared->Prop}{s:Shared}{κ:SortKind}{K:Keyed->Int}{D:Keyed->Prop}{st:SortSt}
theorem NF(hL:rq prog w A E s κ K D){Q:Unit->SortSt->Prop}(B:SB κ D st)(hp:pendingOf st= #[])(h64:(arrOf st).size<64)
  (hq:∀st',(arrOf st').Perm (arrOf st) ->failedOf st'=none->So K (arrOf st') 0 (arrOf st).size->Q () st'):wpS (model prog w) A E s sortRuns' Q st:=by
 rw[Ks];refine wpS_bind (wpS_get ?_);dsimp only;have mr:minRun' (arrOf st).size (arrOf st).size 0=(arrOf st).size:=by
  cases h:(arrOf st).size with
  |zero=>rfl
  |succ k=>
   rw[minRun'_succ,if_pos (by omega)]
 rw[mr];refine wpS_bind (wpS_mono (wpS_forRange (I:=λx c s1=>(x=0/\c=(none,0)/\s1=st)∨(c=(none,(arrOf st).size)/\(arrOf s1).Perm (arrOf st)/\failedOf s1=none/\So K (arrOf s1) 0 (arrOf st).size/\(pendingOf s1).size=1))
  (Q:=λc s1=>c=(none,(arrOf st).size)/\(arrOf s1).Perm (arrOf st)/\failedOf s1=none/\So K (arrOf s1) 0 (arrOf st).size/\(pendingOf s1).size<=1) ?_ ?_ (.inl ⟨rfl,rfl,rfl⟩)) ?_)
 ·rintro x c s1 _ hx (⟨rfl,rfl,rfl⟩|⟨rfl,h⟩)
  ·dsimp only
   refine lK (λc=>by omega) (λ_=> ?_);refine wpS_bind (w_count hL B (by omega) (by omega) λn s2 S2 n1 n2 OL=> ?_);dsimp only;have Tn:=S2.size;have note:∀s3:SortSt,SC 0 s1 s3->So K (arrOf s3) 0 (arrOf s1).size-> ∀m,m=(arrOf s1).size-> ∀Q:ForInStep (Option Unit×Nat) ->SortSt->Prop,(∀s5,(arrOf s5).Perm (arrOf s1) ->failedOf s5=none->So K (arrOf s5) 0 (arrOf s1).size->(pendingOf s5).size=1->Q (.yield (none,(arrOf s1).size)) s5) ->wpS (model prog w) A E s (do
     modify λy=>setPending y ((pendingOf y).push (0,m,0))
     pure (ForInStep.yield ((none,0+m):Option Unit×Nat))) Q s3:=λs3 S3 IP m em Q hQ=>by
    subst em;rw[abe];refine wpS_bind (wpS_modify (wpS_pure (hQ _ S3.perm (S3.failed.trans B.failed) IP ?_)));show((pendingOf s3).push _).size=1;rw[S3.pend,hp]
    rfl
   by_cases hm:n<(arrOf s1).size
   ·rw[if_pos hm]
    refine wpS_bind (wpS_lift (wpAny_rule ⟨rfl,?_⟩));refine wpS_bind (OJ hL (B.sc S2) (by omega) (by(clear hm note n2 n1 hx hq h64 hp;omega)) OL λs3 S3 IP=> ?_);simp only[ad1,aaz,if_false];refine wpS_bind (wpS_get ?_);rw[(S2.trans S3).pend,hp];have em:min ((arrOf s1).size-0) (arrOf s1).size=(arrOf s1).size:=by omega
    rw[em]at IP;exact note s3 (S2.trans S3) IP _ em _ λs5 p f o q=> .inr ⟨rfl,p,f,o,q⟩
   ·rw[if_neg hm]
    have en:n=(arrOf s1).size:=by omega
    rw[en]at OL;refine wpS_bind (wpS_get ?_);rw[S2.pend,hp];exact note s2 S2 OL _ en _ λs5 p f o q=> .inr ⟨rfl,p,f,o,q⟩
  ·dsimp only
   exact lK (λ_=>wpS_pure ⟨rfl,h.1,h.2.1,h.2.2.1,abZ h.2.2.2⟩) (λc=>absurd (aav _) c)
 ·rintro c s1 (⟨h0,rfl,rfl⟩|⟨rfl,h⟩)
  ·have z:(arrOf s1).size=0:=by omega
   rw[z];exact⟨rfl,Array.Perm.refl _,B.failed,λi j _ h=>absurd h (acS _),by rw[hp];decide⟩
  ·exact⟨rfl,h.1,h.2.1,h.2.2.1,abZ h.2.2.2⟩
 ·rintro c s1 ⟨rfl,h1,h2,h3,h4⟩
  dsimp only;refine wpS_bind (wpS_mono (wpS_forRange (I:=λ_ c s2=>c=(none,())/\s2=s1) (Q:=λc s2=>c=(none,())/\s2=s1) ?_ (λ_ _ h=>h) ⟨rfl,rfl⟩) ?_)
  ·rintro x c s2 _ hx ⟨rfl,rfl⟩
   refine wpS_bind (wpS_get ?_);exact lK (λc=>wpS_pure ⟨rfl,rfl⟩) (λc=>absurd h4 c)
  ·rintro c s2 ⟨rfl,rfl⟩
   exact wpS_pure (hq _ h1 h2 h3)
end
end zW
namespace L2
open PySem PySem.Spec PyProof.Rows PySem.Calls zW
section
variable{prog:Program}{w:World}{A:Around}{E:Value->Shared->Prop}{s:Shared}
theorem NG{a kS:Addr}{P:PySem.Fin->Shared->Prop}{kf:V->Int}{ys:List V}{us:List Value}{keys:Array Value}{e1 e:Nat}(hk:rD kf ys us keys.toList)(hn:kS≠a)(hz:us.length<=sizeLine)(h64:us.length<64)
  (ha:s.heap.get? a=some (seqObj "list" #[] e1))(hS:s.heap.get? kS=some (seqObj "list" keys e))
  (h:∀(zs:List V)(out:List Value) h' tk,zs.Perm ys->zs.Pairwise (λx y=>kf x<=kf y) ->Vals zs out->out.length=us.length->(∀b o,b≠a->b≠kS->s.heap.get? b=some o->h'.get? b=some o) ->(∃c,h'.get? a=some (seqObj "list" out.toArray c)) ->(∃o,h'.get? kS=some o) ->
   P (.done (.ret .none)) {s with heap:=h',toks:=tk}):wpAny (model prog w) A (ksk_end a false us.toArray e1 (.ref kS) keys) P E s:=by
 have kl:keys.toList.length=us.length:=by
  have:∀{ys:List V}{us ks:List Value},rD kf ys us ks->ks.length=us.length:=λh=>by
   induction h with
   |nil=>rfl
   |cons t r _ ih=>simp[ih]
  exact this hk
 have kz:keys.size=us.length:=by rw[<-kl];exact(aaK ..).symm
 have XG:(keys.zip us.toArray).size=us.length:=by rw[Array.size_zip,kz,aaG,Nat.min_self]
 have zl:(keys.zip us.toArray).toList=keys.toList.zip us:=ksk_zip keys us;have tail:∀st:SortSt,(arrOf st).Perm (keys.zip us.toArray) ->failedOf st=none->So (λp=>numOf p.1) (arrOf st) 0 us.length->wpAny (model prog w) A (ksk_tail a false e1 (.ref kS) st) P E s:=by
  intro st hp hf hs;have pl:(arrOf st).toList.Perm (keys.toList.zip us):=by rw[<-zl];exact abu.mp hp
  obtain⟨tr,t1,t2,t3⟩:=hk.out;obtain⟨UI,p',e'⟩:=yZ pl tr t1;have len:(arrOf st).toList.length=us.length:=by rw[pl.length_eq,List.length_zip,kl,Nat.min_self]
  have oz:((arrOf st).map (·.2)).size=us.length:=by rw[Array.size_map,<-len,aaK]
  have oe:((arrOf st).map (·.2)).toList=UI.map λt=>t.1.2:=by
   rw[Array.toList_map,e',List.map_map]
   rfl
  unfold ksk_tail
  try dsimp only
  generalize(arrOf st).map (·.2)=ov at oz oe ⊢;refine wpAny_bind (listUpdate_at hS rfl ?_ (by omega) (aa3 _));refine wpAny_bind (wpAny_letGo ?_);have XH:=Heap.SameBut.update s.heap kS (Obj.mapSeq λ_=>(#[]:Array Value));have ha1:(s.heap.update kS (Obj.mapSeq λ_=>(#[]:Array Value))).get? a=some (seqObj "list" #[] e1):=(XH.2 a hn.symm).trans ha;have XI:=Heap.SameBut.update (s.heap.update kS (Obj.mapSeq λ_=>(#[]:Array Value))) a (Obj.mapSeq λ_=>ov);refine wpAny_bind (seqEpoch_at ha1 rfl ?_);refine wpAny_bind (listUpdate_at ha1 rfl ?_ (aa3 _) (aa8 (abZ oz) (Nat.le_succ_of_le hz)));rw[hf];simp only[bne_self_eq_false,aaz,if_false];refine wpAny_pure (h (UI.map Prod.snd) (UI.map λt=>t.1.2) _ _ (by rw[t2];exact p'.map _) ?_ ?_ ?_ (λb o h1 h2 q=> ?_) ?_ ?_)
  ·have h2:=(sy (K:=λp=>numOf p.1) (a:=arrOf st) (lo:=0) (n:=us.length) (by rw[abe,<-len,aaK];exact aav _)).mp hs
   have e2:sl (arrOf st) 0 us.length=(arrOf st).toList:=by
    show((arrOf st).toList.drop 0).take us.length=_;rw[ac8,aaP (by omega)]
   rw[e2,e',abK]at h2;rw[abK];refine h2.imp_of_mem λ {x y} mx my q=> ?_;obtain⟨_,k1,q1⟩:=t3 x (p'.mem_iff.mp mx);obtain⟨_,k2,q2⟩:=t3 y (p'.mem_iff.mp my);rw[q1,q2]at q;exact q
  ·have:∀l:List (Keyed×V),(∀t∈l,RelV t.2 t.1.2) ->Vals (l.map Prod.snd) (l.map λt=>t.1.2):=λl=>by
    induction l with
    |nil=>intro _;exact .nil
    |cons t l ih=>intro hl;exact .cons (hl t aaD) (ih λz hz=>hl z (aay _ hz))
   exact this UI λt ht=>(t3 t (p'.mem_iff.mp ht)).1
  ·rw[<-oe,<-oz,aaK]
  ·exact(XI.2 b h1).trans ((XH.2 b h2).trans q)
  ·rw[<-oe,adJ]
   exact⟨_,get?_update_seq ha1 λ_=>ov⟩
  ·exact⟨_,(XI.2 kS hn).trans (get?_update_seq hS λ_=> #[])⟩
 unfold ksk_end
 try dsimp only
 simp only[aaz,if_false]
 by_cases h2:us.toArray.size<2
 ·rw[if_pos h2,if_pos h2]
  refine wpAny_bind (wpAny_pure ?_);rw[StateT.run_pure];refine wpAny_bind (wpAny_pure ?_)
  try dsimp only
  refine tail (SortSt.mk' general' (keys.zip us.toArray) #[] 7 none) (Array.Perm.refl _) rfl (λi j hij hj=> ?_);rw[aaG]at h2;have:i=j:=by omega
  subst this;exact aaZ _
 ·rw[if_neg h2,if_neg h2]
  rw[aaG]at h2;rw[ksk_kind hk.ints (by omega)];refine wpAny_bind (wpAny_pure ?_);have R:zW.SB oneType' (λp=> ∃n t,p.1= .int n t) (SortSt.mk' oneType' (keys.zip us.toArray) #[] 7 none):=by
   refine⟨rfl,rfl,λp hp=> ?_⟩;have lD:p∈(keys.zip us.toArray).toList:=hp;rw[zl]at lD;exact hk.ints.all p.1 (acQ (a:=p.1) (b:=p.2) lD).1
  refine wpAny_bind (wpAny_mono (NF HA (Q:=λ_ st'=>(arrOf st').Perm (keys.zip us.toArray)/\failedOf st'=none/\So (λp=>numOf p.1) (arrOf st') 0 (keys.zip us.toArray).size) R rfl (show(keys.zip us.toArray).size<64 by rw[XG];exact h64) λst' a1 a2 a3=>⟨a1,a2,a3⟩) ?_ λ_ _ e=>e);rintro⟨⟨⟩,st'⟩ s' ⟨rfl,hp,hf,hs⟩;rw[XG]at hs
  try dsimp only
  exact tail st' hp hf hs
end
section
variable{X:Cx}{pins:List (Addr×Obj)}{σ:St}{H:Hp}{s:Shared}{B:Around}{a:Addr}{f:Value}{kf:V->Int}{ys:List V}{us:List Value}
theorem HL(I:Inv X pins σ H s)(fa:gb X pins H a){n:Nat}(ha:s.heap.get? a=some (seqObj "list" us.toArray n))(r:Vals ys us)(hz:us.length<=sizeLine)(h64:us.length<64){E:Value->Shared->Prop}{P:PySem.Fin->Shared->Prop}
  (turn:∀(qU:List (Addr×Obj))(v:V)(Hi:Hp)(u:Value)(si:Shared),v∈ys->ay H Hi->RelV v u->Inv X qU σ Hi si->wpAny (model X.prog X.w) B (call f [u]) (EP X qU σ (λv' H'=>v'= .int (kf v)/\ay Hi H')) (λ_ _=>False) si)
  (done:∀(Hn:Hp)(s':Shared)(zs:List V),Inv X pins σ (upd Hn a (.lst zs)) s'->ay H Hn->Hn a=none->zs.Perm ys->zs.Pairwise (λx y=>kf x<=kf y) ->P (.done (.ret .none)) s'):
  wpAny (model X.prog X.w) B (ksk_tree a f false) P E s:=by
 have rl:=r.length;unfold ksk_tree;refine wpAny_bind (listItems_at ha rfl ?_);refine wpAny_bind (listUpdate_at ha rfl ?_ (by simpa using hz) (aa3 _));obtain⟨e1,ha1⟩:∃e1,(s.heap.update a (Obj.mapSeq λ_=> #[])).get? a=some (seqObj "list" #[] e1):=⟨_,get?_update_seq ha (λ_=> #[])⟩;refine wpAny_bind (seqEpoch_at ha1 rfl ?_);refine wpAny_bind (wpAny_newTuple ?_ (by simpa using hz));refine wpAny_bind (wpAny_newList ?_ (aa3 _));refine wpAny_holding ?_;have I1:Inv X pins σ H {s with heap:=s.heap.update a (Obj.mapSeq λ_=> #[])}:=I.rf (ch:=[a]) (t':=s.toks) (λb o hb e=>(Heap.get?_update_ne _ _ _ _ (by simpa using hb)).trans e) (λb hb=>by rw[aap.mp hb];exact fa);have I2:Inv X pins σ H {s with heap:=((s.heap.update a (Obj.mapSeq λ_=> #[])).push (seqObj "tuple" us.toArray 0))}:=I1.kept (t':=s.toks) λb o e=>Heap.get?_push_of_some _ e;have I3:Inv X pins σ H {s with heap:=((s.heap.update a (Obj.mapSeq λ_=> #[])).push (seqObj "tuple" us.toArray 0)).push (seqObj "list" #[] 0)}:=I2.kept (t':=s.toks) λb o e=>Heap.get?_push_of_some _ e;have fk:gb X pins H ((s.heap.update a (Obj.mapSeq λ_=> #[])).push (seqObj "tuple" us.toArray 0)).objs.size:=I2.GJ (aav _) I2.fresh;have XJ:(((s.heap.update a (Obj.mapSeq λ_=> #[])).push (seqObj "tuple" us.toArray 0)).push (seqObj "list" #[] 0)).get? a=some (seqObj "list" #[] e1):=Heap.get?_push_of_some _ (Heap.get?_push_of_some _ ha1);have Ft:(((s.heap.update a (Obj.mapSeq λ_=> #[])).push (seqObj "tuple" us.toArray 0)).push (seqObj "list" #[] 0)).get? ((s.heap.update a (Obj.mapSeq λ_=> #[])).push (seqObj "tuple" us.toArray 0)).objs.size=some (seqObj "list" #[] 0):=Heap.get?_push_size _ rfl;have Wo:((s.heap.update a (Obj.mapSeq λ_=> #[])).push (seqObj "tuple" us.toArray 0)).objs.size≠a:=by
  have:=Heap.lt_size ha;rw[size_push',Heap.size_update];exact abX (abJ this)
 generalize((s.heap.update a (Obj.mapSeq λ_=> #[])).push (seqObj "tuple" us.toArray 0)).objs.size=kS at fk Ft Wo ⊢;generalize((s.heap.update a (Obj.mapSeq λ_=> #[])).push (seqObj "tuple" us.toArray 0)).push (seqObj "list" #[] 0)=h3 at I3 XJ Ft ⊢;show wpAny _ B (ksk_rest a f false us.toArray e1 (.ref kS)) P E {s with heap:=h3};have nc:∀(xs:Array Value)(m:Nat)(v:Option Value),(seqObj "list" xs m).data≠ .cell v:=λxs m v z=>nomatch z
 have I4:Inv X (FW pins a e1 kS #[] 0) σ H {s with heap:=h3}:=I3.j3 λp hp=>by
  rcases aaE.mp hp with hp|hp
  ·exact I3.pin p (aam _ hp)
  ·rcases aar.mp hp with rfl|hp
   ·exact z7 fa XJ (nc _ _)
   ·rw[aap.mp hp]
    exact z7 fk Ft (nc _ _)
 unfold ksk_rest;refine wpAny_bind (wpAny_rule ?_)
 first
  |rw[List.forIn_toArray]
  |(rw[<-Array.forIn_toList];simp only[List.toList_toArray])
 refine wpAny_bind (ksk_fold (λi s'=> ∃Hi ks e,Inv X (FW pins a e1 kS ks e) σ Hi s'/\ay H Hi/\rD kf (ys.take i) (us.take i) ks.toList) us 0 {s with heap:=h3} ⟨H, #[],0,I4,ay.refl _,by simpa using rD.nil⟩ ?_ ?_)
 ·rintro j x s' hx ⟨Hi,ks,e,J,sm,hk⟩
  simp only[abe]at hk ⊢;obtain⟨v,hv,rv⟩:=Vals.at r hx;have hj:j<us.length:=(aat.mp hx).1;refine wpAny_bind (wpAny_attempt (wpAny_mono (turn _ v Hi x s' (aaA hv) sm rv J) (λu s2 he=> ?_) λ_ _ hF=>hF.elim));obtain⟨v',H',J',ru,rfl,Zw⟩:=he;obtain⟨t,rfl⟩:∃t,u= .int (kf v) t:=ru;have pa:=J'.pin (a,seqObj "list" #[] e1) (by simp);have pk:=J'.pin (kS,seqObj "list" ks e) (by simp);have kl:ks.size=j:=by
   have h1:=hk.ints.length;rw[aaK,aau,aaX,rl]at h1;omega
  try dsimp only
  refine wpAny_bind (listUpdate_at pk.1 rfl ?_ (by omega) (aa8 (abZ (Array.size_push ..)) (by omega)));obtain⟨c2,hc2⟩:∃c2,(s2.heap.update kS (Obj.mapSeq (·.push (.int (kf v) t)))).get? kS=some (seqObj "list" (ks.push (.int (kf v) t)) c2):=⟨_,get?_update_seq pk.1 (·.push (.int (kf v) t))⟩;have ya:ys.take (j+1)=ys.take j++ [v]:=by rw[abz,hv];simp
  have ua:us.take (j+1)=us.take j++ [x]:=by rw[abz,hx];simp
  have ea:(ks.push (Value.int (kf v) t)).toList=ks.toList++ [Value.int (kf v) t]:=by simp
  have J1:Inv X pins σ H' s2:=J'.j3 λp hp=>J'.pin p (aam _ (aa1 _ hp));have J2:Inv X pins σ H' {s2 with heap:=s2.heap.update kS (Obj.mapSeq (·.push (.int (kf v) t)))}:=J1.rf (ch:=[kS]) (t':=s2.toks) (λb o hb e=>(Heap.get?_update_ne _ _ _ _ (by simpa using hb)).trans e) (λb hb=>by rw[aap.mp hb];exact y9 fk pk.2.1);refine wpAny_pure ⟨rfl,H',ks.push (.int (kf v) t),c2,J2.j3 λp hp=> ?_,sm.trans Zw,by rw[ya,ua,ea];exact hk.snoc t rv⟩;rcases aaE.mp hp with hp|hp
  ·exact J2.pin p (aam _ hp)
  ·rcases aar.mp hp with rfl|hp
   ·exact z7 (y9 fa pa.2.1) ((Heap.get?_update_ne _ _ _ _ Wo.symm).trans pa.1) (nc _ _)
   ·rw[aap.mp hp]
    exact z7 (y9 fk pk.2.1) hc2 (nc _ _)
 ·rintro s' ⟨Hi,ks,e,J,sm,hk⟩
  rw[abe,aaP (abZ rl),aaP (aav _)]at hk;have pa:=J.pin (a,seqObj "list" #[] e1) (by simp);have pk:=J.pin (kS,seqObj "list" ks e) (by simp);have J1:Inv X pins σ Hi s':=J.j3 λp hp=>J.pin p (aam _ (aa1 _ hp))
  try dsimp only
  refine wpAny_bind (listItems_at pk.1 rfl ?_);refine NG hk Wo hz h64 pa.1 pk.1 λzs out h' tk pz so vo ol keep hA hS=> ?_;have J2:Inv X pins σ Hi {s' with heap:=h',toks:=tk}:=J1.rf (ch:=[a,kS]) (t':=tk) (λb o hb e=>keep b o (λz=>hb (by simp[z])) (λz=>hb (by simp[z])) e) (λb hb=>by
   rcases aar.mp hb with rfl|hb
   ·exact y9 fa pa.2.1
   ·rw[aap.mp hb];exact y9 fk pk.2.1)
  obtain⟨c,hc⟩:=hA;exact done Hi _ zs (J2.OH (y9 fa pa.2.1) ⟨by rw[vo.length,ol];exact hz,out,c,vo,hc⟩) sm pa.2.1 pz so
theorem BN{l:Addr}{fa:Addr}(I:Inv X pins σ H s)(hq:aZ X.K H l ys)(h64:ys.length<64){Q:VK}
  (turn:∀(qU:List (Addr×Obj))(v:V)(Hi:Hp)(u:Value)(si:Shared),v∈ys->ay H Hi->RelV v u->Inv X qU σ Hi si->wpAny (model X.prog X.w) X.A.in1.in1 (call (.ref fa) [u]) (EP X qU σ (λv' H'=>v'= .int (kf v)/\ay Hi H')) (λ_ _=>False) si)
  (done:∀(Hn:Hp)(zs:List V),ay H Hn->zs.Perm ys->zs.Pairwise (λx y=>kf x<=kf y) -> ∀p,Hn p=none->Q (.ref p) (upd Hn p (.lst zs))):
  wpAny (model X.prog X.w) X.A (call (.builtin "sorted") [.ref l] [(Str.ofString "key",.ref fa)]) (EP X pins σ Q) X.xe s:=by
 obtain⟨us,r,pl,hz⟩:=I.list hq;have hz':us.length<=sizeLine:=by rw[<-r.length];exact hz
 refine call_function_entry_kw kind_sorted plain_sorted entry_sorted (ksk_s1 _ _) ?_;unfold Builtin.«sorted»;refine wpAny_bind (m:=checkCount "sorted" 1 1 _) (wpAny_pure ?_);refine wpAny_bind (collect_list pl.isList ?_ hz');refine wpAny_bind (wpAny_newList ?_ (by simpa using hz'));have z1:((s.heap.push (seqObj "list" #[] 0)).update s.heap.objs.size (Obj.mapSeq (· ++us.toArray))).objs.size=s.heap.objs.size+1:=by
  rw[Heap.size_update,size_push']
 generalize hg:((s.heap.push (seqObj "list" #[] 0)).update s.heap.objs.size (Obj.mapSeq (· ++us.toArray)))=h1 at z1;have keep:∀b o,s.heap.get? b=some o->(h1.push (seqObj "list" us.toArray 0)).get? b=some o:=λb o e=>by
  have lb:=Heap.lt_size e;refine Heap.get?_push_of_some _ ?_;rw[<-hg,Heap.get?_update_ne _ _ _ _ (aaI lb)];exact Heap.get?_push_of_some _ e
 have Pb:(h1.push (seqObj "list" us.toArray 0)).get? (s.heap.objs.size+1)=some (seqObj "list" us.toArray 0):=by
  rw[<-z1];exact Heap.get?_push_size _ rfl
 have I1:Inv X pins σ H {s with heap:=h1.push (seqObj "list" us.toArray 0)}:=I.kept (t':=s.toks) keep;have Zx:gb X pins H (s.heap.objs.size+1):=I.GJ (ab8 _) (I.hok.fresh (ab8 _));show wpAny _ _ _ _ _ {s with heap:=h1.push (seqObj "list" us.toArray 0)};rw[z1];refine wpAny_bind (wpAny_holding (wpAny_call_entry_kw slot_list_sort ⟨_,Pb,rfl⟩ entry_list_sort ?_ (ksk_l1 _ _)));show wpAny (model X.prog X.w) X.A.in1.in1 (Builtin.«list.sort» ⟨[.ref (s.heap.objs.size+1)],[(Str.ofString "key",.ref fa)]⟩) _ _ _;rw[ksk_t1];refine HL I1 Zx Pb r hz' (by rw[<-r.length];exact h64) turn λHn s' zs J sm hn pz so=>⟨_,rfl,?_⟩;exact wpAny_pure ⟨_,rfl,.ref (s.heap.objs.size+1),_,J,rfl,done Hn zs sm pz so _ hn⟩
end
noncomputable def Gg(tb:TE)(K:PySem.W.Frag)(P:Addr)(σ:St)(x:V)(H1:Hp)(Q:VK):Prop:=∃(l:Addr)(ys:List V)(kf:V->Int),x= .ref l/\aZ K H1 l ys/\ys.length<64/\H1 P=some .AM/\
 (∀v∈ys,∀Hi,ay H1 Hi->tb (some v::σ) Hi λv' H'=>v'= .int (kf v)/\ay Hi H')/\
 ∀(Hn:Hp)(zs:List V),ay H1 Hn->zs.Perm ys->zs.Pairwise (λx y=>kf x<=kf y) -> ∀p,Hn p=none->Q (.ref p) (upd Hn p (.lst zs))
noncomputable def NH(tb:TE)(K:PySem.W.Frag)(P:Addr)(te:TE):TE:=λσ H Q=>te σ H λx H1=>Gg tb K P σ x H1 Q
section
variable{X:Cx}{P:Addr}{te tb:TE}{e body:Expr}{args:Arguments}{sc:Scope}{x:Str}{N2:List Str}{p pos Ky kpos:Pos}
theorem HM(hc:X.calm=true){k:Nat}(hr:gk (k+3) X.A)(cd:gZ X.K X.env.code P)(bm:BM X.mg X.base)(JF:Gl X "sorted")(hm:X.mg "sorted"=none)(he:PE X e te)(hB:Tq sc X.env.scope.names [x] N2 X.N=true)
  (hbind:∀qual cl pm c ctv u,bindArgs (PySem.W.kla_fn "<lambda>" qual args body sc cl pm c ctv) ⟨[u],[]⟩=pure [(x,u)])
  (hbody:∀q f cd s H,PE (X.lam X.A.in1.in1 sc ([x]++N2) q f cd s H) body tb)
  (hdef:defaultsOf args X.env=([],[]):=by rfl)
  (hkw:keywordEach [⟨some "key",.Lambda args body sc Ky,kpos⟩] X.env=[(some (Str.ofString "key"),eval (.Lambda args body sc Ky) X.env)]:=by rfl)
  (hse:starEach [e] X.env=(false,eval e X.env)::starEach [] X.env:=by rfl)(hst:backTo pos (starEach [e] X.env)=(false,eval e X.env)::backTo pos (starEach [] X.env):=by rfl)
  (hpl:(backTo pos (starEach [e] X.env)).any (·.1)=false:=by rfl):PE X (.Call (.Name "sorted" p) [e] [⟨some "key",.Lambda args body sc Ky,kpos⟩] pos) (NH tb X.K P te):=by
 intro pins s σ H Q I h;unfold Tq at hB;simp only[aa5]at hB;obtain⟨⟨⟨⟨⟨h1,h2⟩,h3⟩,h4⟩,h5⟩,h6⟩:=hB;have Bk:=kC h1;have nc:∀y∈sc.names,y.2≠ .cell:=λy hy=>by
  have q:=abt.mp h5 y hy
  simpa using q
 have hx:sc.names.lookup x=some .local:=by
  have q:=abt.mp h6 x (by simp)
  simpa using q
 refine wpAny_Call_Name_kw (m8 I JF hm aco ?_);refine PyProof.Rows.callWith_kw (gD ((af he ah hse) pos pins s σ H (λvs H1=>match vs with| [v]=>Gg tb X.K P σ v H1 Q|_=>False) I h) λus s1 ⟨vs,H1,I1,r,q⟩=> ?_) hst hpl
 match vs,r,q with
 | [v],r,q=>
  obtain⟨l,ys,kf,rfl,hq,h64,hP,step,fin⟩:=q;obtain⟨u,rfl,ru⟩:=vals1 r;cases ru;show wpAny _ _ (evalAll [do let v<-eval (.Lambda args body sc Ky) X.env;standAt pos;pure v]) _ _ s1;refine wpAny_evalAll_cons (wpAny_bind (Hz I1 cd hP bm Bk hdef λf H2 s2 I2 sm fr L=>wpAny_bind (wpAny_standAt (wpAny_pure (wpAny_evalAll_nil ?_)))));refine BN (kf:=kf) I2 (Kx hq sm) h64 (λqU v Hi u si hv XM rv J=> ?_) λHn zs Zy pz so=>fin Hn zs (sm.trans Zy) pz so;exact Nx J (L.same XM) Bk (by simpa using h2) (by simpa using h3) (by simpa using h4) nc hx hbind J.ok.frames (J.ok.hd hc) hr.depth (λq cd=>hbody q f cd si Hi) rv (step v hv Hi (sm.trans XM))
end
end L2
namespace L2
open PySem PySem.Spec PyProof.Rows
section
variable{M:Model}{A:Around}{E:Value->Shared->Prop}{s:Shared}{base:Heap}{env:Env}{outer:List Env}{L e:Addr}{cls a0:Value}
end
section
variable{P:Program}{w:World}{K:PySem.W.Frag}{mg:Str->Option Value}{base:Heap}{N:List Str}{qual:Str}{scope:Scope}{f:Addr}{cd:Value}{A:Around}{outer:List Env}{s:Shared}{H:Hp}{E:XK}
end
section
variable{X:Cx}{pins:List (Addr×Obj)}{σ:St}{H:Hp}{s:Shared}
noncomputable def Ends.behind(D:Ends)(i:Nat):Ends:={nx:=λσ H=>D.nx (σ.set i none) H,rt:=D.rt,bk:=λσ H=>D.bk (σ.set i none) H,ct:=λσ H=>D.ct (σ.set i none) H}
end
end L2
namespace L2
open PySem PySem.Spec PyProof.Rows PySem.W Builtin Builtin.ObjectAttr Builtin.Getset_descriptor
section
variable{K:Frag}{x D:Addr}
end
end L2
namespace L2
open PySem PySem.Spec PyProof.Rows
section
variable{P:Program}{w:World}{K:PySem.W.Frag}{mg:Str->Option Value}{base:Heap}
end
section
variable{X:Cx}{pins:List (Addr×Obj)}{σ:St}{H:Hp}{s:Shared}
end
section
variable{X:Cx}
end
structure dO(P:Program)(w:World)(K:PySem.W.Frag)(mg:Str->Option Value)(base:Heap)(C:GU)(k:Nat)(x:Str)(ps:List Str)(sp:Sp):Prop where
 ex:∃f fd,qW P w K mg base C k f fd ps sp/\Binds K fd ps []/\abR K (.ref f)=true/\mg x=some (.ref f)
structure fZ(K:PySem.W.Frag)(mg:Str->Option Value)(x:Str)(st:Stmt)(ps:List Str):Prop where
 ex:∃f fd,OA K x x st f fd/\Binds K fd ps []/\mg x=some (.ref f)
structure rF(K:PySem.W.Frag)(mg:Str->Option Value)(x:Str)(st:Stmt)(ps:List Str)(T:Addr):Prop where
 ex:∃f fd,Hq K x x st f fd T/\Binds K fd ps []/\mg x=some (.ref f)
section
variable{P:Program}{w:World}{K:PySem.W.Frag}{mg:Str->Option Value}{base:Heap}{C:GU}{x:Str}{st:Stmt}{N ps:List Str}{j k:Nat}{sp:Sp}{T:Addr}
theorem dO.mono(F:dO P w K mg base C j x ps sp)(h:j<=k:=by decide):dO P w K mg base C k x ps sp:=by
 obtain⟨f,fd,a,b⟩:=F.ex;exact⟨f,fd,a.mono h,b⟩
theorem fZ.ok(F:fZ K mg x st ps)(S:aR N ps (aD st))(len:∀vs H Q E,sp vs H Q E->vs.length=ps.length)
  (hbody:∀f (cdv:Value) (A:Around) (outer:List Env) (s:Shared) (H:Hp) (vs:List V) (Q:VK) (E:XK),gk k (A.deeper (envOfC x (aD st) s.heap.objs.size f cdv)) ->sp vs H Q E->
   ∃t,zC (zF dz P w K mg base N x (aD st) f cdv A outer s H E).IM (fQ st) t/\t {nx:=λ_ H'=>Q .gF H',rt:=Q} (start N vs) H):dO P w K mg base dz (k+1) x ps sp:=by
 obtain⟨f,fd,a,b,m⟩:=F.ex;exact⟨f,fd,a.ok S len (hbody f),b,a.kp,m⟩
theorem rF.ok(F:rF K mg x st ps T)(S:aR N ps (aD st))(len:∀vs H Q E,sp vs H Q E->vs.length=ps.length)
  (hbody:∀f (cdv:Value) (A:Around) (outer:List Env) (s:Shared) (H:Hp) (vs:List V) (Q:VK) (E:XK),gZ K cdv T->gk k (A.deeper (envOfC x (aD st) s.heap.objs.size f cdv)) ->sp vs H Q E->
   ∃t,zC (zF dz P w K mg base N x (aD st) f cdv A outer s H E).IM (fQ st) t/\t {nx:=λ_ H'=>Q .gF H',rt:=Q} (start N vs) H):dO P w K mg base dz (k+1) x ps sp:=by
 obtain⟨f,fd,a,b,m⟩:=F.ex;exact⟨f,fd,a.ok S len (hbody f),b,a.kp,m⟩
end
theorem aN{X:Cx}{CX:GU}{k:Nat}{ps:List Str}{sp:Sp}{E:XK}{x:Str}{p pos:Pos}{e:Expr}{es:List Expr}{t:TA}(F:dO X.prog X.w X.K X.mg X.base CX k x ps sp)(hr:gk k X.A)(hg:Gl X x)(hx:Passes CX X E)(ha:PA X (e::es) t)
  (hdb:(x==("__debug__":Str))=false:=by decide)(he:starEach (e::es) X.env=(false,eval e X.env)::starEach es X.env:=by rfl)(hpl:(backTo pos (starEach es X.env)).any (·.1)=false:=by rfl):
  PE X (.Call (.Name x p) (e::es) [] pos) (mE sp [] E t):=by
 obtain⟨f,fd,a,b,kp,m⟩:=F.ex;exact Mz a hr hg m kp b .nil hx ha hdb he hpl
noncomputable def FnAt(K:PySem.W.Frag)(x:Str)(st:Stmt)(f:Addr):Prop:=∃(oc:Value)(od an:Option Addr)(sl:Array (Option Value))(kV dc pm cd ct:Value),aa9 K mainGlobals x=some (some (.ref f))/\
 K.lookup f=some ⟨oc,od,.func (abm x x (ig st) (fQ st) (aD st) .none kV dc pm an cd ct),sl⟩/\abA K cd x=true/\abR K (.ref f)=true
theorem fnAt{K:PySem.W.Frag}{x:Str}{st:Stmt}{f:Addr}{oc:Value}{od an:Option Addr}{sl:Array (Option Value)}{kV dc pm cd ct:Value}(a:aa9 K mainGlobals x=some (some (.ref f)):=by k_is)
  (l:K.lookup f=some ⟨oc,od,.func (abm x x (ig st) (fQ st) (aD st) .none kV dc pm an cd ct),sl⟩:=by k_is)(c:abA K cd x=true:=by k_is)(k:abR K (.ref f)=true:=by k_is):FnAt K x st f:=
 ⟨oc,od,an,sl,kV,dc,pm,cd,ct,a,l,c,k⟩
section
variable{q:Program}{loose:List Str}{mean:ExcName->Option Value}{mg mb:Str->Option Value}{h:Heap}{K:PySem.W.Frag}{x:Str}{st:Stmt}{f:Addr}{ps:List Str}
theorem FnAt.fun(Tp:Top q loose mean mg mb h)(X:K.In h)(A:FnAt K x st f)
  (hb:∀(kV doc pm:Value)(an:Option Addr)(cdv ct:Value)(us:List Value),us.length=ps.length->bindArgs (abm x x (ig st) (fQ st) (aD st) .none kV doc pm an cdv ct) ⟨us,[]⟩=pure (ps.zip us)):fZ K mg x st ps:=by
 obtain⟨oc,od,an,sl,kV,dc,pm,cd,ct,a,l,c,k⟩:=A;have F:=Jo (st:=st) l c k;exact⟨f,_,F,F.binds hb,acP X Tp.g a⟩
theorem FnAt.HN(Tp:Top q loose mean mg mb h)(X:K.In h)(A:FnAt K x st f){d:DefRec}(r:(recsOf q).find? (λe=>e.name==x)=some d)
  (hb:∀(kV doc pm:Value)(an:Option Addr)(cdv ct:Value)(us:List Value),us.length=ps.length->bindArgs (abm x x (ig st) (fQ st) (aD st) .none kV doc pm an cdv ct) ⟨us,[]⟩=pure (ps.zip us)):
  ∃T,rF K mg x st ps T/\isCodeTable h T/\h.get? T=some {cls:= .none,data:= .fields #[]}/\tabOf K f=some (.ref T):=by
 obtain⟨oc,od,an,sl,kV,dc,pm,cd,ct,a,l,c,k⟩:=A;have m:=acP X Tp.g a;obtain⟨T,cA,cT,cE⟩:=Dl Tp r X m l (show abA K (abm x x (ig st) (fQ st) (aD st) .none kV dc pm an cd ct).code x=true from c);have F:Hq K x x st f _ T:=⟨⟨oc,od,kV,dc,pm,an,cd,ct,sl,rfl,l,c,cA⟩,k⟩;exact⟨T,⟨f,_,F,F.fn.binds hb,m⟩,cT,cE,Bo l cA⟩
end
end L2
set_option maxHeartbeats 1000000
namespace CV
open PySem L2
noncomputable def top(i:Nat):Stmt:=PySem.Challenge.pw_conekin_k29_alike_forms.main.body.getD i (.Pass ⟨0,0,0,0⟩)
noncomputable abbrev qk:Stmt:=top 6
noncomputable abbrev kM:List Str:=["thing"]
theorem BO:aR ["thing"] kM (aD qk):=⟨rfl,rfl,rfl,by decide+kernel,rfl,by decide+kernel,by decide+kernel⟩
noncomputable abbrev wR:Stmt:=top 7
noncomputable abbrev oN:List Str:=["thing"]
theorem HP:aR ["thing"] oN (aD wR):=⟨rfl,rfl,rfl,by decide+kernel,rfl,by decide+kernel,by decide+kernel⟩
noncomputable abbrev ql:Stmt:=top 8
noncomputable abbrev kN:List Str:=["thing"]
theorem BP:aR ["thing"] kN (aD ql):=⟨rfl,rfl,rfl,by decide+kernel,rfl,by decide+kernel,by decide+kernel⟩
noncomputable abbrev sQ:Stmt:=top 9
noncomputable abbrev ja:List Str:=["one","other"]
theorem DR:aR ["one","other"] ja (aD sQ):=⟨rfl,rfl,rfl,by decide+kernel,rfl,by decide+kernel,by decide+kernel⟩
noncomputable abbrev lW:Stmt:=top 10
noncomputable abbrev gv:List Str:=["table"]
theorem wU:aR ["table"] gv (aD lW):=⟨rfl,rfl,rfl,by decide+kernel,rfl,by decide+kernel,by decide+kernel⟩
noncomputable abbrev kO:Stmt:=top 11
noncomputable abbrev gK:List Str:=["table","i","j"]
theorem jF:aR ["table","i","j","row","next_row","column","next_column"] gK (aD kO):=⟨rfl,rfl,rfl,by decide+kernel,rfl,by decide+kernel,by decide+kernel⟩
noncomputable abbrev lX:Stmt:=top 12
noncomputable abbrev dZ:List Str:=["table"]
theorem cY:aR ["table","a","b","c","d","e","f","g","h","i"] dZ (aD lX):=⟨rfl,rfl,rfl,by decide+kernel,rfl,by decide+kernel,by decide+kernel⟩
noncomputable abbrev Ac:Stmt:=top 13
noncomputable abbrev pG:List Str:=["table"]
theorem KQ:aR ["table"] pG (aD Ac):=⟨rfl,rfl,rfl,by decide+kernel,rfl,by decide+kernel,by decide+kernel⟩
noncomputable abbrev qm:Stmt:=top 14
noncomputable abbrev jb:List Str:=["table"]
theorem BQ:aR ["table"] jb (aD qm):=⟨rfl,rfl,rfl,by decide+kernel,rfl,by decide+kernel,by decide+kernel⟩
noncomputable abbrev DS:Stmt:=top 15
noncomputable abbrev wV:List Str:=["table"]
theorem Gh:aR ["table","unit"] wV (aD DS):=⟨rfl,rfl,rfl,by decide+kernel,rfl,by decide+kernel,by decide+kernel⟩
noncomputable abbrev sU:Stmt:=top 16
noncomputable abbrev kj:List Str:=["table","by"]
theorem DT:aR ["table","by"] kj (aD sU):=⟨rfl,rfl,rfl,by decide+kernel,rfl,by decide+kernel,by decide+kernel⟩
noncomputable abbrev jG:Stmt:=top 19
noncomputable abbrev gm:List Str:=["thing"]
theorem sV:aR ["thing"] gm (aD jG):=⟨rfl,rfl,rfl,by decide+kernel,rfl,by decide+kernel,by decide+kernel⟩
noncomputable abbrev sW:Stmt:=top 20
noncomputable abbrev mU:List Str:=["thing"]
theorem DU:aR ["thing"] mU (aD sW):=⟨rfl,rfl,rfl,by decide+kernel,rfl,by decide+kernel,by decide+kernel⟩
noncomputable abbrev sX:Stmt:=top 21
noncomputable abbrev gW:List Str:=["table","one","other"]
theorem nF:aR ["table","one","other","x","y","z"] gW (aD sX):=⟨rfl,rfl,rfl,by decide+kernel,rfl,by decide+kernel,by decide+kernel⟩
noncomputable abbrev Ad:Stmt:=top 22
noncomputable abbrev nG:List Str:=["table","row"]
theorem KR:aR ["table","row"] nG (aD Ad):=⟨rfl,rfl,rfl,by decide+kernel,rfl,by decide+kernel,by decide+kernel⟩
noncomputable abbrev sY:Stmt:=top 23
noncomputable abbrev mV:List Str:=["table"]
theorem qo:aR ["table","first","mixed"] mV (aD sY):=⟨rfl,rfl,rfl,by decide+kernel,rfl,by decide+kernel,by decide+kernel⟩
noncomputable abbrev DW:Stmt:=top 24
noncomputable abbrev sZ:List Str:=["form"]
theorem Gi:aR ["form","told"] sZ (aD DW):=⟨rfl,rfl,rfl,by decide+kernel,rfl,by decide+kernel,by decide+kernel⟩
noncomputable abbrev qp:Stmt:=top 26
noncomputable abbrev jc:List Str:=["form","rows"]
theorem BR:aR ["form","rows"] jc (aD qp):=⟨rfl,rfl,rfl,by decide+kernel,rfl,by decide+kernel,by decide+kernel⟩
noncomputable abbrev nH:Stmt:=top 27
noncomputable abbrev gX:List Str:=["row","times","other"]
theorem yc:aR ["row","times","other"] gX (aD nH):=⟨rfl,rfl,rfl,by decide+kernel,rfl,by decide+kernel,by decide+kernel⟩
noncomputable abbrev tD:Stmt:=top 28
noncomputable abbrev mW:List Str:=["top","bottom"]
theorem DX:aR ["top","bottom"] mW (aD tD):=⟨rfl,rfl,rfl,by decide+kernel,rfl,by decide+kernel,by decide+kernel⟩
noncomputable abbrev nI:Stmt:=top 29
noncomputable abbrev iN:List Str:=["form","one","other"]
theorem lY:aR ["form","one","other"] iN (aD nI):=⟨rfl,rfl,rfl,by decide+kernel,rfl,by decide+kernel,by decide+kernel⟩
noncomputable abbrev qt:Stmt:=top 30
noncomputable abbrev kP:List Str:=["form","one","other","third"]
theorem gM:aR ["form","one","other","third","across","along","aside","by_one","by_other","area","first","second","corners"] kP (aD qt):=⟨rfl,rfl,rfl,by decide+kernel,rfl,by decide+kernel,by decide+kernel⟩
noncomputable abbrev nJ:Stmt:=top 31
noncomputable abbrev iO:List Str:=["form"]
theorem dH:aR ["form","one","other","third"] iO (aD nJ):=⟨rfl,rfl,rfl,by decide+kernel,rfl,by decide+kernel,by decide+kernel⟩
noncomputable abbrev DY:Stmt:=top 32
noncomputable abbrev wW:List Str:=["form"]
theorem Gj:aR ["form","basis"] wW (aD DY):=⟨rfl,rfl,rfl,by decide+kernel,rfl,by decide+kernel,by decide+kernel⟩
noncomputable abbrev DZ:Stmt:=top 34
noncomputable abbrev tE:List Str:=["number"]
theorem Ae:aR ["number","told"] tE (aD DZ):=⟨rfl,rfl,rfl,by decide+kernel,rfl,by decide+kernel,by decide+kernel⟩
noncomputable abbrev wX:Stmt:=top 35
noncomputable abbrev oO:List Str:=["table","n"]
theorem dB:aR ["table","n","first","mixed","far","second","third","flat","bent","high","whole","most","told","reach","z","span","y","left"] oO (aD wX):=⟨rfl,rfl,rfl,by decide+kernel,rfl,by decide+kernel,by decide+kernel⟩
noncomputable abbrev oQ:Stmt:=top 36
noncomputable abbrev ju:List Str:=["table","n"]
theorem d7:aR ["table","n","first","told","y","z","shift","left","side","sides","number"] ju (aD oQ):=⟨rfl,rfl,rfl,by decide+kernel,rfl,by decide+kernel,by decide+kernel⟩
noncomputable abbrev lZ:Stmt:=top 38
noncomputable abbrev g9:List Str:=["table"]
theorem wY:aR ["table"] g9 (aD lZ):=⟨rfl,rfl,rfl,by decide+kernel,rfl,by decide+kernel,by decide+kernel⟩
noncomputable abbrev jd:Stmt:=top 39
noncomputable abbrev fW:List Str:=["table","firsts","seconds"]
theorem lM:aR ["table","firsts","seconds","halved"] fW (aD jd):=⟨rfl,rfl,rfl,by decide+kernel,rfl,by decide+kernel,by decide+kernel⟩
noncomputable abbrev l6:Stmt:=top 40
noncomputable abbrev ic:List Str:=["table"]
theorem cz:aR ["table","firsts","seconds","thirds","best","told","mixed","one","other","third","found"] ic (aD l6):=⟨rfl,rfl,rfl,by decide+kernel,rfl,by decide+kernel,by decide+kernel⟩
noncomputable abbrev Af:Stmt:=top 41
noncomputable abbrev rG:List Str:=["form"]
theorem rH:aR ["form","table","basis","last"] rG (aD Af):=⟨rfl,rfl,rfl,by decide+kernel,rfl,by decide+kernel,by decide+kernel⟩
noncomputable abbrev Ag:Stmt:=top 42
noncomputable abbrev rJ:List Str:=["one","other"]
theorem oR:aR ["one","other","first","by_first","second","by_second"] rJ (aD Ag):=⟨rfl,rfl,rfl,by decide+kernel,rfl,by decide+kernel,by decide+kernel⟩
noncomputable abbrev qu:Stmt:=top 44
noncomputable abbrev kQ:List Str:=["_law_script","_law_at"]
theorem jv:aR ["_law_script","_law_at","_law_cell","_law_great"] kQ (aD qu):=⟨rfl,rfl,rfl,by decide+kernel,rfl,by decide+kernel,by decide+kernel⟩
noncomputable abbrev oS:Stmt:=top 45
noncomputable abbrev f9:List Str:=["_law_bag_here","_law_many"]
theorem rK:aR ["_law_bag_here","_law_many","_law_digit"] f9 (aD oS):=⟨rfl,rfl,rfl,by decide+kernel,rfl,by decide+kernel,by decide+kernel⟩
noncomputable abbrev iA:Stmt:=top 46
noncomputable abbrev dh:List Str:=["_law_t"]
theorem g7:aR ["_law_t","_law_first","_law_second"] dh (aD iA):=⟨rfl,rfl,rfl,by decide+kernel,rfl,by decide+kernel,by decide+kernel⟩
noncomputable abbrev kR:Stmt:=top 47
noncomputable abbrev gO:List Str:=["_law_form","_law_one","_law_other"]
theorem gn:aR ["_law_form","_law_one","_law_other","_law_total","_law_i","_law_j"] gO (aD kR):=⟨rfl,rfl,rfl,by decide+kernel,rfl,by decide+kernel,by decide+kernel⟩
noncomputable abbrev kT:Stmt:=top 49
noncomputable abbrev gP:List Str:=["_law_form","_law_by"]
theorem vg:aR ["_law_form","_law_by"] gP (aD kT):=⟨rfl,rfl,rfl,by decide+kernel,rfl,by decide+kernel,by decide+kernel⟩
noncomputable abbrev iP:Stmt:=top 50
noncomputable abbrev fK:List Str:=["_law_bag_here"]
theorem dw:aR ["_law_bag_here","_law_a","_law_b","_law_c","_law_one","_law_other","_law_third"] fK (aD iP):=⟨rfl,rfl,rfl,by decide+kernel,rfl,by decide+kernel,by decide+kernel⟩
noncomputable abbrev jH:Stmt:=top 51
noncomputable abbrev gp:List Str:=["_law_form"]
theorem tF:aR ["_law_form"] gp (aD jH):=⟨rfl,rfl,rfl,by decide+kernel,rfl,by decide+kernel,by decide+kernel⟩
noncomputable abbrev kU:Stmt:=top 52
noncomputable abbrev gQ:List Str:=["_law_bag_here","_law_most"]
theorem ir:aR ["_law_bag_here","_law_most","_law_turn","_law_form","_law_last"] gQ (aD kU):=⟨rfl,rfl,rfl,by decide+kernel,rfl,by decide+kernel,by decide+kernel⟩
noncomputable abbrev nK:Stmt:=top 53
noncomputable abbrev iQ:List Str:=["_law_bag_here","_law_far"]
theorem gw:aR ["_law_bag_here","_law_far","_law_made","_law_turn","_law_i","_law_j","_law_times"] iQ (aD nK):=⟨rfl,rfl,rfl,by decide+kernel,rfl,by decide+kernel,by decide+kernel⟩
noncomputable abbrev jI:Stmt:=top 54
noncomputable abbrev gr:List Str:=["_law_found"]
theorem mX:aR ["_law_found","_law_row"] gr (aD jI):=⟨rfl,rfl,rfl,by decide+kernel,rfl,by decide+kernel,by decide+kernel⟩
noncomputable abbrev jJ:Stmt:=top 55
noncomputable abbrev gu:List Str:=["_law_found"]
theorem tG:aR ["_law_found"] gu (aD jJ):=⟨rfl,rfl,rfl,by decide+kernel,rfl,by decide+kernel,by decide+kernel⟩
noncomputable abbrev rL:Stmt:=top 56
noncomputable abbrev TJ:List Str:=["_law_script"]
theorem jK:aR ["_law_script","_law_k","_law_bag_here","_law_form","_law_far","_law_one","_law_other","_law_first","_law_second","_law_handed","_law_turn","_law_basis_here"] TJ (aD rL):=⟨rfl,rfl,rfl,by decide+kernel,rfl,by decide+kernel,by decide+kernel⟩
section
variable{P:Program}{w:World}{K:PySem.W.Frag}{mg:Str->Option Value}{base:Heap}
inductive Ah(T0:Addr)(vs:List V)(H:Hp)(Q:VK)(E:XK):Prop
 |mk(t1:Addr)(b1:List Addr)(m1:List (List Int))(t2:Addr)(b2:List Addr)(m2:List (List Int))(_:vs=[.ref t1,.ref t2])(_:Tab H t1 b1 m1)(_:Tab H t2 b2 m2)(_:aY m1)(_:aY m2)(_:Bd 4096 m1)(_:Bd 4096 m2)(_:H T0=some (eN T0))(_:∀r bs H',ay H H'->H r=none->(∀b∈bs,H b=none) ->r∉bs->Tab H' r bs (fY m1 m2) ->Q (.ref r) H')
theorem Ea{bH:Addr}(F:rF K mg "product" sQ ja bH)(bm:BM mg base)(zg:mg "sum"=none)(aB:mg "range"=none):dO P w K mg base dz 1 "product" ja (Ah bH):=by
 refine F.ok DR (λvs H Q E h=> ?_) (λf cdv A outer s H vs Q E cd hr h=> ?_)
 ·obtain⟨t1,b1,m1,t2,b2,m2,rfl,h1,h2,c1,c2,d1,d2,hP,q⟩:=h
  rfl
 obtain⟨t1,b1,m1,t2,b2,m2,rfl,h1,h2,c1,c2,d1,d2,hP,q⟩:=h;have hu:=hr.units;refine⟨_,(dQ (aU (iK (N2:=["one","other"]) (te:=(qY 1 (yz (cV (tC (.int 3)) jB)) (dP 0) (Bm 1 bH (yz (cV (tC (.int 3)) jB)) (dP 0) (ku (rI lH λi j=> .int (i*j)) (ku (j4 K) (ku (j4 K) (bU 3) (bU 2)) (bU 0)) (ku (j4 K) (ku (j4 K) (bU 4) (bU 0)) (bU 1)))))) rfl (dU rfl aB (af ak ah)) (by kernel_rfl) rfl (λ_ _ _=>by exact jE (iK (N2:=["i","one","other"]) (te:=(Bm 1 bH (yz (cV (tC (.int 3)) jB)) (dP 0) (ku (rI lH λi j=> .int (i*j)) (ku (j4 K) (ku (j4 K) (bU 3) (bU 2)) (bU 0)) (ku (j4 K) (ku (j4 K) (bU 4) (bU 0)) (bU 1))))) rfl (dU rfl aB (af ak ah)) (by kernel_rfl) rfl (λ_ _ _=>by exact jE (MT (N2:=["j","i","one","other"]) (te:=(ku (rI lH λi j=> .int (i*j)) (ku (j4 K) (ku (j4 K) (bU 3) (bU 2)) (bU 0)) (ku (j4 K) (ku (j4 K) (bU 4) (bU 0)) (bU 1)))) rfl (gk.depth hr) cd bm rfl zg (dU rfl aB (af ak ah)) (by kernel_rfl) (λ_ _ _ _=>by exact jE (av aF (aO aC (aO aC (pv 3) (pv 2) (λ_ _=>rfl)) (pv 0) (λ_ _=>rfl)) (aO aC (aO aC (pv 4) (pv 0) (λ_ _=>rfl)) (pv 1) (λ_ _=>rfl))))))))))),?_⟩;refine⟨3,rfl,by decide,by decide,λD hD=>vJ (iJ (n:=3)) rfl hD _ (λi x hi ex H1 Q1 s1 k1=> ?_) (λbs H1 s1 fr nD hT=>q D bs H1 s1 hD fr nD hT)⟩;obtain⟨_,rfl⟩:=gT ex;refine⟨3,rfl,by decide,by decide,λD2 CO=>pC (iJ (n:=3)) rfl CO (λj=>ent m1 i 0*ent m2 0 j+ent m1 i 1*ent m2 1 j+ent m1 i 2*ent m2 2 j) (λj x hj NI H2 Q2 s2 k2=> ?_) (λH2 s2 e2=>k1 D2 H2 CO s2 e2)⟩;obtain⟨_,rfl⟩:=gT NI;refine⟨3,rfl,by decide,by decide,Qa (iJ (n:=3)) (s2 _ _ (s1 _ _ hP)) (λk=>ent m1 i k*ent m2 k j) (λk x Zz H3 Q3 s3 k3=> ?_) (λH3 s3=> ?_)⟩
 ·obtain⟨hk,rfl⟩:=gT Zz
  have sm:=s1.trans (s2.trans s3);obtain⟨b,row,e1,e2,e3⟩:=pB (h1.same sm) c1 hi hk;obtain⟨b',ZA,Bh,Jw,Wq⟩:=pB (h2.same sm) c2 hk hj;exact⟨_,rfl,_,rfl,t1,_,_,_,rfl,rfl,aZ.of (h1.same sm).1,e1,_,rfl,b,_,_,_,rfl,rfl,aZ.of e2,e3,_,rfl,_,rfl,t2,_,_,_,rfl,rfl,aZ.of (h2.same sm).1,Bh,_,rfl,b',_,_,_,rfl,rfl,aZ.of Jw,Wq,_,_,rfl,rfl,⟨d1 i k hi hk,d2 k j hk hj⟩,k3 H3 (ay.refl _)⟩
 ·have:=k2 H3 s3
  rw[show preSum (λk=>ent m1 i k*ent m2 k j) (oH 3).length=_ from Wa _];exact this
inductive Eb(vs:List V)(H:Hp)(Q:VK)(E:XK):Prop
 |mk(t1:Addr)(b1:List Addr)(m1:List (List Int))(_:vs=[.ref t1])(_:Tab H t1 b1 m1)(_:aY m1)(_:∀r bs H',ay H H'->H r=none->(∀b∈bs,H b=none) ->r∉bs->Tab H' r bs (dI m1) ->Q (.ref r) H')
theorem wZ(F:fZ K mg "turned_over" lW gv)(aB:mg "range"=none):dO P w K mg base dz 1 "turned_over" gv Eb:=by
 refine F.ok wU (λvs H Q E h=> ?_) (λf cdv A outer s H vs Q E hr h=> ?_)
 ·obtain⟨t1,b1,m1,rfl,h1,c1,q⟩:=h
  rfl
 obtain⟨t1,b1,m1,rfl,h1,c1,q⟩:=h;have hu:=hr.units;refine⟨_,(dQ (aU (iK (N2:=["table"]) (te:=(qY 1 (yz (cV (tC (.int 3)) jB)) (dP 0) (ku (j4 K) (ku (j4 K) (bU 2) (bU 0)) (bU 1)))) rfl (dU rfl aB (af ak ah)) (by kernel_rfl) rfl (λ_ _ _=>by exact jE (iK (N2:=["i","table"]) (te:=(ku (j4 K) (ku (j4 K) (bU 2) (bU 0)) (bU 1))) rfl (dU rfl aB (af ak ah)) (by kernel_rfl) rfl (λ_ _ _=>by exact jE (aO aC (aO aC (pv 2) (pv 0) (λ_ _=>rfl)) (pv 1) (λ_ _=>rfl)))))))),?_⟩;refine⟨3,rfl,by decide,by decide,λD hD=>vJ (iJ (n:=3)) rfl hD _ (λi x hi ex H1 Q1 s1 k1=> ?_) (λbs H1 s1 fr nD hT=>q D bs H1 s1 hD fr nD hT)⟩;obtain⟨_,rfl⟩:=gT ex;refine⟨3,rfl,by decide,by decide,λD2 CO=>pC (iJ (n:=3)) rfl CO (λj=>ent m1 j i) (λj x hj NI H2 Q2 s2 k2=> ?_) (λH2 s2 e2=>k1 D2 H2 CO s2 e2)⟩;obtain⟨_,rfl⟩:=gT NI;have sm:=s1.trans s2;obtain⟨b,row,e1,e2,e3⟩:=pB (h1.same sm) c1 hj hi;exact⟨_,rfl,_,rfl,t1,_,_,_,rfl,rfl,aZ.of (h1.same sm).1,e1,_,rfl,b,_,_,_,rfl,rfl,aZ.of e2,e3,k2 H2 (ay.refl _)⟩
inductive vM(K:PySem.W.Frag)(vs:List V)(H:Hp)(Q:VK)(E:XK):Prop
 |mk(t:Addr)(bs:List Addr)(m:List (List Int))(i j:Nat)(_:vs=[.ref t,.int (i:Int),.int (j:Int)])(_:Tab H t bs m)(_:aY m)(_:i<3)(_:j<3)(_:Bd 4096 m)(_:Q (.int (iW m i j)) H)
theorem vh(F:fZ K mg "signed_minor" kO gK):dO P w K mg base dz 1 "signed_minor" gK (vM K):=by
 refine F.ok jF (λvs H Q E h=> ?_) (λf cdv A outer s H vs Q E hr h=> ?_)
 ·obtain⟨t,bs,m,i,j,rfl,hT,cg,hi,hj,hB,q⟩:=h
  rfl
 obtain⟨t,bs,m,i,j,rfl,hT,cg,hi,hj,hB,q⟩:=h;have hu:=hr.units;refine⟨_,(nA (@az _ _ _ _ _ (vY (i:=3) (j:=4) rfl jF.nd rfl rfl (by decide) rfl rfl (af (aO aC (pv 0) (av iY (av ck (pv 1) ak) ak) (λ_ _=>rfl)) (af (aO aC (pv 0) (av iY (av ck (pv 1) ak) ak) (λ_ _=>rfl)) ah)) rfl)
  (@az _ _ _ _ _ (vY (i:=5) (j:=6) rfl jF.nd rfl rfl (by decide) rfl rfl (af (av iY (av ck (pv 2) ak) ak) (af (av iY (av ck (pv 2) ak) ak) ah)) rfl)
  (@aP _ _ _ (aU (av d9 (av aF (aO aC (pv 3) (pv 5) (λ_ _=>rfl)) (aO aC (pv 4) (pv 6) (λ_ _=>rfl))) (av aF (aO aC (pv 3) (pv 6) (λ_ _=>rfl)) (aO aC (pv 4) (pv 5) (λ_ _=>rfl))))))))),?_⟩
 obtain⟨b,e1,e2,_⟩:=bC hT cg (i:=(i+1)%3) (xS _);obtain⟨b',Bh,Jw,_⟩:=bC hT cg (i:=(i+2)%3) (xS _);rw[<-m3 i 1]at e1;rw[<-m3 i 2]at Bh;refine⟨_,rfl,_,rfl,_,_,rfl,rfl,_,_,rfl,rfl,(by show(0:Int)<3;decide),t,_,_,_,rfl,rfl,aZ.of hT.1,e1,?_⟩;refine⟨_,rfl,_,rfl,_,_,rfl,rfl,_,_,rfl,rfl,(by show(0:Int)<3;decide),t,_,_,_,rfl,rfl,aZ.of hT.1,Bh,_,_,rfl,?_⟩;refine⟨_,rfl,_,_,rfl,rfl,_,_,rfl,rfl,(by show(0:Int)<3;decide),_,rfl,_,_,rfl,rfl,_,_,rfl,rfl,(by show(0:Int)<3;decide),_,_,rfl,?_⟩;have a1:=zP (λc=>ent m ((i+1)%3) c) (c:=(j+1)%3) (xS _);have a2:=zP (λc=>ent m ((i+2)%3) c) (c:=(j+2)%3) (xS _);have a3:=zP (λc=>ent m ((i+1)%3) c) (c:=(j+2)%3) (xS _);have a4:=zP (λc=>ent m ((i+2)%3) c) (c:=(j+1)%3) (xS _);rw[<-m3 j 1]at a1 a4;rw[<-m3 j 2]at a2 a3;refine⟨_,rfl,_,rfl,b,_,_,_,rfl,rfl,aZ.of e2,a1,_,rfl,_,rfl,b',_,_,_,rfl,rfl,aZ.of Jw,a2,_,_,rfl,rfl,⟨hB _ _ (xS _) (xS _),hB _ _ (xS _) (xS _)⟩,?_⟩;exact⟨_,rfl,_,rfl,b,_,_,_,rfl,rfl,aZ.of e2,a3,_,rfl,_,rfl,b',_,_,_,rfl,rfl,aZ.of Jw,a4,_,_,rfl,rfl,⟨hB _ _ (xS _) (xS _),hB _ _ (xS _) (xS _)⟩,_,_,rfl,rfl,q⟩
theorem w5{H:Hp}{t:Addr}{bs:List Addr}{m:List (List Int)}(hT:Tab H t bs m)(cg:aY m):∃c0 c1 c2,bs=[c0,c1,c2]/\bJ H c0 (λc=>ent m 0 c)/\bJ H c1 (λc=>ent m 1 c)/\bJ H c2 (λc=>ent m 2 c):=by
 have l3:bs.length=3:=by rw[<-hT.2.length,cg.1]
 match bs,l3,hT with
 | [c0,c1,c2],_,hT=>
  obtain⟨b0,x1,x2,_⟩:=bC hT cg (i:=0) (by decide);obtain⟨b1,y1,y2,_⟩:=bC hT cg (i:=1) (by decide);obtain⟨b2,w1,w2,_⟩:=bC hT cg (i:=2) (by decide);cases x1;cases y1;cases w1;exact⟨c0,c1,c2,rfl,x2,y2,w2⟩
inductive zh(vs:List V)(H:Hp)(Q:VK)(E:XK):Prop
 |mk(t:Addr)(bs:List Addr)(m:List (List Int))(_:vs=[.ref t])(_:Tab H t bs m)(_:aY m)(_:Bd 1000 m)(_:True)(_:∀H',ay H H'->Q (.int (aA m)) H')
theorem w9(F:fZ K mg "determinant" lX dZ):dO P w K mg base dz 3 "determinant" dZ zh:=by
 refine F.ok cY (λvs H Q E h=> ?_) (λf cdv A outer s H vs Q E hr h=> ?_)
 ·obtain⟨t,bs,m,rfl,hT,cg,hB,hP,q⟩:=h
  rfl
 obtain⟨t,bs,m,rfl,hT,cg,hB,hP,q⟩:=h;have hu:=hr.units;refine⟨_,(nA (@az _ _ _ _ _ (iu (pv 0) (jk rfl (aG (jk rfl (aG (aI (i:=1) cY.nd rfl (Or.inl rfl)) (aG (aI (i:=2) cY.nd rfl (Or.inl rfl)) (aG (aI (i:=3) cY.nd rfl (Or.inl rfl)) dW)))) (aG (jk rfl (aG (aI (i:=4) cY.nd rfl (Or.inl rfl)) (aG (aI (i:=5) cY.nd rfl (Or.inl rfl)) (aG (aI (i:=6) cY.nd rfl (Or.inl rfl)) dW)))) (aG (jk rfl (aG (aI (i:=7) cY.nd rfl (Or.inl rfl)) (aG (aI (i:=8) cY.nd rfl (Or.inl rfl)) (aG (aI (i:=9) cY.nd rfl (Or.inl rfl)) dW)))) dW)))))
  (@aP _ _ _ (aU (av ck (av ck (av aF (pv 1) (av d9 (av aF (pv 5) (pv 9)) (av aF (pv 6) (pv 8)))) (av aF (pv 2) (av d9 (av aF (pv 6) (pv 7)) (av aF (pv 4) (pv 9))))) (av aF (pv 3) (av d9 (av aF (pv 4) (pv 8)) (av aF (pv 5) (pv 7))))))))),?_⟩
 obtain⟨c0,c1,c2,rfl,x2,y2,w2⟩:=w5 hT cg;refine⟨_,rfl,t,_,rfl,aZ.of hT.1,rfl,_,_,rfl,c0,_,rfl,aZ.of x2,rfl,_,_,rfl,_,_,rfl,_,_,rfl,rfl,_,_,rfl,c1,_,rfl,aZ.of y2,rfl,_,_,rfl,_,_,rfl,_,_,rfl,rfl,_,_,rfl,c2,_,rfl,aZ.of w2,rfl,_,_,rfl,_,_,rfl,_,_,rfl,rfl,rfl,?_⟩;refine⟨_,rfl,_,rfl,_,rfl,_,_,rfl,rfl,⟨aK (hB 1 1 (by decide) (by decide)) (by decide),aK (hB 2 2 (by decide) (by decide)) (by decide)⟩,_,rfl,_,rfl,_,_,rfl,rfl,⟨aK (hB 1 2 (by decide) (by decide)) (by decide),aK (hB 2 1 (by decide) (by decide)) (by decide)⟩,_,_,rfl,rfl,_,_,rfl,rfl,⟨aK (hB 0 0 (by decide) (by decide)) (by decide),aK (lS (cu (hB 1 1 (by decide) (by decide)) (hB 2 2 (by decide) (by decide))) (cu (hB 1 2 (by decide) (by decide)) (hB 2 1 (by decide) (by decide)))) (by decide)⟩,_,rfl,_,rfl,_,rfl,_,_,rfl,rfl,⟨aK (hB 1 2 (by decide) (by decide)) (by decide),aK (hB 2 0 (by decide) (by decide)) (by decide)⟩,_,rfl,_,rfl,_,_,rfl,rfl,⟨aK (hB 1 0 (by decide) (by decide)) (by decide),aK (hB 2 2 (by decide) (by decide)) (by decide)⟩,_,_,rfl,rfl,_,_,rfl,rfl,⟨aK (hB 0 1 (by decide) (by decide)) (by decide),aK (lS (cu (hB 1 2 (by decide) (by decide)) (hB 2 0 (by decide) (by decide))) (cu (hB 1 0 (by decide) (by decide)) (hB 2 2 (by decide) (by decide)))) (by decide)⟩,_,_,rfl,rfl,_,rfl,_,rfl,_,rfl,_,_,rfl,rfl,⟨aK (hB 1 0 (by decide) (by decide)) (by decide),aK (hB 2 1 (by decide) (by decide)) (by decide)⟩,_,rfl,_,rfl,_,_,rfl,rfl,⟨aK (hB 1 1 (by decide) (by decide)) (by decide),aK (hB 2 0 (by decide) (by decide)) (by decide)⟩,_,_,rfl,rfl,_,_,rfl,rfl,⟨aK (hB 0 2 (by decide) (by decide)) (by decide),aK (lS (cu (hB 1 0 (by decide) (by decide)) (hB 2 1 (by decide) (by decide))) (cu (hB 1 1 (by decide) (by decide)) (hB 2 0 (by decide) (by decide)))) (by decide)⟩,_,_,rfl,rfl,?_⟩;have e:ent m 0 0*(ent m 1 1*ent m 2 2-ent m 1 2*ent m 2 1)+ent m 0 1*(ent m 1 2*ent m 2 0-ent m 1 0*ent m 2 2)+ent m 0 2*(ent m 1 0*ent m 2 1-ent m 1 1*ent m 2 0)=aA m:=by
  rw[dJ]
 have q:=q H (ay.refl _);rw[<-e]at q;exact q
inductive Ai(vs:List V)(H:Hp)(Q:VK)(E:XK):Prop
 |mk(t1:Addr)(b1:List Addr)(m1:List (List Int))(_:vs=[.ref t1])(_:Tab H t1 b1 m1)(_:aY m1)(_:Bd 4096 m1)(_:∀r bs H',ay H H'->H r=none->(∀b∈bs,H b=none) ->r∉bs->Tab H' r bs (iX m1) ->Q (.ref r) H')
theorem KS(F:fZ K mg "cover" Ac pG)(aB:mg "range"=none)(kW:dO P w K mg base dz 1 "signed_minor" gK (vM K)):dO P w K mg base dz 2 "cover" pG Ai:=by
 refine F.ok KQ (λvs H Q E h=> ?_) (λf cdv A outer s H vs Q E hr h=> ?_)
 ·obtain⟨t1,b1,m1,rfl,h1,c1,d1,q⟩:=h
  rfl
 obtain⟨t1,b1,m1,rfl,h1,c1,d1,q⟩:=h;have hu:=hr.units;refine⟨_,(dQ (aU (iK (N2:=["table"]) (te:=(qY 1 (yz (cV (tC (.int 3)) jB)) (dP 0) (mE (vM K) [] E0 (cV (bU 2) (cV (bU 0) (cV (bU 1) jB)))))) rfl (dU rfl aB (af ak ah)) (by kernel_rfl) rfl (λ_ _ _=>by exact jE (iK (N2:=["i","table"]) (te:=(mE (vM K) [] E0 (cV (bU 2) (cV (bU 0) (cV (bU 1) jB))))) rfl (dU rfl aB (af ak ah)) (by kernel_rfl) rfl (λ_ _ _=>by exact jE (aN kW hr rfl aM (af (pv 2) (af (pv 0) (af (pv 1) ah)))))))))),?_⟩;refine⟨3,rfl,by decide,by decide,λD hD=>vJ (iJ (n:=3)) rfl hD (λi j=>iW m1 j i) (λi x hi ex H1 Q1 s1 k1=> ?_) (λbs H1 s1 fr nD hT=>q D bs H1 s1 hD fr nD hT)⟩;obtain⟨_,rfl⟩:=gT ex;refine⟨3,rfl,by decide,by decide,λD2 CO=>pC (iJ (n:=3)) rfl CO (λj=>iW m1 j i) (λj x hj NI H2 Q2 s2 k2=> ?_) (λH2 s2 e2=>k1 D2 H2 CO s2 e2)⟩;obtain⟨_,rfl⟩:=gT NI;exact⟨_,rfl,_,rfl,_,rfl,t1,b1,m1,j,i,rfl,h1.same (s1.trans s2),c1,hj,hi,d1,k2 H2 (ay.refl _)⟩
inductive tH(T0:Addr)(vs:List V)(H:Hp)(Q:VK)(E:XK):Prop
 |mk(t1:Addr)(b1:List Addr)(m1:List (List Int))(t2:Addr)(b2:List Addr)(m2:List (List Int))(_:vs=[.ref t1,.ref t2])(_:Tab H t1 b1 m1)(_:Tab H t2 b2 m2)(_:aY m1)(_:aY m2)(_:Bd 1000 m1)(_:Bd 1000 m2)(_:H T0=some (eN T0))(_:∀r bs H',ay H H'->H r=none->(∀b∈bs,H b=none) ->r∉bs->Tab H' r bs (fY (fY m2 m1) (dI m2)) ->Q (.ref r) H')
theorem Ec{bH:Addr}(F:fZ K mg "carried" sU kj)(gx:dO P w K mg base dz 1 "product" ja (Ah bH))(gy:dO P w K mg base dz 1 "turned_over" gv Eb):dO P w K mg base dz 2 "carried" kj (tH bH):=by
 refine F.ok DT (λvs H Q E h=> ?_) (λf cdv A outer s H vs Q E hr h=> ?_)
 ·obtain⟨t1,b1,m1,t2,b2,m2,rfl,h1,h2,c1,c2,d1,d2,hP,q⟩:=h
  rfl
 obtain⟨t1,b1,m1,t2,b2,m2,rfl,h1,h2,c1,c2,d1,d2,hP,q⟩:=h;have hu:=hr.units;refine⟨_,(dQ (aU (aN gx hr rfl aM (af (aN gx hr rfl aM (af (pv 1) (af (pv 0) ah))) (af (aN gy hr rfl aM (af (pv 1) ah)) ah))))),?_⟩;refine⟨_,rfl,_,rfl,t2,b2,m2,t1,b1,m1,rfl,h2,h1,c2,c1,d2.mono (by decide),d1.mono (by decide),hP,λr rs H1 s1 fr frs nr hr=> ?_⟩;refine⟨_,rfl,t2,b2,m2,rfl,h2.same s1,c2,λo os H2 s2 fo fos no ho=> ?_⟩;refine⟨r,rs,_,o,os,_,rfl,hr.same s2,ho,cJ _,cJ _,(vI d2 d1).mono (by decide),(Br d2).mono (by decide),s2 _ _ (s1 _ _ hP),λu us H3 s3 fu XN nu Mi=> ?_⟩;have sm:=s1.trans s2;exact q u us H3 (sm.trans s3) (sm.none fu) (λb hb=>sm.none (XN b hb)) nu Mi
inductive ON(vs:List V)(H:Hp)(Q:VK)(E:XK):Prop
 |mk(t:Addr)(bs:List Addr)(m:List (List Int))(_:vs=[.ref t])(_:Tab H t bs m)(_:aY m)(_:Bd 440 m)(_:dI m=m)(_:True)(_:bQ m=true-> ∀H',ay H H'->Q .gF H')(_:bQ m=false-> ∀(x:Nat->Int) a H',ay H H'->H a=none->bJ H' a x-> ¬(x 0=0/\x 1=0/\x 2=0) ->au m x x<=0->(∀i,i<3->(x i).natAbs<2^1000) ->Q (.ref a) H')
theorem Ed(F:fZ K mg "low_row" sY mV)(bT:dO P w K mg base dz 3 "determinant" dZ zh)(pH:dO P w K mg base dz 3 "cover" pG Ai):dO P w K mg base dz 4 "low_row" mV ON:=by
 refine F.ok qo (λvs H Q E h=> ?_) (λf cdv A outer s H vs Q E hr h=> ?_)
 ·obtain⟨t,bs,m,rfl,hT,cg,hB,hS,hP,q1,q2⟩:=h
  rfl
 obtain⟨t,bs,m,rfl,hT,cg,hB,hS,hP,q1,q2⟩:=h;have hu:=hr.units;refine⟨_,(nA (@az _ _ _ _ _ (aV (i:=1) qo.nd rfl (Or.inl rfl) (aO aC (aO aC (pv 0) ak (λ_ _=>rfl)) ak (λ_ _=>rfl)))
  (@az _ _ _ _ _ (eF (cQ Fl (pv 1) ak (cP _)) (JU (lU (bZ fm (bZ fm (bZ fm lT (by kernel_rfl)) (by kernel_rfl)) (by kernel_rfl)))) eE)
  (@az _ _ _ _ _ (aV (i:=2) qo.nd rfl (Or.inl rfl) (aO aC (aO aC (pv 0) ak (λ_ _=>rfl)) ak (λ_ _=>rfl)))
  (@az _ _ _ _ _ (eF (cQ Fl (av d9 (av aF (pv 1) (aO aC (aO aC (pv 0) ak (λ_ _=>rfl)) ak (λ_ _=>rfl))) (av aF (pv 2) (pv 2))) ak (cP _)) (@aP _ _ _ (aU (eU (af (AX v7 (pv 2)) (af (pv 1) (af ak ah)))))) eE)
  (@az _ _ _ _ _ (eF (cQ Fl (aN bT hr rfl aM (af (pv 0) ah)) ak (cP _)) (@aP _ _ _ (aU (aO aC (aN pH hr rfl aM (af (pv 0) ah)) ak (λ_ _=>rfl)))) eE)
  (@aP _ _ _ (aU pX)))))))),?_⟩
 obtain⟨c0,x1,x2,_⟩:=bC hT cg (i:=0) (by decide);obtain⟨c1,y1,y2,_⟩:=bC hT cg (i:=1) (by decide);obtain⟨c2,w1,w2,_⟩:=bC hT cg (i:=2) (by decide);have b0:=hB 0 0 (by decide) (by decide);have b1:=hB 0 1 (by decide) (by decide);refine⟨_,rfl,t,_,_,_,rfl,rfl,aZ.of hT.1,x1,c0,_,_,_,rfl,rfl,aZ.of x2,rfl,?_⟩;refine⟨_,rfl,_,_,rfl,rfl,_,rfl,oh (λc=> ?_) (λc=> ?_)⟩
 ·have c:ent m 0 0<=0:=of_decide_eq_true c
  have ab:bQ m=false:=by
   unfold bQ;rw[decide_eq_false (by omega),ac7]
  refine⟨(by show 3<=sizeLine;decide),λr hr=> ?_⟩;refine q2 ab (λi=>if i=0 then 1 else 0) r _ (ay.up hr) hr ao (λz=>by simp at z) (by rw[SK];exact c) (λi _=> ?_);show(if i=0 then(1:Int)else 0).natAbs<_;exact aK (a:=1) (by split<;>decide) (by decide)
 have c:0<ent m 0 0:=by
  have:¬ent m 0 0<=0:=λz=>c (decide_eq_true z);omega
 refine⟨_,rfl,t,_,_,_,rfl,rfl,aZ.of hT.1,x1,c0,_,_,_,rfl,rfl,aZ.of x2,rfl,?_⟩;refine⟨_,rfl,_,rfl,t,_,_,_,rfl,rfl,aZ.of hT.1,y1,c1,_,_,_,rfl,rfl,aZ.of y2,rfl,_,_,rfl,rfl,⟨aK (hB 0 0 (by decide) (by decide)) (by decide),aK (hB 1 1 (by decide) (by decide)) (by decide)⟩,_,rfl,_,rfl,_,_,rfl,rfl,⟨aK (hB 0 1 (by decide) (by decide)) (by decide),aK (hB 0 1 (by decide) (by decide)) (by decide)⟩,_,_,rfl,rfl,_,_,rfl,rfl,_,rfl,oh (λd=> ?_) (λd=> ?_)⟩
 ·have d:ent m 0 0*ent m 1 1-ent m 0 1*ent m 0 1<=0:=of_decide_eq_true d
  have ab:bQ m=false:=by
   unfold bQ;rw[decide_eq_false (p:=ent m 0 1*ent m 0 1<ent m 0 0*ent m 1 1) (by omega),ac7,adN]
  refine⟨_,rfl,_,rfl,_,rfl,(by show 3<=sizeLine;decide),λr hr=> ?_⟩;refine q2 ab (λi=>match i with|0=> -ent m 0 1|1=>ent m 0 0|_=>0) r _ (ay.up hr) hr ao (λz=>by have y:ent m 0 0=0:=z.2.1;omega) ?_ (λi hi=> ?_)
  ·rw[SM hS _ rfl rfl rfl]
   exact acp (by omega) d
  ·rcases aW hi with rfl|rfl|rfl
   ·show(-ent m 0 1).natAbs<_
    exact aK (a:=440) (by(clear hi hr ab d c b0 w2 w1 y2 y1 x2 x1 hu q2 q1 hS;omega)) (by decide)
   ·exact aK b0 (by decide)
   ·show(0:Int).natAbs<_
    exact Nat.two_pow_pos _
 have d:0<ent m 0 0*ent m 1 1-ent m 0 1*ent m 0 1:=by
  have:¬ent m 0 0*ent m 1 1-ent m 0 1*ent m 0 1<=0:=λz=>d (decide_eq_true z);omega
 refine⟨_,rfl,t,bs,m,rfl,hT,cg,hB.mono (by decide),hP,λH1 s1=>⟨_,_,rfl,rfl,_,rfl,oh (λe=> ?_) (λe=> ?_)⟩⟩
 ·have e:aA m<=0:=of_decide_eq_true e
  have ab:bQ m=false:=by
   unfold bQ;rw[decide_eq_false (p:=0<aA m) (by omega),adN,adN]
  refine⟨_,rfl,t,bs,m,rfl,hT.same s1,cg,hB.mono (by decide),λr rs H2 s2 fr frs nr T2=> ?_⟩;obtain⟨k,k1,k2,k3⟩:=bC T2 (cJ _) (i:=2) (by decide);refine⟨r,_,_,_,rfl,rfl,aZ.of T2.1,k1,?_⟩;have Xx:0<ent (iX m) 2 2:=by
   rw[OI,jl hS (i:=0) (j:=1) (by decide) (by decide)];exact d
  refine q2 ab (λj=>ent (iX m) 2 j) k H2 (s1.trans s2) (s1.none (frs k k3)) k2 (λz=>by have y:ent (iX m) 2 2=0:=z.2.2;omega) ?_ (λj hj=> ?_)
  ·rw[SN]
   exact Int.mul_nonpos_of_nonpos_of_nonneg e (by omega)
  ·show(ent (iX m) 2 j).natAbs<_
   rw[kJ m (by decide) hj];exact aK (nk hB j 2) (by decide)
 ·have e:0<aA m:=by
   have:¬aA m<=0:=λz=>e (decide_eq_true z);omega
  refine q1 ?_ H1 s1;unfold bQ;rw[decide_eq_true c,decide_eq_true e,decide_eq_true (p:=ent m 0 1*ent m 0 1<ent m 0 0*ent m 1 1) (by omega)]
  rfl
inductive tK(vs:List V)(H:Hp)(Q:VK)(E:XK):Prop
 |mk(z:Int)(_:vs=[.int z])(_:Q (.bl true) H)
theorem BS(F:fZ K mg "is_whole" qk kM)(bV:mg "isinstance"=none)(jY:mg "int"=none)(tL:mg "bool"=none):dO P w K mg base dz 1 "is_whole" kM tK:=by
 refine F.ok BO (λvs H Q E h=> ?_) (λf cdv A outer s H vs Q E hr h=> ?_)
 ·obtain⟨z,rfl,q⟩:=h
  rfl
 obtain⟨z,rfl,q⟩:=h;have hu:=hr.units;refine⟨_,(dQ (aU (vU (cR f7 rfl bV aaT (af (pv 0) (af (lE (v:= .ty "int") rfl jY acL rfl) ah))) (vS (Pd (cR f7 rfl bV aaT (af (pv 0) (af (lE (v:= .ty "bool") rfl tL adw rfl) ah)))))))),?_⟩;exact⟨_,rfl,_,_,_,_,rfl,.int _,mK K "int",_,rfl,wg ⟨_,rfl,_,_,_,_,rfl,.int _,q8 K,_,rfl,q⟩⟩
inductive Aj(T0:Addr)(vs:List V)(H:Hp)(Q:VK)(E:XK):Prop
 |mk(b:Addr)(x:Nat->Int)(_:vs=[.ref b])(_:bJ H b x)(_:H T0=some (eN T0))(_:∀H',ay H H'->Q (.bl true) H')
theorem HQ{bK:Addr}(F:rF K mg "is_row" wR oN bK)(bm:BM mg base)(bV:mg "isinstance"=none)(iR:mg "list"=none)(ie:mg "len"=none)(pV:mg "all"=none)(qv:dO P w K mg base dz 1 "is_whole" kM tK):dO P w K mg base dz 3 "is_row" oN (Aj bK):=by
 refine F.ok HP (λvs H Q E h=> ?_) (λf cdv A outer s H vs Q E cd hr h=> ?_)
 ·obtain⟨b,x,rfl,hx,hP,q⟩:=h
  rfl
 obtain⟨b,x,rfl,hx,hP,q⟩:=h;have hu:=hr.units;refine⟨_,(nA (@az _ _ _ _ _ (eF (PW.pt (uz (m9 (iG (cR f7 rfl bV aaT (af (pv 0) (af (lE (v:= .ty "list") rfl iR abw rfl) ah))))) (pY (cQ Fj (cR gc rfl ie ab4 (af (pv 0) ah)) ak (cP _))))) (@aP _ _ _ (aU ow)) eE)
  (@aP _ _ _ (aU (zM (N2:=["thing"]) (te:=(mE tK [] E0 (cV (bU 0) jB))) rfl (gk.depth hr) cd bm rfl pV (eT (pv 0)) (by kernel_rfl) (λ_ _ _ _=>by exact jE (aN qv (Bq hr) rfl aM (af (pv 0) ah)))))))),?_⟩
 refine⟨_,rfl,_,_,_,_,rfl,.lst hx,mK K "list",_,rfl,oB ⟨_,rfl,b,_,rfl,.inl (aZ.of hx),rfl,_,rfl,wj rfl ?_⟩⟩;refine⟨_,rfl,b,rfl,⟨_,aZ.of hx⟩,Dn (ji (aZ.of hx)) hP (λ_=>true) (λj y ey H1 Q1 s1 k1=> ?_) (λc H1 s1 hc=> ?_)⟩
 ·obtain⟨z,rfl⟩:∃z,y= .int z:=by
   have hy:=aaA ey;simp only[aar,aaJ,or_false]at hy;rcases hy with rfl|rfl|rfl<;>exact⟨_,rfl⟩
  exact⟨_,rfl,z,rfl,k1 H1 (ay.refl _)⟩
 ·have e:c=true:=hc.mpr λ_ _=>rfl
  subst e;exact q H1 s1
inductive zj(T1 T0:Addr)(vs:List V)(H:Hp)(Q:VK)(E:XK):Prop
 |mk(t:Addr)(bs:List Addr)(m:List (List Int))(_:vs=[.ref t])(_:Tab H t bs m)(_:aY m)(_:H T1=some (eN T1))(_:H T0=some (eN T0))(_:∀H',ay H H'->Q (.bl true) H')
theorem BU{bK bg:Addr}(F:rF K mg "is_table" ql kN bg)(bm:BM mg base)(bV:mg "isinstance"=none)(iR:mg "list"=none)(ie:mg "len"=none)(pV:mg "all"=none)(xg:dO P w K mg base dz 3 "is_row" oN (Aj bK)):dO P w K mg base dz 5 "is_table" kN (zj bK bg):=by
 refine F.ok BP (λvs H Q E h=> ?_) (λf cdv A outer s H vs Q E cd hr h=> ?_)
 ·obtain⟨t,bs,m,rfl,hT,cg,hR,hP,q⟩:=h
  rfl
 obtain⟨t,bs,m,rfl,hT,cg,hR,hP,q⟩:=h;have hu:=hr.units;refine⟨_,(nA (@az _ _ _ _ _ (eF (PW.pt (uz (m9 (iG (cR f7 rfl bV aaT (af (pv 0) (af (lE (v:= .ty "list") rfl iR abw rfl) ah))))) (pY (cQ Fj (cR gc rfl ie ab4 (af (pv 0) ah)) ak (cP _))))) (@aP _ _ _ (aU ow)) eE)
  (@aP _ _ _ (aU (zM (N2:=["thing"]) (te:=(mE (Aj bK) [] E0 (cV (bU 0) jB))) rfl (gk.depth hr) cd bm rfl pV (eT (pv 0)) (by kernel_rfl) (λ_ _ _ _=>by exact jE (aN xg (Bq hr) rfl aM (af (pv 0) ah)))))))),?_⟩
 have l3:(bs.map V.ref).length=3:=by rw[aau,<-hT.2.length,cg.1]
 refine⟨_,rfl,_,_,_,_,rfl,.lst hT.1,mK K "list",_,rfl,oB ⟨_,rfl,t,_,rfl,.inl (aZ.of hT.1),rfl,_,rfl,wj (by rw[l3];rfl) ?_⟩⟩;refine⟨_,rfl,t,rfl,⟨_,aZ.of hT.1⟩,Dn (ji (aZ.of hT.1)) hP (λ_=>true) (λj y ey H1 Q1 s1 k1=> ?_) (λc H1 s1 hc=> ?_)⟩
 ·have hj:j<3:=by
   have:=(aat.mp ey).1;rw[l3]at this;exact this
  obtain⟨b,e1,e2,_⟩:=bC (hT.same s1) cg hj;have ex':y= .ref b:=by
   have q1:=gS ey;rw[e1]at q1;exact(Option.some.inj q1).symm
  subst ex';exact⟨_,rfl,b,λc=>ent m j c,rfl,e2,s1 _ _ hR,k1⟩
 ·have e:c=true:=hc.mpr λ_ _=>rfl
  subst e;exact q H1 s1
inductive BV(T1 T2 T0:Addr)(vs:List V)(H:Hp)(Q:VK)(E:XK):Prop
 |mk(t:Addr)(bs:List Addr)(m:List (List Int))(_:vs=[.ref t])(_:Tab H t bs m)(_:aY m)(_:br m)(_:H T1=some (eN T1))(_:H T2=some (eN T2))(_:H T0=some (eN T0))(_:∀H',ay H H'->Q (.bl true) H')
theorem tM{bK bg aJ:Addr}(F:rF K mg "is_even_table" jG gm aJ)(bm:BM mg base)(pV:mg "all"=none)(aB:mg "range"=none)(qw:dO P w K mg base dz 6 "is_table" kN (zj bK bg))(gy:dO P w K mg base dz 6 "turned_over" gv Eb):dO P w K mg base dz 7 "is_even_table" gm (BV bK bg aJ):=by
 refine F.ok sV (λvs H Q E h=> ?_) (λf cdv A outer s H vs Q E cd hr h=> ?_)
 ·obtain⟨t,bs,m,rfl,hT,cg,ev,hR,hU,hP,q⟩:=h
  rfl
 obtain⟨t,bs,m,rfl,hT,cg,ev,hR,hU,hP,q⟩:=h;have hu:=hr.units;refine⟨_,(nA (@az _ _ _ _ _ (eF (m9 (iG (aN qw hr rfl aM (af (pv 0) ah)))) (@aP _ _ _ (aU ow)) eE)
  (@aP _ _ _ (aU (vU (lF (PX hu) (pv 0) (aN gy hr rfl aM (af (pv 0) ah)) (cP _)) (vS (zM (N2:=["thing"]) (te:=(ku Xh (ku (rI (λ_ j=>0<j) λi j=> .int (i%j)) (ku (j4 K) (ku (j4 K) (bU 1) (bU 0)) (bU 0)) (tC (.int 2))) (tC (.int 0)))) rfl (gk.depth hr) cd bm rfl pV (dU rfl aB (af ak ah)) (by kernel_rfl) (λ_ _ _ _=>by exact jE (lF AY (av iY (aO aC (aO aC (pv 1) (pv 0) (λ_ _=>rfl)) (pv 0) (λ_ _=>rfl)) ak) ak (cP _)))))))))),?_⟩
 refine⟨_,rfl,t,bs,m,rfl,hT,cg,hR,hU,λH1 s1=>⟨_,rfl,oB ?_⟩⟩;refine⟨_,rfl,_,rfl,t,bs,m,rfl,hT.same s1,cg,λr rs H2 s2 fr frs nr Tr=> ?_⟩;rw[fG ev cg]at Tr;refine MV (wu m) (yL ((hT.same s1).same s2)) (yL Tr) (p9 m) ⟨_,rfl,wg ?_⟩;have s12:=s1.trans s2;refine⟨3,rfl,by decide,by decide,Dn (iJ (n:=3)) (s12 _ _ hP) (λ_=>true) (λj y ey H3 Q3 s3 k3=> ?_) (λc H3 s3 hc=> ?_)⟩
 ·obtain⟨hj,rfl⟩:=gT ey
  obtain⟨b,row,e1,e2,e3⟩:=pB (hT.same (s12.trans s3)) cg hj hj;refine⟨_,rfl,_,rfl,t,_,_,_,rfl,rfl,aZ.of (hT.same (s12.trans s3)).1,e1,_,rfl,b,_,_,_,rfl,rfl,aZ.of e2,e3,_,_,rfl,rfl,(by show(0:Int)<2;decide),rfl,?_⟩;have e:ent m j j%2=0:=by
   obtain⟨_,a,b,c,p1,p2,p3⟩:=ev;rcases aW hj with rfl|rfl|rfl<;>(clear e3 e1 ey hj e2 k3 nr frs fr hu q hP hU hR aB pV;omega)
  rw[decide_eq_true (congrArg V.int e)];exact k3 H3 (ay.refl _)
 ·have e:c=true:=hc.mpr λ_ _=>rfl
  subst e;exact q H3 (s12.trans s3)
inductive BW(T1 T2 T3:Addr)(vs:List V)(H:Hp)(Q:VK)(E:XK):Prop
 |mk(t:Addr)(bs:List Addr)(m:List (List Int))(_:vs=[.ref t])(_:Tab H t bs m)(_:aY m)(_:Bd 440 m)(_:br m)(_:bQ m=true)(_:H T1=some (eN T1))(_:H T2=some (eN T2))(_:H T3=some (eN T3))(_:True)(_:∀H',ay H H'->Q (.bl true) H')
theorem Ef{bK bg aJ:Addr}(F:fZ K mg "is_form" sW mU)(jL:dO P w K mg base dz 7 "is_even_table" gm (BV bK bg aJ))(tO:dO P w K mg base dz 7 "low_row" mV ON):dO P w K mg base dz 8 "is_form" mU (BW bK bg aJ):=by
 refine F.ok DU (λvs H Q E h=> ?_) (λf cdv A outer s H vs Q E hr h=> ?_)
 ·obtain⟨t,bs,m,rfl,hT,cg,hB,ev,ab,h1,h2,h3,h4,q⟩:=h
  rfl
 obtain⟨t,bs,m,rfl,hT,cg,hB,ev,ab,h1,h2,h3,h4,q⟩:=h;have hu:=hr.units;refine⟨_,(dQ (aU (vU (aN jL hr rfl aM (af (pv 0) ah)) (vS (lF Jf (aN tO hr rfl aM (af (pv 0) ah)) pX (cP _)))))),?_⟩;refine⟨_,rfl,t,bs,m,rfl,hT,cg,ev,h1,h2,h3,λH1 s1=>⟨_,rfl,wg ?_⟩⟩;exact⟨_,rfl,t,bs,m,rfl,hT.same s1,cg,hB,fG ev cg,trivial,λ_ H2 s2=>⟨rfl,q H2 (s1.trans s2)⟩,λZC=>absurd ZC (by rw[ab];decide)⟩
inductive Eg(T1 T2 T3:Addr)(vs:List V)(H:Hp)(Q:VK)(E:XK):Prop
 |mk(t:Addr)(bs:List Addr)(m:List (List Int))(_:vs=[.ref t])(_:Tab H t bs m)(_:aY m)(_:Bd 440 m)(_:br m)(_:bQ m=true)(_:aA m/2<=200)(_:H T1=some (eN T1))(_:H T2=some (eN T2))(_:H T3=some (eN T3))(_:True)(_:∀H',ay H H'->Q (.int (aA m/2)) H')
theorem NJ{bK bg aJ:Addr}(F:fZ K mg "half" DW sZ){jM:_}(jN:mg "GREATEST_HALF"=some (Value.int 200 jM))(tP:dO P w K mg base dz 8 "is_form" mU (BW bK bg aJ))(bT:dO P w K mg base dz 8 "determinant" dZ zh):dO P w K mg base dz 9 "half" sZ (Eg bK bg aJ):=by
 refine F.ok Gi (λvs H Q E h=> ?_) (λf cdv A outer s H vs Q E hr h=> ?_)
 ·obtain⟨t,bs,m,rfl,hT,cg,hB,ev,ab,le,h1,h2,h3,h4,q⟩:=h
  rfl
 obtain⟨t,bs,m,rfl,hT,cg,hB,ev,ab,le,h1,h2,h3,h4,q⟩:=h;have hu:=hr.units;refine⟨_,(nA (@az _ _ _ _ _ (eF (m9 (iG (aN tP hr rfl aM (af (pv 0) ah)))) (@aP _ _ _ vW) eE)
  (@az _ _ _ _ _ (aV (i:=1) Gi.nd rfl (Or.inl rfl) (av fP (aN bT hr rfl aM (af (pv 0) ah)) ak))
  (@az _ _ _ _ _ (eF (cQ uA (pv 1) (Mr (v:= .int 200) rfl jN ⟨_,rfl⟩) (cP _)) (@aP _ _ _ vW) eE)
  (@aP _ _ _ (aU (pv 1))))))),?_⟩
 refine⟨_,rfl,t,bs,m,rfl,hT,cg,hB,ev,ab,h1,h2,h3,h4,λH1 s1=>⟨_,rfl,oB ?_⟩⟩;refine⟨_,rfl,t,bs,m,rfl,hT.same s1,cg,hB.mono (by decide),trivial,λH2 s2=>⟨_,_,rfl,rfl,⟨by decide,by decide⟩,?_⟩⟩;refine⟨_,rfl,_,_,rfl,rfl,_,rfl,oh (λc=> ?_) (λ_=>⟨_,rfl,q H2 (s1.trans s2)⟩)⟩;have c:(200:Int)<aA m/2:=of_decide_eq_true c;omega
theorem HR{H:Hp}{t:Addr}{bs:List Addr}{m:List (List Int)}(hT:Tab H t bs m)(cg:aY m):∃c0 c1 c2,bs=[c0,c1,c2]/\bJ H c0 (λc=>ent m 0 c)/\bJ H c1 (λc=>ent m 1 c)/\bJ H c2 (λc=>ent m 2 c):=by
 have l3:bs.length=3:=by rw[<-hT.2.length,cg.1]
 match bs,l3,hT with
 | [c0,c1,c2],_,hT=>
  obtain⟨b0,x1,x2,_⟩:=bC hT cg (i:=0) (by decide);obtain⟨b1,y1,y2,_⟩:=bC hT cg (i:=1) (by decide);obtain⟨b2,w1,w2,_⟩:=bC hT cg (i:=2) (by decide);cases x1;cases y1;cases w1;exact⟨c0,c1,c2,rfl,x2,y2,w2⟩
inductive qx(T0:Addr)(vs:List V)(H:Hp)(Q:VK)(E:XK):Prop
 |mk(t:Addr)(bs:List Addr)(m:List (List Int))(a b:Addr)(x y:Nat->Int)(_:vs=[.ref t,.ref a,.ref b])(_:Tab H t bs m)(_:aY m)(_:Bd 1000 m)(_:bJ H a x)(_:bJ H b y)(_:∀i,i<3->(x i).natAbs<2^1000)(_:∀i,i<3->(y i).natAbs<2^1000)(_:H T0=some (eN T0))(_:∀H',ay H H'->Q (.int (au m x y)) H')
theorem Eh{aE:Addr}(F:rF K mg "pairing" sX gW aE)(bm:BM mg base)(zg:mg "sum"=none)(jZ:mg "zip"=none):dO P w K mg base dz 1 "pairing" gW (qx aE):=by
 refine F.ok nF (λvs H Q E h=> ?_) (λf cdv A outer s H vs Q E cd hr h=> ?_)
 ·obtain⟨t,bs,m,a,b,x,y,rfl,hT,cg,hB,hx,hy,bx,bY,hP,q⟩:=h
  rfl
 obtain⟨t,bs,m,a,b,x,y,rfl,hT,cg,hB,hx,hy,bx,bY,hP,q⟩:=h;have hu:=hr.units;refine⟨_,(nA (@az _ _ _ _ _ (iu (pv 2) (jk rfl (aG (aI (i:=3) nF.nd rfl (Or.inr rfl)) (aG (aI (i:=4) nF.nd rfl (Or.inr rfl)) (aG (aI (i:=5) nF.nd rfl (Or.inr rfl)) dW)))))
  (@aP _ _ _ (aU (Nf (N2:=["table","one","other","x","y","z"]) (te:=(ku (rI lH λi j=> .int (i*j)) (bU 0) (ku (GL λi j=> .int (i+j)) (ku (GL λi j=> .int (i+j)) (ku (rI lH λi j=> .int (i*j)) (ku (j4 K) (bU 1) (tC (.int 0))) (bU 5)) (ku (rI lH λi j=> .int (i*j)) (ku (j4 K) (bU 1) (tC (.int 1))) (bU 6))) (ku (rI lH λi j=> .int (i*j)) (ku (j4 K) (bU 1) (tC (.int 2))) (bU 7))))) rfl (gk.depth hr) cd bm rfl zg (Dp rfl jZ (af (pv 1) (af (pv 0) ah))) (by kernel_rfl) (λ_ _ _ _=>by exact jE (av aF (pv 0) (av ck (av ck (av aF (aO aC (pv 1) ak (λ_ _=>rfl)) (pv 5)) (av aF (aO aC (pv 1) ak (λ_ _=>rfl)) (pv 6))) (av aF (aO aC (pv 1) ak (λ_ _=>rfl)) (pv 7)))))))))),?_⟩
 obtain⟨c0,c1,c2,rfl,x2,y2,w2⟩:=HR hT cg;refine⟨_,rfl,b,_,rfl,aZ.of hy,rfl,_,_,rfl,_,_,rfl,_,_,rfl,rfl,?_⟩;refine⟨_,rfl,_,rfl,a,t,_,_,rfl,aZ.of hx,aZ.of hT.1,Nh (aZ.of hx) (aZ.of hT.1) rfl hP (λi=>x i*(ent m i 0*y 0+ent m i 1*y 1+ent m i 2*y 2)) (λi u v eu ev H' Q' sm k=> ?_) (λH' sm=> ?_)⟩
 ·have hi:i<3:=(aat.mp eu).1
  obtain⟨c,e1,e2,_⟩:=bC (hT.same sm) cg hi;have Wr:u= .int (x i):=by
   rcases aW hi with rfl|rfl|rfl<;>exact(Option.some.inj eu).symm
  have ev':v= .ref c:=by
   have q1:=gS ev;rw[e1]at q1;exact(Option.some.inj q1).symm
  subst Wr ev';have b0:=cu (hB i 0 hi (by decide)) (bY 0 (by decide));have b1:=cu (hB i 1 hi (by decide)) (bY 1 (by decide));have b2:=cu (hB i 2 hi (by decide)) (bY 2 (by decide));have bs:=kH (kH b0 b1) (aK b2 (by decide));exact⟨_,rfl,_,rfl,c,_,_,_,rfl,rfl,aZ.of e2,rfl,_,rfl,_,_,rfl,rfl,⟨aK (hB i 0 hi (by decide)) (by decide),aK (bY 0 (by decide)) (by decide)⟩,_,rfl,c,_,_,_,rfl,rfl,aZ.of e2,rfl,_,rfl,_,_,rfl,rfl,⟨aK (hB i 1 hi (by decide)) (by decide),aK (bY 1 (by decide)) (by decide)⟩,_,_,rfl,rfl,_,rfl,c,_,_,_,rfl,rfl,aZ.of e2,rfl,_,rfl,_,_,rfl,rfl,⟨aK (hB i 2 hi (by decide)) (by decide),aK (bY 2 (by decide)) (by decide)⟩,_,_,rfl,rfl,_,_,rfl,rfl,⟨aK (bx i hi) (by decide),aK bs (by decide)⟩,k H' (ay.refl _)⟩
 ·have e:ac3 (λi=>x i*(ent m i 0*y 0+ent m i 1*y 1+ent m i 2*y 2)) 3=au m x y:=by
   rw[aT];show 0+x 0*(ent m 0 0*y 0+ent m 0 1*y 1+ent m 0 2*y 2)+x 1*(ent m 1 0*y 0+ent m 1 1*y 1+ent m 1 2*y 2)+x 2*(ent m 2 0*y 0+ent m 2 1*y 1+ent m 2 2*y 2)=_
   grind
  have q:=q H' sm;rw[<-e]at q;exact q
inductive rM(T0:Addr)(vs:List V)(H:Hp)(Q:VK)(E:XK):Prop
 |mk(t:Addr)(bs:List Addr)(m:List (List Int))(a:Addr)(x:Nat->Int)(_:vs=[.ref t,.ref a])(_:Tab H t bs m)(_:aY m)(_:Bd 1000 m)(_:bJ H a x)(_:∀i,i<3->(x i).natAbs<2^1000)(_:H T0=some (eN T0))(_:∀H',ay H H'->Q (.int (cN m x)) H')
theorem KU{aE:Addr}(F:fZ K mg "worth" Ad nG)(cI:dO P w K mg base dz 1 "pairing" gW (qx aE)):dO P w K mg base dz 2 "worth" nG (rM aE):=by
 refine F.ok KR (λvs H Q E h=> ?_) (λf cdv A outer s H vs Q E hr h=> ?_)
 ·obtain⟨t,bs,m,a,x,rfl,hT,cg,hB,hx,bx,hP,q⟩:=h
  rfl
 obtain⟨t,bs,m,a,x,rfl,hT,cg,hB,hx,bx,hP,q⟩:=h;have hu:=hr.units;refine⟨_,(dQ (aU (av fP (aN cI hr rfl aM (af (pv 0) (af (pv 1) (af (pv 1) ah)))) ak))),?_⟩;exact⟨_,rfl,_,rfl,_,rfl,t,bs,m,a,a,x,x,rfl,hT,cg,hB,hx,hx,bx,bx,hP,λH' sm=>⟨_,_,rfl,rfl,⟨by decide,by decide⟩,q H' sm⟩⟩
inductive xh(vs:List V)(H:Hp)(Q:VK)(E:XK):Prop
 |mk(a:Addr)(y:Nat->Int)(q:Int)(b:Addr)(x:Nat->Int)(_:vs=[.ref a,.int q,.ref b])(_:bJ H a y)(_:bJ H b x)(_:q.natAbs<2^4096)(_:∀i,i<3->(x i).natAbs<2^4096)(_:∀r H',ay H H'->H r=none->bJ H' r (jt y q x) ->Q (.ref r) H')
theorem yd(F:fZ K mg "less_times" nH gX)(jZ:mg "zip"=none):dO P w K mg base dz 1 "less_times" gX xh:=by
 refine F.ok yc (λvs H Q E h=> ?_) (λf cdv A outer s H vs Q E hr h=> ?_)
 ·obtain⟨a,y,q,b,x,rfl,hy,hx,bq,bx,k⟩:=h
  rfl
 obtain⟨a,y,q,b,x,rfl,hy,hx,bq,bx,k⟩:=h;have hu:=hr.units;refine⟨_,(dQ (aU (Dq (N2:=["row","times","other"]) (te:=(ku (GL λi j=> .int (i-j)) (bU 0) (ku (rI lH λi j=> .int (i*j)) (bU 3) (bU 1)))) rfl (Dp rfl jZ (af (pv 0) (af (pv 2) ah))) (by kernel_rfl) rfl (λ_ _ _=>by exact jE (av d9 (pv 0) (av aF (pv 3) (pv 1))))))),?_⟩;refine⟨_,rfl,_,rfl,a,b,_,_,rfl,aZ.of hy,aZ.of hx,λD hD=>Bv (aZ.of hy) (aZ.of hx) rfl (by show 3<=sizeLine;decide) hD (λu v=>match u,v with| .int i,.int j=> .int (i-q*j)|_,_=> .gF) (λn u v eu ev G Q' sm kk=> ?_) (λH5 s5 e5=>k D H5 s5 hD e5)⟩;have hn:n<3:=(aat.mp eu).1;have Wr:u= .int (y n):=by rcases aW hn with rfl|rfl|rfl<;>exact(Option.some.inj eu).symm
 have ev':v= .int (x n):=by rcases aW hn with rfl|rfl|rfl<;>exact(Option.some.inj ev).symm
 subst Wr ev';exact⟨_,rfl,_,rfl,_,rfl,_,_,rfl,rfl,⟨bq,bx n hn⟩,_,_,rfl,rfl,kk⟩
inductive OO(vs:List V)(H:Hp)(Q:VK)(E:XK):Prop
 |mk(P A:Int)(_:vs=[.int P,.int A])(_:0<A)(_:(2*A).natAbs.log2<9000)(_:Q (.int ((2*P+A)/(2*A))) H)
theorem Ei(F:fZ K mg "nearest" tD mW):dO P w K mg base dz 1 "nearest" mW OO:=by
 refine F.ok DX (λvs H Q E h=> ?_) (λf cdv A outer s H vs Q E hr h=> ?_)
 ·obtain⟨P,A,rfl,hA,bA,q⟩:=h
  rfl
 obtain⟨P,A,rfl,hA,bA,q⟩:=h;have hu:=hr.units;refine⟨_,(dQ (aU (av oJ (av ck (av jA ak (pv 0)) (pv 1)) (av jA ak (pv 1))))),?_⟩;exact⟨_,rfl,_,_,rfl,rfl,.inl ⟨by decide,by decide⟩,_,rfl,_,_,rfl,rfl,_,rfl,_,_,rfl,rfl,.inl ⟨by decide,by decide⟩,_,_,rfl,rfl,⟨by show(0:Int)<2*A;omega,bA⟩,q⟩
inductive BX(T0:Addr)(vs:List V)(H:Hp)(Q:VK)(E:XK):Prop
 |mk(t:Addr)(bs:List Addr)(m:List (List Int))(a b:Addr)(x y:Nat->Int)(w:Int)(_:vs=[.ref t,.ref a,.ref b])(_:Tab H t bs m)(_:aY m)(_:Bd 440 m)(_:br m)(_:bQ m=true)(_:bJ H a x)(_:bJ H b y)(_:∃t,bW x y t≠0)(_:aQ m x<=w)(_:aQ m y<=w)(_:w.natAbs<2^446)(_:H T0=some (eN T0))(_:∀a' b' x' y' P H',nE m x' y'->iy m x y x' y'->aQ m x'<=w->aQ m y'<=w->ay H H'->bJ H' a' x'->bJ H' b' y'->H' P=some (.tup [.ref a',.ref b']) ->Q (.ref P) H')
theorem ye{aE:Addr}(F:fZ K mg "least_pair" nI iN)(gf:dO P w K mg base dz 3 "less_times" gX xh)(tQ:dO P w K mg base dz 3 "nearest" mW OO)(cI:dO P w K mg base dz 3 "pairing" gW (qx aE))(iS:dO P w K mg base dz 3 "worth" nG (rM aE)):dO P w K mg base dz 4 "least_pair" iN (BX aE):=by
 refine F.ok lY (λvs H Q E h=> ?_) (λf cdv A outer s H vs Q E hr h=> ?_)
 ·obtain⟨t,bs,m,a,b,x,y,w,rfl,hT,cg,hB,ev,ab,hx,hy,⟨t0,ind⟩,wx,wy,bw,hP,q⟩:=h
  rfl
 obtain⟨t,bs,m,a,b,x,y,w,rfl,hT,cg,hB,ev,ab,hx,hy,⟨t0,ind⟩,wx,wy,bw,hP,q⟩:=h;have hu:=hr.units;refine⟨_,(dQ (vZ PassesOwn.never (iG ow) (nA (@az _ _ _ _ _ (aV (i:=2) lY.nd rfl (Or.inl rfl) (aN gf hr rfl aM (af (pv 2) (af (aN tQ hr rfl aM (af (aN cI hr rfl aM (af (pv 0) (af (pv 1) (af (pv 2) ah)))) (af (aN cI hr rfl aM (af (pv 0) (af (pv 1) (af (pv 1) ah)))) ah))) (af (pv 1) ah)))))
  (@az _ _ _ _ _ (eF (cQ Je (aN iS hr rfl aM (af (pv 0) (af (pv 2) ah))) (aN iS hr rfl aM (af (pv 0) (af (pv 1) ah))) (cP _)) (@aP _ _ _ (aU (gz (af (pv 1) (af (pv 2) ah))))) eE)
  (@aP _ _ _ (vY (i:=1) (j:=2) rfl lY.nd rfl rfl (by decide) rfl rfl (af (pv 2) (af (pv 1) ah)) rfl))))))),?_⟩
 have Po:=kg (fG ev cg) ab;have bits:∀z:Nat->Int,aQ m z<=w-> ∀i,i<3->(z i).natAbs<2^666:=λz hz i hi=>mS ev cg ab hB (by have:=eO Po z;(clear hi hu q hP wy wx ab;omega)) hi;refine v5 (λσ H'=> ∃(a' b':Addr)(x' y':Nat->Int),σ=[some (.ref t),some (.ref a'),some (.ref b')]/\ay H H'/\bJ H' a' x'/\bJ H' b' y'/\iy m x y x' y'/\aQ m x'<=w/\aQ m y'<=w) (KC m 1) ⟨a,b,x,y,rfl,ay.refl _,hx,hy,iy.refl _ _ _,wx,wy⟩ (λσ H' hh=> ?_) ?_
 rotate_left
 ·rintro σ H' Q Q' h ⟨c,e,k⟩
  exact⟨c,e,h _ _ k⟩
 obtain⟨a',b',x',y',rfl,s1,hx',hy',pr,CP,Gk⟩:=hh;have NK:bW x' y' t0≠0:=by
  obtain⟨e,he,hd⟩:=pr.det;rw[hd];rcases he with rfl|rfl
  ·rw[abU];exact ind
  ·intro z;apply ind;(clear hd Gk CP bits hu ind q hP bw wy wx ab;omega)
 have nx:0<aQ m x':=NC Po λz=>NK (DO z _ _);have bx:=bits x' CP;have bY:=bits y' Gk;refine⟨true,rfl,wg ?_⟩;have b1:∀z:Nat->Int,(∀i,i<3->(z i).natAbs<2^666) -> ∀i,i<3->(z i).natAbs<2^1000:=λz h i hi=>aK (h i hi) (by decide);refine⟨_,rfl,_,rfl,_,rfl,_,rfl,t,bs,m,a',b',x',y',rfl,hT.same s1,cg,hB.mono (by decide),hx',hy',b1 _ bx,b1 _ bY,s1 _ _ hP,λH2 s2=> ?_⟩;have s12:=s1.trans s2;refine⟨_,rfl,_,rfl,_,rfl,t,bs,m,a',a',x',x',rfl,hT.same s12,cg,hB.mono (by decide),s2 _ _ hx',s2 _ _ hx',b1 _ bx,b1 _ bx,s12 _ _ hP,λH3 s3=> ?_⟩;have HS:=s12.trans s3;have Ws:=s2.trans s3;have bP:=jq (hB) bx bY;have bA:=jq (hB) bx bx;have lg:(2*aQ m x').natAbs.log2<9000:=by
  refine(acT (by(clear bA bP b1 bY bx NK Gk CP bits hu ind q hP bw wy wx ab;omega))).mpr ?_;have c0:(2*aQ m x').natAbs<2^(2+1781):=cu (by decide) bA;exact aao c0 (aaF (by decide) (by decide))
 have bq:((2*au m x' y'+aQ m x')/(2*aQ m x')).natAbs<2^4096:=by
  refine aaL (kL _ (by omega)) ?_;have c1:(2*au m x' y').natAbs<2^(2+1781):=cu (by decide) bP;exact aK (kH c1 (aK bA (show 666+440+666+9<=2+1781 by decide))) (by decide)
 refine⟨_,_,rfl,nx,lg,_,rfl,b',y',_,a',x',rfl,Ws _ _ hy',Ws _ _ hx',bq,(λi hi=>aK (bx i hi) (by decide)),λr H4 s4 fr er=> ?_⟩;have Ej:=HS.trans s4;have Rk:=Ws.trans s4;have wl:=aaB (KD ev (y:=y') nx) Gk;have bl:=bits _ wl;have pl:=pr.trans (iy.less ev (y:=y') nx);have lp:=HG ev (y:=y') nx;have ax:bJ H4 a' x':=Rk _ _ hx';have Wt:=sI (m:=m) (i:=1) (σ:=[some (.ref t),some (.ref a'),some (.ref b')]) (by rfl) hx';generalize jt y' ((2*au m x' y'+aQ m x')/(2*aQ m x')) x'=z at er wl bl pl lp;refine⟨_,rfl,_,rfl,t,bs,m,r,z,rfl,hT.same Ej,cg,hB.mono (by decide),er,b1 _ bl,Ej _ _ hP,λH5 s5=> ?_⟩;refine⟨_,rfl,_,rfl,t,bs,m,a',x',rfl,hT.same (Ej.trans s5),cg,hB.mono (by decide),s5 _ _ ax,b1 _ bx,(Ej.trans s5) _ _ hP,λH6 s6=> ?_⟩;have Rl:=s5.trans s6;have CQ:=Ej.trans Rl;have ez:=fV ev z;have ex:=fV ev x';refine⟨_,_,rfl,rfl,_,rfl,oh (λc=> ?_) (λc=> ?_)⟩
 ·have c:cN m x'<=cN m z:=of_decide_eq_true c
  refine⟨_,rfl,_,rfl,(by show 2<=sizeLine;decide),λP UJ=> ?_⟩;have uP:=ay.up (o:= .tup [.ref a',.ref r]) UJ;exact q a' r x' z P _ ⟨nx,by show au m x' x'<=au m z z;(clear UJ lp bl wl Wt fr bq lg bA bP b1 bY bx nx NK Gk CP bits hu ind q hP bw wy wx ab;omega),lp.1,lp.2⟩ pl CP wl (CQ.trans uP) ((Rl.trans uP) _ _ ax) ((Rl.trans uP) _ _ er) ao
 ·have c:¬cN m x'<=cN m z:=λy=>c (decide_eq_true y)
  refine⟨_,rfl,_,rfl,_,_,rfl,?_⟩;refine⟨⟨r,a',z,x',rfl,CQ,Rl _ _ er,Rl _ _ ax,pl.swap,wl,CP⟩,?_⟩;have at2:=sI (m:=m) (i:=1) (σ:=[some (.ref t),some (.ref r),some (.ref a')]) (by rfl) (Rl _ _ er);show KC m 1 [some (.ref t),some (.ref r),some (.ref a')] H6<KC m 1 [some (.ref t),some (.ref a'),some (.ref b')] H';rw[Wt,at2];have:=eO Po z;have e1:aQ m z=au m z z:=rfl;have e2:aQ m x'=au m x' x':=rfl
  (clear at2 lp bl wl Wt fr bq lg bA bP b1 bY bx NK Gk CP bits hu ind q hP bw wy wx ab;omega)
inductive Ak(T1 T0:Addr)(vs:List V)(H:Hp)(Q:VK)(E:XK):Prop
 |mk(t:Addr)(bs:List Addr)(m:List (List Int))(p:Addr)(as:List Addr)(X:Addr->Nat->Int)(_:vs=[.ref t,.ref p])(_:Tab H t bs m)(_:aY m)(_:Bd 440 m)(_:H p=some (.lst (as.map V.ref)))(_:as.length<64)(_:∀b∈as,bJ H b (X b))(_:∀b∈as,(∀i,i<3->(X b i).natAbs<2^1000))(_:H T1=some (eN T1))(_:H T0=some .AM)(_:∀(Hn:Hp) (zs:List Addr),ay H Hn->zs.Perm as->zs.Pairwise (λa b=>cN m (X a)<=cN m (X b)) -> ∀r,Hn r=none->Q (.ref r) (upd Hn r (.lst (zs.map V.ref))))
theorem BY{aE bh:Addr}(F:rF K mg "in_order" qp jc bh)(bm:BM mg base)(fL:mg "sorted"=none)(iS:dO P w K mg base dz 3 "worth" nG (rM aE)):dO P w K mg base dz 7 "in_order" jc (Ak aE bh):=by
 refine F.ok BR (λvs H Q E h=> ?_) (λf cdv A outer s H vs Q E cd hr h=> ?_)
 ·obtain⟨t,bs,m,p,as,X,rfl,hT,cg,hB,hp,XO,hX,bX,hP,hC,q⟩:=h
  rfl
 obtain⟨t,bs,m,p,as,X,rfl,hT,cg,hB,hp,XO,hX,bX,hP,hC,q⟩:=h;have hu:=hr.units;refine⟨_,(dQ (aU (HM (N2:=["form","rows"]) (tb:=(mE (rM aE) [] E0 (cV (bU 1) (cV (bU 0) jB)))) rfl hr cd bm rfl fL (pv 1) (by kernel_rfl) (λ_ _ _ _ _ _=>rfl) (λ_ _ _ _ _=>by exact jE (aN iS (Kz hr) rfl aM (af (pv 1) (af (pv 0) ah))))))),?_⟩;refine⟨_,rfl,p,as.map V.ref,(λv=>match v with| .ref b=>cN m (X b)|_=>0),rfl,aZ.of hp,(by rw[aau];exact XO),hC,(λv hv Hi si=> ?_),λHn zs sn pz so r hr=> ?_⟩
 ·obtain⟨b,rfl,hb⟩:=mJ hv
  exact⟨_,rfl,_,rfl,t,bs,m,b,X b,rfl,hT.same si,cg,hB.mono (by decide),si _ _ (hX b hb),bX b hb,si _ _ hP,λH' s=>⟨rfl,s⟩⟩
 ·obtain⟨zs,rfl,ZD⟩:=HB pz
  rw[abK]at so;exact q Hn zs sn ZD so r hr
inductive KW(T1 T0:Addr)(vs:List V)(H:Hp)(Q:VK)(E:XK):Prop
 |mk(t:Addr)(bs:List Addr)(m:List (List Int))(a b c:Addr)(x y z:Nat->Int)(_:vs=[.ref t,.ref a,.ref b,.ref c])(_:Tab H t bs m)(_:aY m)(_:Bd 440 m)(_:br m)(_:bQ m=true)(_:bJ H a x)(_:bJ H b y)(_:bJ H c z)(_:nE m x y)(_:∀i,i<3->(x i).natAbs<2^666)(_:∀i,i<3->(y i).natAbs<2^666)(_:∀i,i<3->(z i).natAbs<2^666)(_:(aA m*(bW x y z*bW x y z)).natAbs<2^448)(_:(aQ m y).natAbs<2^446)(_:H T1=some (eN T1))(_:H T0=some .AM)(_:∀r z' H',Drawn m x y z z'->ay H H'->bJ H' r z'->Q (.ref r) H')
theorem BZ{aE bh:Addr}(F:fZ K mg "drawn_in" qt kP)(cI:dO P w K mg base dz 7 "pairing" gW (qx aE))(gf:dO P w K mg base dz 7 "less_times" gX xh)(iB:dO P w K mg base dz 7 "in_order" jc (Ak aE bh)):dO P w K mg base dz 8 "drawn_in" kP (KW aE bh):=by
 refine F.ok gM (λvs H Q E h=> ?_) (λf cdv A outer s H vs Q E hr h=> ?_)
 ·obtain⟨t,bs,m,a,b,c,x,y,z,rfl,hT,cg,hB,ev,ab,ha,hb,hc,lp,bx,bY,bz,bd,bw,hP,hC,q⟩:=h
  rfl
 obtain⟨t,bs,m,a,b,c,x,y,z,rfl,hT,cg,hB,ev,ab,ha,hb,hc,lp,bx,bY,bz,bd,bw,hP,hC,q⟩:=h;have hu:=hr.units;refine⟨_,(nA (@az _ _ _ _ _ (MZ (i:=4) (j:=5) (k:=6) rfl gM.nd rfl rfl rfl (by decide) (by decide) (by decide) rfl rfl rfl (af (aN cI hr rfl aM (af (pv 0) (af (pv 1) (af (pv 1) ah)))) (af (aN cI hr rfl aM (af (pv 0) (af (pv 1) (af (pv 2) ah)))) (af (aN cI hr rfl aM (af (pv 0) (af (pv 2) (af (pv 2) ah)))) ah))) rfl)
  (@az _ _ _ _ _ (vY (i:=7) (j:=8) rfl gM.nd rfl rfl (by decide) rfl rfl (af (aN cI hr rfl aM (af (pv 0) (af (pv 1) (af (pv 3) ah)))) (af (aN cI hr rfl aM (af (pv 0) (af (pv 2) (af (pv 3) ah)))) ah)) rfl)
  (@az _ _ _ _ _ (aV (i:=9) gM.nd rfl (Or.inl rfl) (av d9 (av aF (pv 4) (pv 6)) (av aF (pv 5) (pv 5))))
  (@az _ _ _ _ _ (aV (i:=10) gM.nd rfl (Or.inl rfl) (av oJ (av d9 (av aF (pv 6) (pv 7)) (av aF (pv 5) (pv 8))) (pv 9)))
  (@az _ _ _ _ _ (aV (i:=11) gM.nd rfl (Or.inl rfl) (av oJ (av d9 (av aF (pv 4) (pv 8)) (av aF (pv 5) (pv 7))) (pv 9)))
  (@az _ _ _ _ _ (aV (i:=12) gM.nd rfl (Or.inl rfl) (eU (af (gz (af (pv 10) (af (pv 11) ah))) (af (gz (af (pv 10) (af (av ck (pv 11) ak) ah))) (af (gz (af (av ck (pv 10) ak) (af (pv 11) ah))) (af (gz (af (av ck (pv 10) ak) (af (av ck (pv 11) ak) ah))) ah))))))
  (@aP _ _ _ (aU (aO aC (aN iB hr rfl aM (af (pv 0) (af (Dq (N2:=["form","one","other","third","across","along","aside","by_one","by_other","area","first","second","corners"]) (te:=(mE xh [] E0 (cV (mE xh [] E0 (cV (bU 5) (cV (bU 0) (cV (bU 3) jB)))) (cV (bU 1) (cV (bU 4) jB))))) rfl (eT (pv 12)) (by kernel_rfl) rfl (λ_ _ _=>by exact jE (aN gf hr rfl aM (af (aN gf hr rfl aM (af (pv 5) (af (pv 0) (af (pv 3) ah)))) (af (pv 1) (af (pv 4) ah)))))) ah))) ak (λ_ _=>rfl))))))))))),?_⟩
 have b1:∀v:Nat->Int,(∀i,i<3->(v i).natAbs<2^666) -> ∀i,i<3->(v i).natAbs<2^1000:=λv h i hi=>aK (h i hi) (by decide);have Po:=kg (fG ev cg) ab;obtain⟨_,ap⟩:=lp.Aa;have s0:=ay.refl H;refine⟨_,rfl,_,rfl,_,rfl,t,bs,m,a,a,x,x,rfl,hT.same s0,cg,hB.mono (by decide),s0 _ _ ha,s0 _ _ ha,b1 _ bx,b1 _ bx,s0 _ _ hP,λH1 s1=> ?_⟩;refine⟨_,rfl,_,rfl,_,rfl,t,bs,m,a,b,x,y,rfl,hT.same s1,cg,hB.mono (by decide),s1 _ _ ha,s1 _ _ hb,b1 _ bx,b1 _ bY,s1 _ _ hP,λH2 s2=> ?_⟩;have s12:=s1.trans s2;refine⟨_,rfl,_,rfl,_,rfl,t,bs,m,b,b,y,y,rfl,hT.same s12,cg,hB.mono (by decide),s12 _ _ hb,s12 _ _ hb,b1 _ bY,b1 _ bY,s12 _ _ hP,λH3 s3=> ?_⟩;have HS:=s12.trans s3;refine⟨_,_,_,rfl,?_⟩;refine⟨_,rfl,_,rfl,_,rfl,t,bs,m,a,c,x,z,rfl,hT.same HS,cg,hB.mono (by decide),HS _ _ ha,HS _ _ hc,b1 _ bx,b1 _ bz,HS _ _ hP,λH4 s4=> ?_⟩;have Ej:=HS.trans s4;refine⟨_,rfl,_,rfl,_,rfl,t,bs,m,b,c,y,z,rfl,hT.same Ej,cg,hB.mono (by decide),Ej _ _ hb,Ej _ _ hc,b1 _ bY,b1 _ bz,Ej _ _ hP,λH5 s5=> ?_⟩;have NL:=Ej.trans s5;refine⟨_,_,rfl,?_⟩;have c1:=jq hB bx bx;have c2:=jq hB bx bY;have c3:=jq hB bY bY;have c4:=jq hB bx bz;have c5:=jq hB bY bz;have up:∀{v:Int},v.natAbs<2^(666+440+666+9) ->v.natAbs<2^4096:=λh=>aK h (by decide);refine⟨_,rfl,_,rfl,_,_,rfl,rfl,⟨up c1,up c3⟩,_,rfl,_,rfl,_,_,rfl,rfl,⟨up c2,up c2⟩,_,_,rfl,rfl,?_⟩;have bA:(aq m x y).natAbs<2^3600:=aK (lS (cu c1 c3) (cu c2 c2)) (by decide);have bS:(bL m x y z).natAbs<2^3600:=aK (lS (cu c3 c4) (cu c2 c5)) (by decide);have bR:(bO m x y z).natAbs<2^3600:=aK (lS (cu c1 c5) (cu c2 c4)) (by decide);have lg:(aq m x y).natAbs.log2<9000:=(acT (by show(aq m x y).natAbs≠0;have:0<aq m x y:=ap;(clear bR bS bA up c5 c4 c3 c2 c1 ap b1 hu q hC hP bw bd bz bY bx ab;omega))).mpr (aao bA (aaF (by decide) (by decide)));refine⟨_,rfl,_,rfl,_,_,rfl,rfl,⟨up c3,up c4⟩,_,rfl,_,rfl,_,_,rfl,rfl,⟨up c2,up c5⟩,_,_,rfl,rfl,_,rfl,_,_,rfl,rfl,⟨ap,lg⟩,?_⟩;refine⟨_,rfl,_,rfl,_,_,rfl,rfl,⟨up c1,up c5⟩,_,rfl,_,rfl,_,_,rfl,rfl,⟨up c2,up c4⟩,_,_,rfl,rfl,_,rfl,_,_,rfl,rfl,⟨ap,lg⟩,?_⟩;have bF:(bL m x y z/aq m x y).natAbs<2^3600:=aaL (kL _ ap) bS;have bG:(bO m x y z/aq m x y).natAbs<2^3600:=aaL (kL _ ap) bR;refine⟨_,rfl,_,rfl,(by show 2<=sizeLine;decide),λp0 g0=>⟨_,rfl,_,rfl,_,_,rfl,rfl,(by show 2<=sizeLine;decide),λp1 g1=>⟨_,rfl,_,_,rfl,rfl,_,rfl,(by show 2<=sizeLine;decide),λp2 g2=>⟨_,rfl,_,_,rfl,rfl,_,rfl,_,_,rfl,rfl,(by show 2<=sizeLine;decide),λp3 g3=>⟨(by show 4<=sizeLine;decide),λL gL=> ?_⟩⟩⟩⟩⟩;have v0:=ay.up (o:= .tup [.int (bL m x y z/aq m x y),.int (bO m x y z/aq m x y)]) g0;have v1:=ay.up (o:= .tup [.int (bL m x y z/aq m x y),.int ((bO m x y z/aq m x y)+1)]) g1;have v2:=ay.up (o:= .tup [.int ((bL m x y z/aq m x y)+1),.int (bO m x y z/aq m x y)]) g2;have v3:=ay.up (o:= .tup [.int ((bL m x y z/aq m x y)+1),.int ((bO m x y z/aq m x y)+1)]) g3;have vL:=ay.up (o:= .lst [.ref p0,.ref p1,.ref p2,.ref p3]) gL;have XQ:=v3.trans vL;have XR:=v2.trans XQ;have XS:=v1.trans XR;have vv:=v0.trans XS;have t0:=XS _ _ (ao (H:=H5) (a:=p0) (o:= .tup [.int (bL m x y z/aq m x y),.int (bO m x y z/aq m x y)]));have t1:=XR _ _ (ao (a:=p1) (o:= .tup [.int (bL m x y z/aq m x y),.int ((bO m x y z/aq m x y)+1)]));have t2:=XQ _ _ (ao (a:=p2) (o:= .tup [.int ((bL m x y z/aq m x y)+1),.int (bO m x y z/aq m x y)]));have t3:=vL _ _ (ao (a:=p3) (o:= .tup [.int ((bL m x y z/aq m x y)+1),.int ((bO m x y z/aq m x y)+1)]));have Qy:=NL.trans vv;refine⟨_,rfl,_,rfl,L,rfl,⟨_,aZ.of ao⟩,λD hD=>HD (ji (aZ.of ao)) (by show 4<=sizeLine;decide) hD (λj=> .int (if j<2 then(bL m x y z/aq m x y)else(bL m x y z/aq m x y)+1)) (λj=> .int (if j%2=0 then(bO m x y z/aq m x y)else(bO m x y z/aq m x y)+1)) (λj v ev'=> ?_) (λj v H=> ∃r,v= .ref r/\r≠D/\bJ H r (b8 z (if j<2 then(bL m x y z/aq m x y)else(bL m x y z/aq m x y)+1) x (if j%2=0 then(bO m x y z/aq m x y)else(bO m x y z/aq m x y)+1) y)) (λj v H H' h off=> ?_) (λj hj H6 Q6 s6 eD k6=> ?_) (λws H6 s6 lw rel eD=> ?_)⟩
 ·have hj:j<4:=(aat.mp ev').1
  obtain rfl|rfl|rfl|rfl:j=0∨j=1∨j=2∨j=3:=by(clear ev' hD t3 t2 t1 t0 gL g3 g2 g1 g0 bG bF lg bR bS bA up c5 c4 c3 c2 c1 ap b1 hu q hC hP bw bd bz bY bx ab;omega)
  ·exact⟨p0,(Option.some.inj ev').symm,nZ.of t0⟩
  ·exact⟨p1,(Option.some.inj ev').symm,nZ.of t1⟩
  ·exact⟨p2,(Option.some.inj ev').symm,nZ.of t2⟩
  ·exact⟨p3,(Option.some.inj ev').symm,nZ.of t3⟩
 ·obtain⟨r,e,nr,hr⟩:=h
  exact⟨r,e,nr,off _ _ nr hr⟩
 ·have sa:=Qy.trans s6
  have b4:∀{v:Int},v.natAbs<2^3600->(v+1).natAbs<2^4096:=λh=>aK (kH h (show(1:Int).natAbs<2^3600 from aK (a:=1) (by decide) (by decide))) (by decide);have bi:(if j<2 then(bL m x y z/aq m x y)else(bL m x y z/aq m x y)+1).natAbs<2^4096:=by split;exact aK bF (by decide);exact b4 bF
  have bj:(if j%2=0 then(bO m x y z/aq m x y)else(bO m x y z/aq m x y)+1).natAbs<2^4096:=by split;exact aK bG (by decide);exact b4 bG
  obtain⟨oD,eD⟩:=eD;refine⟨_,rfl,_,rfl,_,rfl,c,z,_,a,x,rfl,sa _ _ hc,sa _ _ ha,bi,(λi hi=>aK (bx i hi) (by decide)),λr1 H7 s7 f1 e1=> ?_⟩;refine⟨_,rfl,_,rfl,r1,_,_,b,y,rfl,e1,(sa.trans s7) _ _ hb,bj,(λi hi=>aK (bY i hi) (by decide)),λr2 H8 s8 f2 e2=> ?_⟩;exact k6 (.ref r2) H8 (s7.trans s8) ⟨r2,rfl,(λw=>by rw[w,s7 _ _ eD]at f2;cases f2),e2⟩
 have Wu:ws.length=4:=lw;obtain⟨w0,w1,w2,w3,rfl⟩:∃a b c d,ws=[a,b,c,d]:=by
  match ws,Wu with
  | [a,b,c,d],_=>exact⟨a,b,c,d,rfl⟩
 obtain⟨r0,rfl,_,x0⟩:=rel 0 _ rfl;obtain⟨r1,rfl,_,x1⟩:=rel 1 _ rfl;obtain⟨r2,rfl,_,x2⟩:=rel 2 _ rfl;obtain⟨r3,rfl,_,x3⟩:=rel 3 _ rfl;have x0:bJ H6 r0 (b8 z (bL m x y z/aq m x y) x (bO m x y z/aq m x y) y):=x0;have x1:bJ H6 r1 (b8 z (bL m x y z/aq m x y) x ((bO m x y z/aq m x y)+1) y):=x1;have x2:bJ H6 r2 (b8 z ((bL m x y z/aq m x y)+1) x (bO m x y z/aq m x y) y):=x2;have x3:bJ H6 r3 (b8 z ((bL m x y z/aq m x y)+1) x ((bO m x y z/aq m x y)+1) y):=x3;have CQ:=Qy.trans s6;have D0:0<=aA m:=aas (gU ab).2.2;have each:∀r∈ [r0,r1,r2,r3],∃i j,(i=(bL m x y z/aq m x y)∨i=(bL m x y z/aq m x y)+1)/\(j=(bO m x y z/aq m x y)∨j=(bO m x y z/aq m x y)+1)/\bJ H6 r (b8 z i x j y):=λr hr=>by
  simp only[aar,aaJ,or_false]at hr;rcases hr with rfl|rfl|rfl|rfl
  ·exact⟨_,_,.inl rfl,.inl rfl,x0⟩
  ·exact⟨_,_,.inl rfl,.inr rfl,x1⟩
  ·exact⟨_,_,.inr rfl,.inl rfl,x2⟩
  ·exact⟨_,_,.inr rfl,.inr rfl,x3⟩
 have same:∀{r:Addr}{v:Nat->Int},bJ H6 r v->aQ m (aL (dR H6 r))=aQ m v:=λh=>eH (iM h) (iM h);refine⟨t,bs,m,D,[r0,r1,r2,r3],(λr=>aL (dR H6 r)),rfl,hT.same CQ,cg,hB,eD,(by show 4<64;decide),(λr hr=> ?_),(λr hr i hi=> ?_),CQ _ _ hP,CQ _ _ hC,λHn zs sn pz so p hp=> ?_⟩
 ·obtain⟨i,j,_,_,h⟩:=each r hr
  exact Ab h
 ·obtain⟨i',j',hi',hj',h⟩:=each r hr
  show(aL (dR H6 r) i).natAbs<2^1000;rw[iM h i hi];have cl:=HJ ev lp hi' hj' D0;have n0:=eO Po (b8 z i' x j' y);refine aK (mS ev cg ab hB ?_ hi) (by decide);have k1:=Rg D0 (bI (bW x y z));have k2:0<=aQ m y:=eO Po y;have k3:(aA m*(bW x y z*bW x y z)+3*aQ m y).natAbs<2^(448+1):=kH bd (aK (cu (show(3:Int).natAbs<2^2 by decide) bw) (by decide));refine aaL ?_ (aK k3 (show 448+1<=450 by decide))
  (clear hj' hi' hi same each D0 Wu eD rel lw hD t3 t2 t1 t0 gL g3 g2 g1 g0 bG bF lg bR bS bA up c5 c4 c3 c2 c1 ap b1 hu q hC hP bw bd bz bY bx ab;omega)
 have ZE:∃ZF rest,zs=ZF::rest:=by
  cases zs with
  |nil=>have:=pz.length_eq;simp at this
  |cons r rest=>exact⟨r,rest,rfl⟩
 obtain⟨rz,rest,rfl⟩:=ZE;obtain⟨i,j,hi,hj,hz⟩:=each rz (pz.mem_iff.mp aaD);have least:∀r∈ [r0,r1,r2,r3],aQ m (b8 z i x j y)<=aQ m (aL (dR H6 r)):=λr hr=>by
  rw[<-same hz];rcases aar.mp (pz.mem_iff.mpr hr)with e|hr'
  ·rw[e]
   exact aaZ _
  ·have:cN m (aL (dR H6 rz))<=cN m (aL (dR H6 r)):=(ab7.mp so).1 r hr'
   have p1:=fV ev (aL (dR H6 rz));have p2:=fV ev (aL (dR H6 r));show au m _ _<=au m _ _
   (clear hj hi hp same each D0 Wu eD rel lw hD t3 t2 t1 t0 gL g3 g2 g1 g0 bG bF lg bR bS bA up c5 c4 c3 c2 c1 ap b1 hu q hC hP bw bd bz bY bx ab;omega)
 have sF:=CQ.trans (sn.trans (ay.up (o:= .lst ((rz::rest).map V.ref)) hp));refine⟨p,_,_,_,rfl,rfl,aZ.of ao,Kg,q rz _ _ (KJ ev lp hi hj λi' j' hi' hj'=> ?_) sF ((sn.trans (ay.up hp)) _ _ hz)⟩;rcases hi' with rfl|rfl<;>rcases hj' with rfl|rfl
 ·rw[<-same x0];exact least r0 (by simp)
 ·rw[<-same x1];exact least r1 (by simp)
 ·rw[<-same x2];exact least r2 (by simp)
 ·rw[<-same x3];exact least r3 (by simp)
inductive Gm(T1 T0:Addr)(vs:List V)(H:Hp)(Q:VK)(E:XK):Prop
 |mk(t:Addr)(bs:List Addr)(m:List (List Int))(_:vs=[.ref t])(_:Tab H t bs m)(_:aY m)(_:Bd 440 m)(_:br m)(_:bQ m=true)(_:(aA m).natAbs<2^440)(_:H T1=some (eN T1))(_:H T0=some .AM)(_:∀(r a b c:Addr) (x y z:Nat->Int) H',Ge m x y z->ay H H'->H r=none->H' r=some (.lst [.ref a,.ref b,.ref c]) ->bJ H' a x->bJ H' b y->bJ H' c z->Q (.ref r) H')
theorem yf{aE bh:Addr}(F:fZ K mg "near_basis" nJ iO)(iB:dO P w K mg base dz 8 "in_order" jc (Ak aE bh))(nL:dO P w K mg base dz 8 "least_pair" iN (BX aE))(qy:dO P w K mg base dz 8 "drawn_in" kP (KW aE bh))(iS:dO P w K mg base dz 8 "worth" nG (rM aE)):dO P w K mg base dz 9 "near_basis" iO (Gm aE bh):=by
 refine F.ok dH (λvs H Q E h=> ?_) (λf cdv A outer s H vs Q E hr h=> ?_)
 ·obtain⟨t,bs,m,rfl,hT,cg,hB,ev,ab,bD,hP,hC,q⟩:=h
  rfl
 obtain⟨t,bs,m,rfl,hT,cg,hB,ev,ab,bD,hP,hC,q⟩:=h;have hu:=hr.units;refine⟨_,(nA (@az _ _ _ _ _ (iu (aN iB hr rfl aM (af (pv 0) (af (eU (af (eU (af ak (af ak (af ak ah)))) (af (eU (af ak (af ak (af ak ah)))) (af (eU (af ak (af ak (af ak ah)))) ah)))) ah))) (jk rfl (aG (aI (i:=1) dH.nd rfl (Or.inl rfl)) (aG (aI (i:=2) dH.nd rfl (Or.inl rfl)) (aG (aI (i:=3) dH.nd rfl (Or.inl rfl)) dW)))))
  (@aP _ _ _ (vZ PassesOwn.never (iG ow) (nA (@az _ _ _ _ _ (iu (aN nL hr rfl aM (af (pv 0) (af (pv 1) (af (pv 2) ah)))) (kr rfl (aG (aI (i:=1) dH.nd rfl (Or.inl rfl)) (aG (aI (i:=2) dH.nd rfl (Or.inl rfl)) dW))))
  (@az _ _ _ _ _ (aV (i:=3) dH.nd rfl (Or.inl rfl) (aN qy hr rfl aM (af (pv 0) (af (pv 1) (af (pv 2) (af (pv 3) ah))))))
  (@az _ _ _ _ _ (eF (cQ Je (aN iS hr rfl aM (af (pv 0) (af (pv 3) ah))) (aN iS hr rfl aM (af (pv 0) (af (pv 2) ah))) (cP _)) (@aP _ _ _ (aU (eU (af (pv 1) (af (pv 2) (af (pv 3) ah)))))) eE)
  (@aP _ _ _ (iu (aN iB hr rfl aM (af (pv 0) (af (eU (af (pv 1) (af (pv 2) (af (pv 3) ah)))) ah))) (jk rfl (aG (aI (i:=1) dH.nd rfl (Or.inl rfl)) (aG (aI (i:=2) dH.nd rfl (Or.inl rfl)) (aG (aI (i:=3) dH.nd rfl (Or.inl rfl)) dW)))))))))))))),?_⟩
 have Po:=kg (fG ev cg) ab;have bits:∀z:Nat->Int,aQ m z<=(2^440:Int) -> ∀i,i<3->(z i).natAbs<2^666:=λz hz i hi=>mS ev cg ab hB (by have:=eO Po z;(clear hi hu q hC hP bD ab;omega)) hi;have b1:∀v:Nat->Int,(∀i,i<3->(v i).natAbs<2^666) -> ∀i,i<3->(v i).natAbs<2^1000:=λv h i hi=>aK (h i hi) (by decide);have ord:∀{H1:Hp}{a b c:Addr}{x y z:Nat->Int},bJ H1 a x->bJ H1 b y->bJ H1 c z->(bW x y z=1∨bW x y z= -1) ->aQ m x<=(2^440:Int) ->aQ m y<=(2^440:Int) ->aQ m z<=(2^440:Int) ->
   (∀r∈ [a,b,c],bJ H1 r (aL (dR H1 r)))/\(∀r∈ [a,b,c],∀i,i<3->(aL (dR H1 r) i).natAbs<2^1000)/\ ∀zs:List Addr,zs.Perm [a,b,c] ->zs.Pairwise (λa b=>cN m (aL (dR H1 a))<=cN m (aL (dR H1 b))) ->
   ∃(p q r:Addr)(x1 y1 z1:Nat->Int),zs=[p,q,r]/\bJ H1 p x1/\bJ H1 q y1/\bJ H1 r z1/\(bW x1 y1 z1=1∨bW x1 y1 z1= -1)/\aQ m x1<=(2^440:Int)/\aQ m y1<=(2^440:Int)/\aQ m z1<=(2^440:Int)/\aQ m x1+aQ m y1<=aQ m x+aQ m z:=λ {H1 a b c x y z} ha hb hc un wx wy wz=>by
  have same:∀{r:Addr}{v:Nat->Int},bJ H1 r v->aQ m (aL (dR H1 r))=aQ m v:=λh=>eH (iM h) (iM h);have each:∀r∈ [a,b,c],bJ H1 r (aL (dR H1 r))/\aQ m (aL (dR H1 r))<=(2^440:Int):=λr hr=>by
   simp only[aar,aaJ,or_false]at hr;rcases hr with rfl|rfl|rfl
   ·exact⟨Ab ha,by rw[same ha];exact wx⟩
   ·exact⟨Ab hb,by rw[same hb];exact wy⟩
   ·exact⟨Ab hc,by rw[same hc];exact wz⟩
  refine⟨λr hr=>(each r hr).1,λr hr=>b1 _ (bits _ (each r hr).2),λzs pz so=> ?_⟩;obtain⟨p,q,r,rfl,hp,hq,hr,dt,sum⟩:=Qx (X:=λr=>aL (dR H1 r)) ev pz so;refine⟨p,q,r,_,_,_,rfl,(each p hp).1,(each q hq).1,(each r hr).1,?_,(each p hp).2,(each q hq).2,(each r hr).2,by rw[<-same ha,<-same hc];exact sum⟩;have e:=KO (iM ha) (iM hb) (iM hc);rcases un with u|u<;>rcases dt with d|d<;>rw[e,u]at d<;>rw[d]<;>simp
 refine⟨_,rfl,(by show 3<=sizeLine;decide),λa0 h0=>⟨(by show 3<=sizeLine;decide),λa1 h1=>⟨(by show 3<=sizeLine;decide),λa2 h2=>⟨(by show 3<=sizeLine;decide),λA hA=> ?_⟩⟩⟩⟩;have v0:=ay.up (o:= .lst [.int 1,.int 0,.int 0]) h0;have v1:=ay.up (o:= .lst [.int 0,.int 1,.int 0]) h1;have v2:=ay.up (o:= .lst [.int 0,.int 0,.int 1]) h2;have vA:=ay.up (o:= .lst [.ref a0,.ref a1,.ref a2]) hA;have sA:=v0.trans (v1.trans (v2.trans vA));have r0:bJ _ a0 (yV 0 1):=vA _ _ (v2 _ _ (v1 _ _ (ao (H:=H) (a:=a0) (o:= .lst [.int 1,.int 0,.int 0]))));have r1:bJ _ a1 (yV 1 1):=vA _ _ (v2 _ _ (ao (a:=a1) (o:= .lst [.int 0,.int 1,.int 0])));have r2:bJ _ a2 (yV 2 1):=vA _ _ (ao (a:=a2) (o:= .lst [.int 0,.int 0,.int 1]));have wE:∀i,i<3->aQ m (yV i 1)<=(2^440:Int):=λi hi=>by
  rw[wQ m hi];have:=hB i i hi hi;omega
 obtain⟨o1,o2,o3⟩:=ord r0 r1 r2 (.inl (by decide)) (wE 0 (by decide)) (wE 1 (by decide)) (wE 2 (by decide));refine⟨t,bs,m,A,[a0,a1,a2],_,rfl,hT.same sA,cg,hB,ao,(by show 3<64;decide),o1,o2,sA _ _ hP,sA _ _ hC,λHn zs sn pz so R hR=> ?_⟩;obtain⟨a,b,c,x,y,z,rfl,hx,hy,hz,un,wx,wy,wz,_⟩:=o3 zs pz so;have uR:=ay.up (o:= .lst ([a,b,c].map V.ref)) hR;have s1:=sn.trans uR;have hx:=s1 _ _ hx;have hy:=s1 _ _ hy;have hz:=s1 _ _ hz;have eR:upd Hn R (.lst ([a,b,c].map V.ref)) R=some (.lst [.ref a,.ref b,.ref c]):=ao;have sH:=sA.trans s1;refine⟨R,[.ref a,.ref b,.ref c],rfl,aZ.of eR,rfl,_,_,rfl,_,_,rfl,_,_,rfl,rfl,?_⟩;refine v5 (λσ H'=> ∃(a b c:Addr)(x y z:Nat->Int),σ=[some (.ref t),some (.ref a),some (.ref b),some (.ref c)]/\ay H H'/\bJ H' a x/\bJ H' b y/\bJ H' c z/\(bW x y z=1∨bW x y z= -1)/\aQ m x<=(2^440:Int)/\aQ m y<=(2^440:Int)/\aQ m z<=(2^440:Int)) (λσ H=>KC m 1 σ H+KC m 2 σ H) ⟨a,b,c,x,y,z,rfl,sH,hx,hy,hz,un,wx,wy,wz⟩ (λσ H' hh=> ?_) ?_
 rotate_left
 ·rintro σ H' Q Q' h ⟨c,e,k⟩
  exact⟨c,e,h _ _ k⟩
 obtain⟨a,b,c,x,y,z,rfl,s1,hx,hy,hz,un,wx,wy,wz⟩:=hh;refine⟨true,rfl,wg ?_⟩;have ne:bW x y z≠0:=by omega
 refine⟨_,rfl,_,rfl,_,rfl,t,bs,m,a,b,x,y,(2^440:Int),rfl,hT.same s1,cg,hB,ev,ab,hx,hy,⟨z,ne⟩,wx,wy,(by decide),s1 _ _ hP,λa' b' x' y' P H2 lp pr CP Gk s2 hx' hy' eP=> ?_⟩;refine⟨P,[.ref a',.ref b'],rfl,nZ.of eP,rfl,_,_,rfl,_,_,rfl,rfl,?_⟩;have s12:=s1.trans s2;have un':bW x' y' z=1∨bW x' y' z= -1:=by
  obtain⟨e,he,hd⟩:=pr.det;rw[hd];rcases he with rfl|rfl<;>rcases un with u|u<;>rw[u]<;>simp
 have one:bW x' y' z*bW x' y' z=1:=by rcases un' with u|u<;>rw[u]<;>decide
 have ny:=eO Po y';refine⟨_,rfl,_,rfl,_,rfl,_,rfl,t,bs,m,a',b',c,x',y',z,rfl,hT.same s12,cg,hB,ev,ab,hx',hy',s2 _ _ hz,lp,bits _ CP,bits _ Gk,bits _ wz,(by rw[one,adO];exact aK bD (by decide)),(by(clear one un' eP CP ne wz wy wx un eR hR o3 o2 o1 wE hA h2 h1 h0 ord b1 bits hu q hC hP bD ab;omega)),s12 _ _ hP,s12 _ _ hC,λr z' H3 dr s3 hz'=> ?_⟩;have HS:=s12.trans s3;have nz:=eO Po z';have XT:bJ H3 a' x':=s3 _ _ hx';have Wv:bJ H3 b' y':=s3 _ _ hy';have TL:bW x' y' z'=1∨bW x' y' z'= -1:=by rw[dr.det];exact un'
 have bz:∀i,i<3->(z' i).natAbs<2^666:=λi hi=>by
  obtain⟨ar,ap⟩:=lp.Aa;have few:=dr.few;rw[one,adO]at few;have D0:=(gU ab).2.2;refine mS ev cg ab hB ?_ hi;have ki:1<=aq m x' y':=ap;have k1:aQ m z'<=aq m x' y'*aQ m z':=by
   have:=aan ki nz;omega
  have k2:4*(aq m x' y'*aQ m z')<=4*(aq m x' y'*(aA m+aQ m y')):=by
   have e1:aq m x' y'*(aA m+aQ m y')=aq m x' y'*aA m+aq m x' y'*aQ m y':=Int.mul_add ..;have e2:1*aA m<=aq m x' y'*aA m:=aan ki (aas D0);have e3:0<=aq m x' y'*aQ m y':=Rg (by omega) ny
   (clear k1 ki D0 ap ar hi TL nz ny one un' eP Gk CP ne wz wy wx un eR hR o3 o2 o1 wE hA h2 h1 h0 ord b1 bits hu q hC hP bD ab;omega)
  have k3:aQ m z'<=aA m+aQ m y':=aaW (a:=aq m x' y') (by omega) ap
  (clear k2 k1 ki few ap ar hi one eP CP wz wy wx eR hR o3 o2 o1 wE hA h2 h1 h0 ord b1 bits hu q hC hP ab;omega)
 refine⟨_,rfl,_,rfl,t,bs,m,r,z',rfl,hT.same HS,cg,hB.mono (by decide),hz',b1 _ bz,HS _ _ hP,λH4 s4=> ?_⟩;refine⟨_,rfl,_,rfl,t,bs,m,b',y',rfl,hT.same (HS.trans s4),cg,hB.mono (by decide),s4 _ _ Wv,b1 _ (bits _ Gk),(HS.trans s4) _ _ hP,λH5 s5=> ?_⟩;have Ww:=s4.trans s5;have NL:=HS.trans Ww;have ez:=fV ev z';have ey:=fV ev y';refine⟨_,_,rfl,rfl,_,rfl,oh (λcd=> ?_) (λcd=> ?_)⟩
 ·have cd:cN m y'<=cN m z':=of_decide_eq_true cd
  refine⟨_,rfl,_,rfl,_,rfl,(by show 3<=sizeLine;decide),λR hR=> ?_⟩;have uR:=ay.up (o:= .lst [.ref a',.ref b',.ref r]) hR;have Wx:=Ww.trans uR;exact q R a' b' r x' y' z' _ (ND lp dr un' (by show au m y' y'<=au m z' z';(clear hR bz TL nz ny one un' eP Gk CP ne wz wy wx un eR o3 o2 o1 wE hA h2 h1 h0 ord b1 bits hu q hC hP bD ab;omega))) (NL.trans uR) (NL.none hR) ao (Wx _ _ XT) (Wx _ _ Wv) (Wx _ _ hz')
 ·have cd:¬cN m y'<=cN m z':=λw=>cd (decide_eq_true w)
  have lt:aQ m z'<aQ m y':=by show au m z' z'<au m y' y';(clear bz TL nz ny one un' eP Gk CP ne wz wy wx un eR hR o3 o2 o1 wE hA h2 h1 h0 ord b1 bits hu q hC hP bD ab;omega)
  refine⟨_,rfl,_,rfl,_,rfl,_,rfl,(by show 3<=sizeLine;decide),λL hL=> ?_⟩;have uL:=ay.up (o:= .lst [.ref a',.ref b',.ref r]) hL;have Wy:=Ww.trans uL;obtain⟨o1,o2,o3⟩:=ord (Wy _ _ XT) (Wy _ _ Wv) (Wy _ _ hz') TL CP Gk (by omega);have Qy:=NL.trans uL;refine⟨t,bs,m,L,[a',b',r],_,rfl,hT.same Qy,cg,hB,ao,(by show 3<64;decide),o1,o2,Qy _ _ hP,Qy _ _ hC,λHn zs sn pz so R hR=> ?_⟩;obtain⟨p1,q1,r1,x1,y1,z1,rfl,BG,hy1,hz1,XU,XW,XX,XY,sum⟩:=o3 zs pz so;have uR:=ay.up (o:= .lst ([p1,q1,r1].map V.ref)) hR;have s6:=sn.trans uR;have BG:=s6 _ _ BG;have hy1:=s6 _ _ hy1;have hz1:=s6 _ _ hz1;have eR:upd Hn R (.lst ([p1,q1,r1].map V.ref)) R=some (.lst [.ref p1,.ref q1,.ref r1]):=ao;refine⟨R,[.ref p1,.ref q1,.ref r1],rfl,aZ.of eR,rfl,_,_,rfl,_,_,rfl,_,_,rfl,rfl,?_⟩;refine⟨⟨p1,q1,r1,x1,y1,z1,rfl,Qy.trans s6,BG,hy1,hz1,XU,XW,XX,XY⟩,?_⟩;have m1:=sI (m:=m) (i:=1) (σ:=[some (.ref t),some (.ref p1),some (.ref q1),some (.ref r1)]) (by rfl) BG;have m2:=sI (m:=m) (i:=2) (σ:=[some (.ref t),some (.ref p1),some (.ref q1),some (.ref r1)]) (by rfl) hy1;have m3:=sI (m:=m) (i:=1) (σ:=[some (.ref t),some (.ref a),some (.ref b),some (.ref c)]) (by rfl) hx;have m4:=sI (m:=m) (i:=2) (σ:=[some (.ref t),some (.ref a),some (.ref b),some (.ref c)]) (by rfl) hy;show KC m 1 [some (.ref t),some (.ref p1),some (.ref q1),some (.ref r1)] (upd Hn R (.lst ([p1,q1,r1].map V.ref)))+KC m 2 [some (.ref t),some (.ref p1),some (.ref q1),some (.ref r1)] (upd Hn R (.lst ([p1,q1,r1].map V.ref)))<KC m 1 [some (.ref t),some (.ref a),some (.ref b),some (.ref c)] H'+KC m 2 [some (.ref t),some (.ref a),some (.ref b),some (.ref c)] H';rw[m1,m2,m3,m4];have n1:0<=au m x1 x1:=eO Po x1;have n2:0<=au m y1 y1:=eO Po y1;have n3:0<=au m x x:=eO Po x;have n4:0<=au m y y:=eO Po y;have ps:au m x' x'+au m y' y'<=au m x x+au m y y:=pr.sum;have sm:au m x1 x1+au m y1 y1<=au m x' x'+au m z' z':=sum;have lt:au m z' z'<au m y' y':=lt
  (clear lt m4 m3 m2 m1 eR hz1 hy1 BG sum XY XX XW XU hR o3 o2 o1 hL bz TL nz ny one un' eP Gk CP ne wz wy wx un wE hA h2 h1 h0 ord b1 bits hu q hC hP bD ab;omega)
inductive KY(T2 T1 T0:Addr)(vs:List V)(H:Hp)(Q:VK)(E:XK):Prop
 |mk(t:Addr)(bs:List Addr)(m:List (List Int))(_:vs=[.ref t])(_:Tab H t bs m)(_:aY m)(_:Bd 440 m)(_:br m)(_:bQ m=true)(_:(aA m).natAbs<2^440)(_:H T2=some (eN T2))(_:H T1=some (eN T1))(_:H T0=some .AM)(_:∀u us r rs B P H',gJ (aX m B) ->(aA B=1∨aA B= -1) ->aA (aX m B)=aA m->aY B->Bd 700 B->ay H H'->H' P=some (.tup [.ref u,.ref r]) ->Tab H' u us (aX m B) ->Tab H' r rs B->Q (.ref P) H')
theorem NN{aE bh bH:Addr}(F:fZ K mg "near" DY wW)(nM:dO P w K mg base dz 9 "near_basis" iO (Gm aE bh))(ko:dO P w K mg base dz 9 "carried" kj (tH bH)):dO P w K mg base dz 10 "near" wW (KY bH aE bh):=by
 refine F.ok Gj (λvs H Q E h=> ?_) (λf cdv A outer s H vs Q E hr h=> ?_)
 ·obtain⟨t,bs,m,rfl,hT,cg,hB,ev,ab,bD,hM,hP,hC,q⟩:=h
  rfl
 obtain⟨t,bs,m,rfl,hT,cg,hB,ev,ab,bD,hM,hP,hC,q⟩:=h;have hu:=hr.units;refine⟨_,(nA (@az _ _ _ _ _ (aV (i:=1) Gj.nd rfl (Or.inl rfl) (aN nM hr rfl aM (af (pv 0) ah)))
  (@aP _ _ _ (aU (gz (af (aN ko hr rfl aM (af (pv 0) (af (pv 1) ah))) (af (pv 1) ah))))))),?_⟩
 have Po:=kg (fG ev cg) ab;refine⟨_,rfl,t,bs,m,rfl,hT,cg,hB,ev,ab,bD,hP,hC,λr a b c x y z H1 nr s1 fr er hx hy hz=> ?_⟩;obtain⟨f1,f2,f3⟩:=KP nr;have bits:∀v:Nat->Int,3*aQ m v<=16*aA m-> ∀i,i<3->(v i).natAbs<2^666:=λv hv i hi=>mS ev cg ab hB (by have:=eO Po v;omega) hi;obtain⟨nt,un,dt⟩:=DQ ev cg ab nr;have TB:Tab H1 r [a,b,c] (eK x y z):=nv (λi j=>if i=0 then x j else if i=1 then y j else z j) er hx hy hz;have bB:Bd 666 (eK x y z):=λi j hi hj=>by
  obtain⟨g0,g1,g2⟩:=pF x y z hj;rcases aW hi with rfl|rfl|rfl
  ·rw[g0];exact bits x f1 j hj
  ·rw[g1];exact bits y f2 j hj
  ·rw[g2];exact bits z f3 j hj
 refine⟨_,rfl,_,rfl,t,bs,m,r,[a,b,c],eK x y z,rfl,hT.same s1,TB,cg,cJ _,hB.mono (by decide),bB.mono (by decide),s1 _ _ hM,λu us H2 s2 fu XN nu Tu=> ?_⟩;refine⟨_,rfl,(by show 2<=sizeLine;decide),λP UJ=> ?_⟩;have uP:=ay.up (o:= .tup [.ref u,.ref r]) UJ;exact q u us r [a,b,c] (eK x y z) P _ nt un dt (cJ _) (bB.mono (by decide)) (s1.trans (s2.trans uP)) ao (Tu.same uP) ((TB.same s2).same uP)
end
end CV
namespace L2
open PySem PySem.Spec PyProof.Rows
section
variable{X:Cx}
noncomputable def TM:V->List V->Hp->VK->Prop:=λx vs H Q=> ∃i:Int,x= .int i/\vs=[]/\Q (.int ((Builtin.Int.intBits i:Nat):Int)) H
theorem NO:VE X "int.bit_length" TM:=by
 intro pins s σ H x vs v us Q I rx rv h;obtain⟨i,rfl,rfl,q⟩:=h;obtain⟨t,rfl⟩:=rx;have VM:=rv.zero;subst VM;exact PyProof.Rows.call_int_bit_length ⟨.int _,H,I.tok _,⟨_,rfl⟩,q⟩
end
theorem Ca{N:Int}(h:0<=N):N<2^(Builtin.Int.intBits N):=by
 unfold Builtin.Int.intBits
 by_cases c:(N==0)=true
 ·rw[if_pos c]
  have:N=0:=by simpa using c
  subst this
  decide
 ·rw[if_neg c]
  have n0:N.natAbs≠0:=by
   have:¬N=0:=by simpa using c
   omega
  have:=Nat.lt_log2_self (n:=N.natAbs);have e:((2^(N.natAbs.log2+1):Nat):Int)=2^(N.natAbs.log2+1):=by push_cast;rfl
  omega
theorem Ek{N:Int}(h:0<=N){r:Int}(r0:0<=r)(hr:r*r<=N):r<=1*2^((((Builtin.Int.intBits N:Nat):Int)+1)/2).toNat:=by
 have b:=Ca h;generalize Builtin.Int.intBits N=k at b ⊢;have e:(((k:Int)+1)/2).toNat=(k+1)/2:=by(clear b hr r0 h;omega)
 rw[e,abU];refine abV (acj λz=> ?_);have p0:(0:Int)<=2^((k+1)/2):=aas (adW (by decide));have s:((2:Int)^((k+1)/2)+1)*(2^((k+1)/2)+1)<=r*r:=aaN z z (by(clear z e b hr r0 h;omega)) r0;have q:(2:Int)^k<=2^((k+1)/2)*2^((k+1)/2):=by
  rw[<-Int.pow_add]
  exact_mod_cast aaF (n:=2) (by decide) (show k<=(k+1)/2+(k+1)/2 by(clear s p0 z e b hr r0 h;omega))
 have e2:((2:Int)^((k+1)/2)+1)*(2^((k+1)/2)+1)=2^((k+1)/2)*2^((k+1)/2)+2*2^((k+1)/2)+1:=by grind
 (clear z e r0 h;omega)
theorem HU{N t:Int}(t0:0<t)(h:N<t*t)(N0:0<=N):(∀r,0<=r->r*r<=N->r<=(t+N/t)/2)/\(t+N/t)/2<t/\0<=(t+N/t)/2:=by
 have q0:0<=N/t:=adG N0 (aas t0);refine⟨λr r0 hr=> ?_,?_,by(clear N0 h;omega)⟩
 ·have k:(2*r-t)*t<=N:=by
   have s:=bI (t-r);have e:(t-r)*(t-r)=t*t-2*(r*t)+r*r:=by grind
   have e2:(2*r-t)*t=2*(r*t) -t*t:=by grind
   (clear r0 q0 N0 h t0;omega)
  have:2*r-t<=N/t:=(abN t0).mpr k
  (clear k hr r0 q0 N0 h t0;omega)
 ·have:N/t<t:=(acA t0).mpr h
  (clear q0 N0 h t0;omega)
theorem HV{N t:Int}(t0:0<=t)(h:¬N<t*t)(up:∀r,0<=r->r*r<=N->r<=t):t*t<=N/\N<(t+1)*(t+1):=by
 refine⟨by omega,acj λz=> ?_⟩;have:=up (t+1) (by omega) z;omega
theorem zk{N a b:Int}(a0:0<=a)(b0:0<=b)(h1:a*a<=N)(h2:N<(b+1)*(b+1)):a<=b:=by
 refine abV (acj λz=> ?_);have:=aaN z z (show 0<=b+1 by omega) a0;omega
end L2
set_option maxHeartbeats 1000000
namespace CV
open PySem L2
section
variable{P:Program}{w:World}{K:PySem.W.Frag}{mg:Str->Option Value}{base:Heap}
inductive El(vs:List V)(H:Hp)(Q:VK)(E:XK):Prop
 |mk(N:Int)(_:vs=[.int N])(_:0<=N)(_:N.natAbs<2^200)(_:∀r:Int,0<=r->r*r<=N->N<(r+1)*(r+1) ->Q (.int r) H)
theorem NP(F:fZ K mg "root" DZ tE):dO P w K mg base dz 1 "root" tE El:=by
 refine F.ok Ae (λvs H Q E h=> ?_) (λf cdv A outer s H vs Q E hr h=> ?_)
 ·obtain⟨N,rfl,N0,bN,q⟩:=h
  rfl
 obtain⟨N,rfl,N0,bN,q⟩:=h;have hu:=hr.units;refine⟨_,(nA (@az _ _ _ _ _ (aV (i:=1) Ae.nd rfl (Or.inl rfl) (av Pu ak (av fP (av ck (Jl PySem.F.plainAttrs_int PyProof.Rows.slot_int_bit_length PyProof.Rows.type_int_bit_length NO (pv 0)) ak) ak)))
  (@az _ _ _ _ _ (vZ PassesOwn.never (cQ uA (av aF (pv 1) (pv 1)) (pv 0) (cP _)) (dQ (aV (i:=1) Ae.nd rfl (Or.inl rfl) (av fP (av ck (pv 1) (av oJ (pv 0) (pv 1))) ak))))
  (@aP _ _ _ (aU (pv 1)))))),?_⟩
 have b0:=Ca N0;have bits:Builtin.Int.intBits N<=200:=by
  unfold Builtin.Int.intBits
  split
  ·omega
  ·rename_i c
   have n0:N.natAbs≠0:=by
    have:¬N=0:=by simpa using c
    omega
   have:=(acT n0).mpr bN
   (clear n0 c b0 hu q bN N0;omega)
 have start:=λr r0 hr=>Ek N0 (r:=r) r0 hr;have t0:(0:Int)<1*2^((((Builtin.Int.intBits N:Nat):Int)+1)/2).toNat:=by
  rw[abU];exact adW (by decide)
 have t1:(1*2^((((Builtin.Int.intBits N:Nat):Int)+1)/2).toNat:Int).natAbs<2^110:=by
  have e:(((Builtin.Int.intBits N:Int))+1)/2<=100:=by(clear t0 start b0 hu q bN N0;omega)
  rw[abU,Int.natAbs_pow];exact Nat.pow_lt_pow_right (by decide) (by(clear t0 start bits b0 hu q bN N0;omega))
 refine⟨_,rfl,rfl,⟨N,rfl,rfl,_,_,rfl,rfl,_,_,rfl,rfl,⟨by decide,by decide⟩,_,_,rfl,rfl,⟨by(clear t1 t0 start b0 hu q bN N0;omega),by(clear t1 t0 start b0 hu q bN N0;omega),by decide⟩,?_⟩⟩;have t0:=aas t0;refine v5 (λσ H'=>H'=H/\ ∃t:Int,σ=[some (.int N),some (.int t)]/\0<=t/\t.natAbs<2^110/\ ∀r,0<=r->r*r<=N->r<=t) (λσ _=>match σ with| [_,some (.int t)]=>t.toNat|_=>0) ⟨rfl,_,rfl,t0,t1,start⟩ (λσ H' hh=> ?_) ?_
 rotate_left
 ·rintro σ H' Q Q' h ⟨v,e,v2,e',i,j,e1,e2,c,v3,e3,a,b,e4,e5,k,ek,kk⟩
  exact⟨v,e,v2,e',i,j,e1,e2,c,v3,e3,a,b,e4,e5,k,ek,h _ _ kk⟩
 obtain⟨rfl,t,rfl,t0,t1,up⟩:=hh;refine⟨_,rfl,_,rfl,_,_,rfl,rfl,⟨aK t1 (by decide),aK t1 (by decide)⟩,_,rfl,_,_,rfl,rfl,_,rfl,oh (λc=> ?_) (λc=> ?_)⟩
 ·have c:N<t*t:=of_decide_eq_true c
  have tp:0<t:=by
   rcases abH 0 t with z|z
   ·exact z
   ·exfalso
    have:t=0:=by(clear c up t1 q start bits b0 hu bN N0;omega)
    rw[this]at c;omega
  obtain⟨s1,s2,s3⟩:=HU tp c N0;have lg:t.natAbs.log2<9000:=(acT (by(clear s1 c up t1 t0 q start bits b0 hu bN N0;omega))).mpr (aao t1 (aaF (by decide) (by decide)));refine⟨_,rfl,_,rfl,_,rfl,_,_,rfl,rfl,⟨tp,lg⟩,_,_,rfl,rfl,_,_,rfl,rfl,⟨by decide,by decide⟩,⟨rfl,_,rfl,s3,by(clear lg s1 c up t0 q start bits b0 hu bN N0;omega),s1⟩,?_⟩;show((t+N/t)/2).toNat<t.toNat
  (clear lg s1 c up t1 t0 q start bits b0 hu bN N0;omega)
 ·have c:¬N<t*t:=λz=>c (decide_eq_true z)
  obtain⟨d1,d2⟩:=HV t0 c up;exact⟨_,rfl,q t t0 d1 d2⟩
end
end CV
namespace L2
open PySem PySem.Spec PyProof.Rows
noncomputable def d8(N:List (List Int)):Int:=ent N 0 0*ent N 1 1-ent N 0 1*ent N 0 1
noncomputable def jx(N:List (List Int)):Int:=ent N 0 0*ent N 1 2-ent N 0 1*ent N 0 2
noncomputable def hiT(N:List (List Int)):Int:=ent N 0 0*ent N 2 2-ent N 0 2*ent N 0 2
noncomputable def l7(N:List (List Int))(n y z:Int):Int:=2*n*ent N 0 0- (d8 N*y*y+2*jx N*y*z+hiT N*z*z)
noncomputable def rY(N:List (List Int))(y z:Int):Int:=ent N 0 1*y+ent N 0 2*z
theorem pI{N:List (List Int)}(ev:br N):d8 N*hiT N-jx N*jx N=ent N 0 0*aA N:=by
 have z9:ent N 1 0=ent N 0 1:=ev.sym.1;have DL:ent N 2 0=ent N 0 2:=ev.sym.2.1;have DM:ent N 2 1=ent N 1 2:=ev.sym.2.2;rw[dJ,z9,DL,DM];unfold d8 hiT jx
 grind
theorem tR{N:List (List Int)}(ev:br N)(pos:0<ent N 0 0)(n:Int)(v:Nat->Int):cN N v=n↔(ent N 0 0*v 0+rY N (v 1) (v 2))*(ent N 0 0*v 0+rY N (v 1) (v 2))=l7 N n (v 1) (v 2):=by
 have z9:ent N 1 0=ent N 0 1:=ev.sym.1;have DL:ent N 2 0=ent N 0 2:=ev.sym.2.1;have DM:ent N 2 1=ent N 1 2:=ev.sym.2.2;have h:=fV ev v;have id:ent N 0 0*au N v v=(ent N 0 0*v 0+rY N (v 1) (v 2))*(ent N 0 0*v 0+rY N (v 1) (v 2))+(d8 N*v 1*v 1+2*jx N*v 1*v 2+hiT N*v 2*v 2):=by
  rw[aT,z9,DL,DM];unfold rY d8 jx hiT
  grind
 unfold l7;generalize(ent N 0 0*v 0+rY N (v 1) (v 2))*(ent N 0 0*v 0+rY N (v 1) (v 2))=s at id ⊢;generalize d8 N*v 1*v 1+2*jx N*v 1*v 2+hiT N*v 2*v 2=t at id ⊢;rw[h]at id;have e:2*n*ent N 0 0=ent N 0 0*(2*n):=abb ..;constructor
 ·intro z
  rw[z]at id
  (clear z h DM DL z9 pos;omega)
 ·intro z
  have:ent N 0 0*(2*cN N v)=ent N 0 0*(2*n):=by(clear h DM DL z9 pos;omega)
  have:=Int.eq_of_mul_eq_mul_left (show ent N 0 0≠0 by omega) this
  (clear z e id h DM DL z9 pos;omega)
theorem xj{N:List (List Int)}(ev:br N)(pos:0<ent N 0 0)(fl:0<d8 N)(n y z:Int):0<=l7 N n y z↔(d8 N*y+jx N*z)*(d8 N*y+jx N*z)<=d8 N*(2*n*ent N 0 0) -ent N 0 0*aA N*z*z:=by
 have fh:=pI ev;have id:d8 N*l7 N n y z=d8 N*(2*n*ent N 0 0) -ent N 0 0*aA N*z*z- (d8 N*y+jx N*z)*(d8 N*y+jx N*z):=by
  unfold l7;rw[<-fh];generalize d8 N=f,jx N=b,hiT N=h,2*n*ent N 0 0=w
  grind
 constructor
 ·intro h
  have:=Rg (aas fl) h
  (clear h fh fl pos;omega)
 ·intro h
  have h2:0<=d8 N*l7 N n y z:=by(clear fh fl pos;omega)
  rcases abH (l7 N n y z) 0 with c|c
  ·exfalso
   have:=acX c fl;omega
  ·exact c
theorem Al{N x s:Int}(s0:0<=s)(h1:s*s<=N)(h2:N<(s+1)*(s+1)):x*x<=N↔ -s<=x/\x<=s:=by
 constructor
 ·intro h
  rcases abc 0 x with c|c
  ·have:=zk c s0 h h2
   (clear h h2 h1;omega)
  ·have:(-x)*(-x)<=N:=by
    have e:(-x)*(-x)=x*x:=by grind
    (clear c h2 h1 s0;omega)
   have:=zk (a:= -x) (by omega) s0 this h2
   (clear h h2 h1 s0;omega)
 ·rintro⟨a,b⟩
  have:=mT a b;omega
theorem pJ{f b z s y:Int}(hf:0<f):(-s<=f*y+b*z/\f*y+b*z<=s)↔(-((s+b*z)/f)<=y/\y<(s-b*z)/f+1):=by
 have e1:y<=(s-b*z)/f↔y*f<=s-b*z:=abN hf;have e2: -y<=(s+b*z)/f↔ -y*f<=s+b*z:=abN hf;have c1:y*f=f*y:=abb ..;have c2: -y*f= -(f*y):=by rw[adX,c1]
 rw[c1]at e1;rw[c2]at e2;constructor
 ·rintro⟨h1,h2⟩
  have:=e1.mpr (by(clear h1 c1 e2 e1 hf;omega));have:=e2.mpr (by(clear this h2 c1 e2 e1 hf;omega))
  (clear h2 h1 c2 c1 e2 e1 hf;omega)
 ·rintro⟨h1,h2⟩
  have:=e1.mp (by omega);have:=e2.mp (by omega)
  (clear h2 h1 c1 e2 e1 hf;omega)
theorem aB{N:List (List Int)}(D:0<aA N)(fl:0<d8 N){n R z:Int}(R0:0<=R)(h1:R*R<=2*n*d8 N/aA N)(h2:2*n*d8 N/aA N<(R+1)*(R+1)):(-R<=z/\z<=R)↔aA N*z*z<=2*n*d8 N:=by
 rw[<-Al R0 h1 h2,abN D];have e:z*z*aA N=aA N*z*z:=by grind
 rw[e]
theorem fC{N:List (List Int)}(h:gJ N)(dD:aA N<=401):0<d8 N/\0<aA N/\2<=ent N 0 0/\ent N 0 0<=2200/\ent N 1 1<=2200/\ent N 2 2<=2200/\3*d8 N<=8*aA N/\3*ent N 0 0<=2*d8 N:=by
 obtain⟨c1,c2,c3⟩:=gU h.ab;have p:=h.pos;have l1:=h.CN;have l2:=h.Gf;obtain⟨_,a,b,c,ea,eb,ec⟩:=h.ev;have f:=h.few;have a2:2<=ent N 0 0:=by omega
 have b2:2<=ent N 1 1:=by(clear a2 f ec l2 p c3 c2 dD;omega)
 have XZ:2<=ent N 2 2:=by(clear a2 f ea l1 p c3 c2 c1 dD;omega)
 have k1:2*2<=ent N 0 0*ent N 1 1:=aaN a2 b2 (by omega) (by omega);have k2:4*ent N 2 2<=ent N 0 0*ent N 1 1*ent N 2 2:=aan (by omega) (by omega);have sq:=mT h.p.1 h.p.2;have e4:2*ent N 0 1*(2*ent N 0 1)=4*(ent N 0 1*ent N 0 1):=by grind
 have aa:ent N 0 0*ent N 0 0<=ent N 0 0*ent N 1 1:=aal l1 (by omega);have s0:=bI (ent N 0 1);have k3:ent N 0 0*ent N 1 1*2<=ent N 0 0*ent N 1 1*ent N 2 2:=aal XZ (by omega);have k4:ent N 0 0*2<=ent N 0 0*ent N 1 1:=aal b2 (by omega);unfold d8;refine⟨by omega,c3,a2,by omega,by(clear k4 k3 s0 aa e4 sq k1 XZ b2 a2 ea l1 p c2 c1;omega),by omega,by omega,by omega⟩
theorem KZ{N:List (List Int)}(h:gJ N)(dD:aA N<=401){n R:Int}(n0:0<=n)(n6:n<=1100)(R0:0<=R)(h1:R*R<=2*n*d8 N/aA N):R<=76:=by
 obtain⟨f0,d0,_,_,_,_,k,_⟩:=fC h dD;have:2*n*d8 N/aA N<=5867:=by
  refine abV ((acA d0).mpr ?_);have e:2*n*d8 N<=2200*d8 N:=aan (by omega) (aas f0)
  (clear d0 f0 h1 R0 n6 n0 dD;omega)
 refine abV (acj λz=> ?_);have:=aaN z z (by decide) R0;omega
theorem NQ{N:List (List Int)}(h:gJ N)(dD:aA N<=401){n z s:Int}(n0:0<=n)(n6:n<=1100)(s0:0<=s)(h1:s*s<=d8 N*(2*n*ent N 0 0) -ent N 0 0*aA N*z*z):s<=39*d8 N:=by
 obtain⟨f0,d0,a2,_,_,_,_,k⟩:=fC h dD;have zz:0<=ent N 0 0*aA N*z*z:=by
  have:=Rg (Rg (show 0<=ent N 0 0 by(clear k d0 f0 h1 s0 n6 n0 dD;omega)) (aas d0)) (bI z);rw[<-abQ]at this;exact this
 have w:2*n*ent N 0 0<=2200*ent N 0 0:=aan (by omega) (by(clear zz k d0 f0 h1 s0 n6 n0 dD;omega));have w2:2*n*ent N 0 0<=1467*d8 N:=by(clear zz a2 h1 s0 n6 n0;omega)
 have w3:d8 N*(2*n*ent N 0 0)<=d8 N*(1467*d8 N):=aal w2 (aas f0);refine abV (acj λy=> ?_);have:=aaN y y (by omega) s0;have e1:(39*d8 N+1)*(39*d8 N+1)=1521*(d8 N*d8 N)+78*d8 N+1:=by grind
 have e2:d8 N*(1467*d8 N)=1467*(d8 N*d8 N):=by grind
 have ff:=bI (d8 N)
 (clear y w2 w d0 f0 s0 n6 n0 dD;omega)
noncomputable def iT(z y0:Int)(k:Nat):List (Int×Int):=(abx k).map λj:Nat=>(y0+(j:Int),z)
noncomputable def gC(lo:Int->Int)(ln:Int->Nat)(R:Int)(m:Nat):List (Int×Int):=(abx m).flatMap λi:Nat=>iT ((i:Int) -R) (lo ((i:Int) -R)) (ln ((i:Int) -R))
theorem xm{z y0:Int}{k:Nat}{p:Int×Int}:p∈iT z y0 k↔p.2=z/\y0<=p.1/\p.1<y0+k:=by
 obtain⟨y,z'⟩:=p;simp only[iT,aaU,acB,Prod.mk.injEq];constructor
 ·rintro⟨j,hj,rfl,rfl⟩
  exact⟨rfl,by omega,by omega⟩
 ·rintro⟨rfl,h1,h2⟩
  exact⟨(y-y0).toNat,by omega,by omega,rfl⟩
theorem Am{z y0:Int}{k:Nat}:(iT z y0 k).Nodup:=by
 unfold iT List.Nodup;rw[abK];refine List.Pairwise.imp ?_ (List.nodup_range (n:=k));intro a b h e;have:=(Prod.mk.inj e).1;omega
theorem Cb{z y0:Int}{k:Nat}:iT z y0 (k+1)=iT z y0 k++ [(y0+(k:Int),z)]:=by
 simp[iT,acv]
theorem nN{lo:Int->Int}{ln:Int->Nat}{R:Int}{m:Nat}:gC lo ln R (m+1)=gC lo ln R m++iT ((m:Int) -R) (lo ((m:Int) -R)) (ln ((m:Int) -R)):=by
 simp[gC,acv]
theorem uQ{lo:Int->Int}{ln:Int->Nat}{R:Int}{m:Nat}{p:Int×Int}:p∈gC lo ln R m↔(-R<=p.2/\p.2<m-R)/\lo p.2<=p.1/\p.1<lo p.2+ln p.2:=by
 simp only[gC,abO,acB,xm];constructor
 ·rintro⟨i,hi,e,h1,h2⟩
  rw[e];exact⟨⟨by(clear h2 h1 hi;omega),by omega⟩,h1,h2⟩
 ·rintro⟨⟨a,b⟩,h1,h2⟩
  have e:p.2=((p.2+R).toNat:Int) -R:=by(clear h2 h1 b;omega)
  exact⟨(p.2+R).toNat,by(clear h2 h1 a;omega),e,e▸h1,e▸h2⟩
theorem yg{lo:Int->Int}{ln:Int->Nat}{R:Int}{m:Nat}:(gC lo ln R m).Nodup:=by
 induction m with
 |zero=>simp[gC]
 |succ m ih=>
  rw[nN,abn];refine⟨ih,Am,?_⟩;intro a ha b hb e;have h1:=(uQ.mp ha).1.2;have h2:=(xm.mp hb).1;rw[e,h2]at h1;omega
theorem xo{lo:Int->Int}{ln:Int->Nat}{R:Int}{m L:Nat}(h:∀i:Nat,i<m->ln ((i:Int) -R)<=L):(gC lo ln R m).length<=m*L:=by
 induction m with
 |zero=>simp[gC]
 |succ m ih=>
  rw[nN,aaC,ac5];have h1:=ih λi hi=>h i (by omega);have h2:=h m (by omega);simp only[iT,aau,List.length_range];omega
theorem Cc{N:List (List Int)}(ev:br N)(pos:0<ent N 0 0)(fl:0<d8 N)(D:0<aA N){n R:Int}(R0:0<=R)(h1:R*R<=2*n*d8 N/aA N)(h2:2*n*d8 N/aA N<(R+1)*(R+1)){sp:Int->Int}(s0:∀z,-R<=z->z<=R->0<=sp z/\sp z*sp z<=d8 N*(2*n*ent N 0 0) -ent N 0 0*aA N*z*z/\d8 N*(2*n*ent N 0 0) -ent N 0 0*aA N*z*z<(sp z+1)*(sp z+1))(y z:Int):
  (y,z)∈gC (λz=> -((sp z+jx N*z)/d8 N)) (λz=>((sp z-jx N*z)/d8 N+1- -((sp z+jx N*z)/d8 N)).toNat) R (2*R+1).toNat↔0<=l7 N n y z:=by
 rw[uQ];simp only;have zr:=aB D fl (n:=n) (z:=z) R0 h1 h2;constructor
 ·rintro⟨⟨a,b⟩,c,d⟩
  have zb:z<=R:=by(clear a zr s0 h2 h1 D fl pos;omega)
  obtain⟨t0,t1,t2⟩:=s0 z a zb;rw[xj ev pos fl,Al t0 t1 t2];refine(pJ fl).mpr ⟨c,?_⟩
  (clear t2 t1 t0 zb b a zr s0 h2 h1 R0 D fl pos;omega)
 ·intro h
  rw[xj ev pos fl]at h;have zz:aA N*z*z<=2*n*d8 N:=by
   have q:=bI (d8 N*y+jx N*z);have e:ent N 0 0*(aA N*z*z)<=ent N 0 0*(2*n*d8 N):=by
    have:ent N 0 0*aA N*z*z=ent N 0 0*(aA N*z*z):=by grind
    have:d8 N*(2*n*ent N 0 0)=ent N 0 0*(2*n*d8 N):=by grind
    (clear zr s0 h2 h1 R0 D fl pos;omega)
   exact aaW e pos
  obtain⟨a,b⟩:=zr.mpr zz;obtain⟨t0,t1,t2⟩:=s0 z a b;rw[Al t0 t1 t2]at h;obtain⟨c,d⟩:=(pJ fl).mp h;refine⟨⟨a,by(clear d c t2 t1 t0 a zz h zr s0 h2 h1 D fl pos;omega)⟩,c,by(clear c t2 t1 t0 b a zz h zr s0 h2 h1 R0 D fl pos;omega)⟩
theorem Qz{X r r':Int}(h0:0<=r)(h1:r*r<=X)(h2:X<(r+1)*(r+1))(g0:0<=r')(g1:r'*r'<=X)(g2:X<(r'+1)*(r'+1)):r=r':=by
 rcases adh r r' with c|c|c
 ·have:(r+1)*(r+1)<=r'*r':=aaN (by omega) (by omega) (by omega) (by omega)
  omega
 ·exact c
 ·have:(r'+1)*(r'+1)<=r*r:=aaN (by omega) (by omega) (by omega) (by omega)
  omega
open Classical in
noncomputable def om(X:Int):Int:=if h:∃r:Int,0<=r/\r*r<=X/\X<(r+1)*(r+1)then Classical.choose h else 0
theorem vN{X r:Int}(h0:0<=r)(h1:r*r<=X)(h2:X<(r+1)*(r+1)):om X=r:=by
 have h:∃r:Int,0<=r/\r*r<=X/\X<(r+1)*(r+1):=⟨r,h0,h1,h2⟩;unfold om;rw[dif_pos h];obtain⟨g0,g1,g2⟩:=Classical.choose_spec h;exact Qz g0 g1 g2 h0 h1 h2
theorem HW(n:Nat):∃r:Int,0<=r/\r*r<=(n:Int)/\(n:Int)<(r+1)*(r+1):=by
 induction n with
 |zero=>exact⟨0,by decide,by decide,by decide⟩
 |succ n ih=>
  obtain⟨r,h0,h1,h2⟩:=ih
  by_cases c:((n+1:Nat):Int)<(r+1)*(r+1)
  ·exact⟨r,h0,by omega,c⟩
  ·refine⟨r+1,by omega,by omega,?_⟩
   have e:(r+1+1)*(r+1+1)=(r+1)*(r+1)+2*r+3:=by grind
   omega
theorem tS{X:Int}(h:0<=X):0<=om X/\om X*om X<=X/\X<(om X+1)*(om X+1):=by
 obtain⟨r,h0,h1,h2⟩:=HW X.toNat;have e:(X.toNat:Int)=X:=Int.toNat_of_nonneg h;rw[e]at h1 h2;rw[vN h0 h1 h2];exact⟨h0,h1,h2⟩
noncomputable def SD(D:Addr)(H H':Hp):Prop:=∀a o,a≠D->H a=some o->H' a=some o
theorem SD.refl{D:Addr}{H:Hp}:SD D H H:=λ_ _ _ e=>e
theorem SD.trans{D:Addr}{H H' SQ:Hp}(h:SD D H H')(h':SD D H' SQ):SD D H SQ:=λa o n e=>h' a o n (h a o n e)
theorem SD.of{D:Addr}{H H':Hp}(s:ay H H'):SD D H H':=λa o _ e=>s _ _ e
theorem SD.upd{D:Addr}{H H':Hp}{o:HO}(h:SD D H H'):SD D H (upd H' D o):=λa o n e=>by rw[aH n];exact h a o n e
theorem SD.same{D:Addr}{H H':Hp}(h:SD D H H')(f:H D=none):ay H H':=λa o e=>h a o (λz=>by rw[z,f]at e;cases e) e
noncomputable def TN(N:List (List Int))(n:Int)(p:Int×Int):List V:=[.int p.1,.int p.2,.int (rY N p.1 p.2),.int (l7 N n p.1 p.2)]
inductive eV(H:Hp)(N:List (List Int))(n:Int):List V->List (Int×Int) ->Prop
 |nil:eV H N n [] []
 |cons{a:Addr}{us:List V}{p:Int×Int}{ps:List (Int×Int)}:H a=some (.tup (TN N n p)) ->eV H N n us ps->eV H N n (.ref a::us) (p::ps)
theorem eV.same{H H':Hp}{N:List (List Int)}{n:Int}{us:List V}{ps:List (Int×Int)}(s:ay H H')(h:eV H N n us ps):eV H' N n us ps:=by
 induction h with
 |nil=>exact .nil
 |cons e _ ih=>exact .cons (s _ _ e) ih
theorem eV.upd{H:Hp}{N:List (List Int)}{n:Int}{us:List V}{ps:List (Int×Int)}{D:Addr}{xs:List V}{o:HO}(hD:H D=some (.lst xs))(h:eV H N n us ps):eV (upd H D o) N n us ps:=by
 induction h with
 |nil=>exact .nil
 |cons e _ ih=>exact .cons (by rw[aH (λz=>by rw[z,hD]at e;cases e)];exact e) ih
theorem eV.append{H:Hp}{N:List (List Int)}{n:Int}{us us':List V}{ps ps':List (Int×Int)}(h:eV H N n us ps)(h':eV H N n us' ps'):eV H N n (us++us') (ps++ps'):=by
 induction h with
 |nil=>exact h'
 |cons e _ ih=>exact .cons e ih
theorem eV.length{H:Hp}{N:List (List Int)}{n:Int}{us:List V}{ps:List (Int×Int)}(h:eV H N n us ps):us.length=ps.length:=by
 induction h with
 |nil=>rfl
 |cons _ _ ih=>simp[ih]
theorem pO{a b:Int}{A B:Nat}(ha:a.natAbs<=A)(hb:b.natAbs<=B):(a*b).natAbs<=A*B:=by
 rw[acD];exact acg ha hb
theorem TQ{x f:Int}(hf:0<f)(h:x.natAbs<=10000000000):(x/f).natAbs<=10000000000:=by
 have h1: -10000000000<=x/f:=(abN hf).mpr (by omega);have h2:x/f<10000000000+1:=(acA hf).mpr (by omega)
 (clear h hf;omega)
theorem Yb{x:Int}(h:x.natAbs<=10^30):x.natAbs<2^4096:=aaL h (aao (m:=2^100) (by decide) (aaF (by decide) (by decide)))
theorem vO{te:TE}{i:Nat}{b:TS}{D:Ends}{σ:St}{H H':Hp}{v:V}(h:∀R:VK,R v H'->te σ H R)(k:b D (σ.set i (some v)) H'):CT (Ja te (dP i)) b D σ H:=h _ k
end L2
set_option maxHeartbeats 1000000
namespace CV
open PySem L2
section
variable{P:Program}{w:World}{K:PySem.W.Frag}{mg:Str->Option Value}{base:Heap}
inductive Cd(vs:List V)(H:Hp)(Q:VK)(E:XK):Prop
 |mk(t:Addr)(bs:List Addr)(N:List (List Int))(n:Int)(_:vs=[.ref t,.int n])(_:Tab H t bs N)(_:aY N)(_:br N)(_:Bd 700 N)(_:gJ N)(_:aA N<=401)(_:0<=n)(_:n<=1100)(_:∀(u:Addr) (us:List V) (L:List (Int×Int)) (H':Hp),ay H H'->H' u=some (.lst us) ->eV H' N n us L->L.Nodup->(∀y z,(y,z)∈L↔0<=l7 N n y z) ->L.length<=12100->Q (.ref u) H')
theorem HX(F:fZ K mg "slices" wX oO)(aB:mg "range"=none)(bT:dO P w K mg base dz 3 "determinant" dZ zh)(qz:dO P w K mg base dz 3 "root" tE El):dO P w K mg base dz 4 "slices" oO Cd:=by
 refine F.ok dB (λvs H Q E h=> ?_) (λf cdv A outer s H vs Q E hr h=> ?_)
 ·obtain⟨t,bs,N,n,rfl,hT,cg,ev,bN,NT,dD,n0,n6,q⟩:=h
  rfl
 obtain⟨t,bs,N,n,rfl,hT,cg,ev,bN,NT,dD,n0,n6,q⟩:=h;have hu:=hr.units;refine⟨_,(nA (@az _ _ _ _ _ (iu (pv 0) (jk rfl (aG (jk rfl (aG (aI (i:=2) dB.nd rfl (Or.inl rfl)) (aG (aI (i:=3) dB.nd rfl (Or.inl rfl)) (aG (aI (i:=4) dB.nd rfl (Or.inl rfl)) dW)))) (aG (aI (i:=5) dB.nd rfl (Or.inl rfl)) (aG (aI (i:=6) dB.nd rfl (Or.inl rfl)) dW)))))
  (@az _ _ _ _ _ (aV (i:=7) dB.nd rfl (Or.inl rfl) (av d9 (av aF (pv 2) (aO aC (pv 5) ak (λ_ _=>rfl))) (av aF (pv 3) (pv 3))))
  (@az _ _ _ _ _ (aV (i:=8) dB.nd rfl (Or.inl rfl) (av d9 (av aF (pv 2) (aO aC (pv 5) ak (λ_ _=>rfl))) (av aF (pv 3) (pv 4))))
  (@az _ _ _ _ _ (aV (i:=9) dB.nd rfl (Or.inl rfl) (av d9 (av aF (pv 2) (aO aC (pv 6) ak (λ_ _=>rfl))) (av aF (pv 4) (pv 4))))
  (@az _ _ _ _ _ (aV (i:=10) dB.nd rfl (Or.inl rfl) (aN bT hr rfl aM (af (pv 0) ah)))
  (@az _ _ _ _ _ (aV (i:=11) dB.nd rfl (Or.inl rfl) (av aF (av aF ak (pv 1)) (pv 2)))
  (@az _ _ _ _ _ (aV (i:=12) dB.nd rfl (Or.inl rfl) (eU ah))
  (@az _ _ _ _ _ (aV (i:=13) dB.nd rfl (Or.inl rfl) (aN qz hr rfl aM (af (av fP (av aF (av aF ak (pv 1)) (pv 7)) (pv 10)) ah)))
  (@az _ _ _ _ _ (iH PassesOwn.never rfl (yC rfl aB (af (AX v7 (pv 13)) (af (av ck (pv 13) ak) ah))) (aI (i:=14) dB.nd rfl (Or.inl rfl)) (nA (@az _ _ _ _ _ (aV (i:=15) dB.nd rfl (Or.inl rfl) (aN qz hr rfl aM (af (av d9 (av aF (pv 7) (pv 11)) (av aF (av aF (av aF (pv 2) (pv 10)) (pv 14)) (pv 14))) ah)))
  (@aP _ _ _ (iH PassesOwn.never rfl (yC rfl aB (af (AX v7 (av fP (av ck (pv 15) (av aF (pv 8) (pv 14))) (pv 7))) (af (av ck (av fP (av d9 (pv 15) (av aF (pv 8) (pv 14))) (pv 7)) ak) ah))) (aI (i:=16) dB.nd rfl (Or.inl rfl)) (nA (@az _ _ _ _ _ (aV (i:=17) dB.nd rfl (Or.inl rfl) (av d9 (pv 11) (av ck (av ck (av aF (av aF (pv 7) (pv 16)) (pv 16)) (av aF (av aF (av aF ak (pv 8)) (pv 16)) (pv 14))) (av aF (av aF (pv 9) (pv 14)) (pv 14)))))
  (@aP _ _ _ (oZ (Oz acy adi adj mF (pv 12) (af (gz (af (pv 16) (af (pv 14) (af (av ck (av aF (pv 3) (pv 16)) (av aF (pv 4) (pv 14))) (af (pv 17) ah))))) ah)))))))))))
  (@aP _ _ _ (aU (pv 12))))))))))))),?_⟩
 obtain⟨c0,c1,c2,rfl,x0,x1,x2⟩:=w5 hT cg;obtain⟨fl,D0,a2,gE,fX,fM,f8,fa⟩:=fC NT dD;have k1:=zP (λc=>ent N 1 c) (c:=1) (by decide);have k2:=zP (λc=>ent N 1 c) (c:=2) (by decide);have k3:=zP (λc=>ent N 2 c) (c:=2) (by decide);have b:∀i j,i<3->j<3->(ent N i j).natAbs<2^4096:=λi j hi hj=>aK (bN i j hi hj) (by decide);refine⟨_,rfl,t,_,rfl,aZ.of hT.1,rfl,_,_,rfl,c0,_,rfl,aZ.of x0,rfl,_,_,rfl,_,_,rfl,_,_,rfl,rfl,_,_,rfl,_,_,rfl,rfl,?_⟩;have l1:=NT.CN;have l2:=NT.Gf;have tx:∀x:Int,0<=x->x<=1000000000000->x.natAbs<2^40:=λx h0 h1=>by(clear l2 l1 b k3 k2 k1 fa f8 fM fX gE a2 D0 fl hu q n6 n0 dD aB;omega)
 have tw:∀x:Int,0<=x->x<=1000000000000->x.natAbs<2^4096:=λx h0 h1=>aao (tx x h0 h1) (aaF (by decide) (by decide))
 with_reducible apply vO
 ·exact λR hR=>⟨_,rfl,_,rfl,c1,_,_,_,rfl,rfl,aZ.of x1,k1,_,_,rfl,rfl,⟨b 0 0 (by decide) (by decide),b 1 1 (by decide) (by decide)⟩,_,rfl,_,rfl,_,_,rfl,rfl,⟨b 0 1 (by decide) (by decide),b 0 1 (by decide) (by decide)⟩,_,_,rfl,rfl,hR⟩
 with_reducible apply vO
 ·exact λR hR=>⟨_,rfl,_,rfl,c1,_,_,_,rfl,rfl,aZ.of x1,k2,_,_,rfl,rfl,⟨b 0 0 (by decide) (by decide),b 1 2 (by decide) (by decide)⟩,_,rfl,_,rfl,_,_,rfl,rfl,⟨b 0 1 (by decide) (by decide),b 0 2 (by decide) (by decide)⟩,_,_,rfl,rfl,hR⟩
 with_reducible apply vO
 ·exact λR hR=>⟨_,rfl,_,rfl,c2,_,_,_,rfl,rfl,aZ.of x2,k3,_,_,rfl,rfl,⟨b 0 0 (by decide) (by decide),b 2 2 (by decide) (by decide)⟩,_,rfl,_,rfl,_,_,rfl,rfl,⟨b 0 2 (by decide) (by decide),b 0 2 (by decide) (by decide)⟩,_,_,rfl,rfl,hR⟩
 refine⟨_,rfl,t,_,N,rfl,hT,cg,bN.mono (by decide),trivial,λH1 s1=> ?_⟩;refine⟨_,rfl,_,_,rfl,rfl,⟨by show(2:Int).natAbs<2^4096;exact tw 2 (by decide) (by decide),tw n n0 (by omega)⟩,_,rfl,_,_,rfl,rfl,⟨tw _ (by omega) (by omega),b 0 0 (by decide) (by decide)⟩,?_⟩;refine⟨by decide,λD hD=> ?_⟩;refine⟨_,rfl,_,_,rfl,rfl,⟨tw 2 (by decide) (by decide),tw n n0 (by omega)⟩,_,rfl,_,_,rfl,rfl,⟨tw _ (by omega) (by omega),tw (d8 N) (by omega) (by omega)⟩,?_⟩;have nf:n*d8 N<=1100*1069:=aaN n6 (by omega) (by omega) (by decide);have qA:0<=n*d8 N:=Rg n0 (by omega);have en:2*n*d8 N=2*(n*d8 N):=abQ _ _ _;have X0:0<=2*n*d8 N/aA N:=adG (by(clear hD tw tx l2 l1 b k3 k2 k1 fa f8 fM fX gE a2 D0 fl hu q n6 n0 dD aB;omega)) (by omega);have X1:2*n*d8 N/aA N<=2*n*d8 N:=Int.ediv_le_self _ (by(clear X0 hD tw tx l2 l1 b k3 k2 k1 fa f8 fM fX gE a2 D0 fl hu q n6 n0 dD aB;omega));have bb:jx N*jx N<=1069*4840000:=by
  have h:=pI ev;have h1:0<=ent N 0 0*aA N:=Rg (by omega) (by omega);have h2:hiT N<=4840000:=by
   have h3:ent N 0 0*ent N 2 2<=2200*2200:=aaN gE fM (by(clear h1 h X1 X0 en qA nf hD tw tx b k3 k2 k1 fM hu q n6 n0 aB;omega)) (by omega);have h4:=bI (ent N 0 2);unfold hiT
   (clear h1 h X1 X0 en qA nf hD tw tx l2 l1 b k3 k2 k1 fa f8 fM fX gE a2 D0 fl hu q n6 n0 dD aB;omega)
  have h5:d8 N*hiT N<=d8 N*4840000:=aal h2 (by omega)
  (clear h2 X1 X0 en qA nf hD tw tx l2 l1 b k3 k2 k1 fa fM fX gE a2 hu q n6 n0 aB;omega)
 have bn: -100000<=jx N/\jx N<=100000:=by
  constructor
  ·refine Classical.byContradiction λz=> ?_
   have:100000*100000<= -jx N* -jx N:=aaN (by omega) (by omega) (by omega) (by omega);rw[ab9]at this;omega
  ·refine Classical.byContradiction λz=> ?_
   have:100000*100000<=jx N*jx N:=aaN (by omega) (by omega) (by omega) (by omega);omega
 refine⟨_,rfl,_,_,rfl,rfl,⟨D0,Int.lt_of_le_of_lt dD (by decide)⟩,2*n*d8 N/aA N,rfl,X0,(by have:=tx _ X0 (aaB X1 (by(clear bn bb X1 X0 hD tw tx l2 l1 b k3 k2 k1 fa f8 fM fX gE a2 D0 fl hu q n6 n0 dD aB;omega)));exact aao this (by decide)),λR R0 r1 r2=> ?_⟩;have xT:=KZ NT dD n0 n6 R0 r1;obtain⟨sp,qS⟩:∃sp:Int->Int,sp=λz=>om (d8 N*(2*n*ent N 0 0) -ent N 0 0*aA N*z*z):=⟨_,rfl⟩;have rN:∀z,-R<=z->z<=R->0<=d8 N*(2*n*ent N 0 0) -ent N 0 0*aA N*z*z:=λz z0 z1=>by
  have h:=(L2.aB D0 fl R0 r1 r2).mp ⟨z0,z1⟩;have h1:=aal h (show 0<=ent N 0 0 by omega);have h2:ent N 0 0*aA N*z*z=ent N 0 0*(aA N*z*z):=by grind
  have h3:d8 N*(2*n*ent N 0 0)=ent N 0 0*(2*n*d8 N):=by grind
  (clear h z1 z0 qS xT r2 r1 R0 bn bb X1 X0 en qA nf hD tw tx l2 l1 b k3 k2 k1 fa f8 fM fX gE a2 D0 fl hu q n6 n0 dD aB;omega)
 have s0:∀z,-R<=z->z<=R->0<=sp z/\sp z*sp z<=d8 N*(2*n*ent N 0 0) -ent N 0 0*aA N*z*z/\d8 N*(2*n*ent N 0 0) -ent N 0 0*aA N*z*z<(sp z+1)*(sp z+1):=λz z0 z1=>by
  rw[qS];exact tS (rN z z0 z1)
 have sS:∀z,-R<=z->z<=R->sp z<=39*d8 N:=λz z0 z1=>NQ NT dD n0 n6 (s0 z z0 z1).1 (s0 z z0 z1).2.1;obtain⟨lo,rO⟩:∃lo:Int->Int,lo=λz=> -((sp z+jx N*z)/d8 N):=⟨_,rfl⟩;obtain⟨ln,qT⟩:∃ln:Int->Nat,ln=λz=>((sp z-jx N*z)/d8 N+1- -((sp z+jx N*z)/d8 N)).toNat:=⟨_,rfl⟩;have oq:∀y z,(y,z)∈gC lo ln R (2*R+1).toNat↔0<=l7 N n y z:=λy z=>by
  rw[rO,qT];exact Cc ev (by omega) fl D0 R0 r1 r2 s0 y z
 have je:∀z,-R<=z->z<=R->ln z<=79:=λz z0 z1=>by
  have h:=sS z z0 z1;have h1:(sp z-jx N*z)/d8 N*d8 N<=sp z-jx N*z:=Int.ediv_mul_le _ (by omega);have h2:(sp z+jx N*z)/d8 N*d8 N<=sp z+jx N*z:=Int.ediv_mul_le _ (by omega);have h3:((sp z-jx N*z)/d8 N+(sp z+jx N*z)/d8 N)*d8 N<=78*d8 N:=by
   rw[adU]
   (clear z1 z0 oq qT rO sS s0 rN qS xT r2 r1 R0 bn bb X1 X0 en qA nf hD tw tx l2 l1 b k3 k2 k1 fa f8 fM fX gE a2 D0 fl hu q n6 n0 dD aB;omega)
  have h4:=Int.le_of_mul_le_mul_right h3 fl;rw[qT];show((sp z-jx N*z)/d8 N+1- -((sp z+jx N*z)/d8 N)).toNat<=79
  (clear h3 h2 h1 h z1 z0 oq qT rO sS s0 rN qS xT r2 r1 R0 bn bb X1 X0 en qA nf hD tw tx l2 l1 b k3 k2 k1 fa f8 fM fX gE a2 D0 fl hu q n6 n0 dD aB;omega)
 have jy:∀m:Nat,(m:Int)<=2*R+1->(gC lo ln R m).length<=m*79:=λm hm=>xo λi hi=>je _ (by omega) (by(clear je oq qT rO sS s0 rN qS xT r2 r1 R0 bn bb X1 X0 en qA nf hD tw tx l2 l1 b k3 k2 k1 fa f8 fM fX gE a2 D0 fl hu q n6 n0 dD aB;omega));refine⟨_,rfl,_,rfl,_,rfl,_,_,rfl,rfl,_,_,rfl,⟨by omega,by omega,by omega,by omega⟩,?_⟩;refine iE (λi σ H'=> ∃o1 o2 o3 o4 us,σ=[some (.ref t),some (.int n),some (.int (ent N 0 0)),some (.int (ent N 0 1)),some (.int (ent N 0 2)),some (.ref c1),some (.ref c2),some (.int (d8 N)),some (.int (jx N)),some (.int (hiT N)),some (.int (aA N)),some (.int (2*n*ent N 0 0)),some (.ref D),some (.int R),o1,o2,o3,o4]/\SD D H1 H'/\H' D=some (.lst us)/\eV H' N n us (gC lo ln R i)) ⟨_,_,_,_,_,rfl,SD.refl.upd,ao,.nil⟩ (λi σ H' hi hh=> ?_) (λσ H' hh=> ?_)
 ·obtain⟨o1,o2,o3,o4,us,rfl,sD,eD,tu⟩:=hh
  obtain⟨z,ez⟩:∃z:Int,z=(i:Int) -R:=⟨_,rfl⟩;have yh: -R+(i:Int)=z:=by(clear eD hi jy je oq qT rO sS s0 rN qS xT r2 r1 R0 bn bb X1 X0 en qA nf hD tw tx l2 l1 b k3 k2 k1 fa f8 fM fX gE a2 D0 fl hu q n6 n0 dD aB;omega)
  rw[yh];have z0: -R<=z:=by(clear yh eD hi jy je oq qT rO sS s0 rN qS xT r2 r1 R0 bn bb X1 X0 en qA nf hD tw tx l2 l1 b k3 k2 k1 fa f8 fM fX gE a2 D0 fl hu q n6 n0 dD aB;omega)
  have z1:z<=R:=by(clear z0 yh eD jy je oq qT rO sS s0 rN qS r2 r1 bn bb X1 X0 en qA nf hD tw tx l2 l1 b k3 k2 k1 fa f8 fM fX gE a2 D0 fl hu q n6 n0 dD aB;omega)
  have nz:z.natAbs<=76:=by(clear z0 yh eD hi jy je oq qT rO sS s0 rN qS r2 r1 bn bb X1 X0 en qA nf hD tw tx l2 l1 b k3 k2 k1 fa f8 fM fX gE a2 D0 fl hu q n6 n0 dD aB;omega)
  have yi:(d8 N).natAbs<=1069:=by omega
  have xU:(jx N).natAbs<=100000:=by(clear yi nz z1 z0 yh ez eD hi jy je oq qT rO sS s0 rN qS xT r2 r1 R0 bb X1 X0 en qA nf hD tw tx l2 l1 b k3 k2 k1 fa f8 fM fX gE a2 D0 fl hu q n6 n0 dD aB;omega)
  have na:(ent N 0 0).natAbs<=2200:=by omega
  have nD:(aA N).natAbs<=401:=by omega
  have nm:(2*n*ent N 0 0).natAbs<=2200*2200:=pO (by omega) na;have AR:=pO na nD;have ou:=pO AR nz;have Gn:=pO xU nz;have CS:(d8 N*(2*n*ent N 0 0) -ent N 0 0*aA N*z*z).natAbs<2^200:=by
   have h1:=pO yi nm;have h2:=pO ou nz;exact aaL (m:=10^20) (by(clear Gn ou AR nm nD na xU yi nz z1 z0 yh ez eD hi jy je oq qT rO sS s0 rN qS xT r2 r1 R0 bn bb X1 X0 en qA nf hD tw tx l2 l1 b k3 k2 k1 fa f8 fM fX gE a2 D0 fl hu q n6 n0 dD aB;omega)) (by decide)
  have nhi:(hiT N).natAbs<=30000000:=by
   have h1:=pO na (show(ent N 2 2).natAbs<=2200 by(clear CS Gn ou AR nm nD na xU yi nz z1 z0 yh ez eD hi jy je oq qT rO sS s0 rN qS xT r2 r1 R0 bn bb X1 X0 en qA nf hD tw tx b k3 k2 k1 hu q n6 n0 aB;omega));have hu:=NT.u;have h2:=pO (show(ent N 0 2).natAbs<=4400 by(clear h1 CS Gn ou AR nm nD na xU yi nz z1 z0 yh ez eD hi jy je oq qT rO sS s0 rN qS xT r2 r1 R0 bn bb X1 X0 en qA nf hD tw tx l2 l1 b k3 k2 k1 fM fX q n6 n0 aB;omega)) (show(ent N 0 2).natAbs<=4400 by(clear h1 CS Gn ou AR nm nD na xU yi nz z1 z0 yh ez eD hi jy je oq qT rO sS s0 rN qS xT r2 r1 R0 bn bb X1 X0 en qA nf hD tw tx l2 l1 b k3 k2 k1 fM fX q n6 n0 aB;omega));unfold hiT
   (clear hu CS Gn ou AR nm nD na xU yi nz z1 z0 yh ez eD hi jy je oq qT rO sS s0 rN qS xT r2 r1 R0 bn bb X1 X0 en qA nf hD tw tx l2 l1 b k3 k2 k1 fa f8 fM fX gE a2 D0 fl q n6 n0 dD aB;omega)
  have C:∀{x:Int}{A:Nat},x.natAbs<=A->A<=10^30->x.natAbs<2^4096:=λh g=>Yb (aa8 h g);refine⟨_,rfl,_,rfl,_,_,rfl,rfl,⟨C yi (by decide),C nm (by decide)⟩,_,rfl,_,rfl,_,_,rfl,rfl,⟨C na (by decide),C nD (by decide)⟩,_,rfl,_,_,rfl,rfl,⟨C AR (by decide),C nz (by decide)⟩,_,rfl,_,_,rfl,rfl,⟨C ou (by decide),C nz (by decide)⟩,_,_,rfl,rfl,_,rfl,rN z z0 z1,CS,λw h0 h1 h2=> ?_⟩;have es:w=sp z:=by rw[qS];exact(vN h0 h1 h2).symm
  have wS:=sS z z0 z1;rw[<-es]at wS;have q1:=TQ (x:=w+jx N*z) fl (by(clear h2 h1 C nhi CS ou AR nm nD na xU yi nz z1 z0 yh ez eD hi jy je oq qT rO sS s0 rN qS xT r2 r1 R0 bn bb X1 X0 en qA nf hD tw tx l2 l1 b k3 k2 k1 fa fM fX gE a2 hu q n6 n0 aB;omega));have q2:=TQ (x:=w-jx N*z) fl (by(clear q1 h2 h1 C nhi CS ou AR nm nD na xU yi nz z1 z0 yh ez eD hi jy je oq qT rO sS s0 rN qS xT r2 r1 R0 bn bb X1 X0 en qA nf hD tw tx l2 l1 b k3 k2 k1 fa fM fX gE a2 hu q n6 n0 aB;omega));refine⟨_,rfl,_,rfl,_,rfl,_,_,rfl,rfl,⟨C xU (by decide),C nz (by decide)⟩,_,_,rfl,rfl,_,rfl,_,_,rfl,rfl,⟨fl,by omega⟩,_,rfl,?_⟩;refine⟨_,rfl,_,rfl,_,rfl,_,_,rfl,rfl,⟨C xU (by decide),C nz (by decide)⟩,_,_,rfl,rfl,_,rfl,_,_,rfl,rfl,⟨fl,by omega⟩,_,_,rfl,rfl,_,_,rfl,⟨by(clear q2 wS es h2 h1 h0 C nhi CS Gn ou AR nm nD na xU yi nz z1 z0 yh ez eD hi jy je oq qT rO sS s0 rN qS xT r2 r1 R0 bn bb X1 X0 en qA nf hD tw tx l2 l1 b k3 k2 k1 fa f8 fM fX gE a2 D0 fl hu q n6 n0 dD aB;omega),by(clear q2 wS es h2 h1 h0 C nhi CS Gn ou AR nm nD na xU yi nz z1 z0 yh ez eD hi jy je oq qT rO sS s0 rN qS xT r2 r1 R0 bn bb X1 X0 en qA nf hD tw tx l2 l1 b k3 k2 k1 fa f8 fM fX gE a2 D0 fl hu q n6 n0 dD aB;omega),by(clear q1 wS es h2 h1 h0 C nhi CS Gn ou AR nm nD na xU yi nz z1 z0 yh ez eD hi jy je oq qT rO sS s0 rN qS xT r2 r1 R0 bn bb X1 X0 en qA nf hD tw tx l2 l1 b k3 k2 k1 fa f8 fM fX gE a2 D0 fl hu q n6 n0 dD aB;omega),by(clear q1 wS es h2 h1 h0 C nhi CS Gn ou AR nm nD na xU yi nz z1 z0 yh ez eD hi jy je oq qT rO sS s0 rN qS xT r2 r1 R0 bn bb X1 X0 en qA nf hD tw tx l2 l1 b k3 k2 k1 fa f8 fM fX gE a2 D0 fl hu q n6 n0 dD aB;omega)⟩,?_⟩;have Wz:lo z= -((w+jx N*z)/d8 N):=by rw[rO,es]
  have UK:ln z=((w-jx N*z)/d8 N+1- -((w+jx N*z)/d8 N)).toNat:=by rw[qT,es]
  have WA:=je z z0 z1;have li:=jy i (by omega);refine iE (λj σ H2=> ∃o3 o4 us',σ=[some (.ref t),some (.int n),some (.int (ent N 0 0)),some (.int (ent N 0 1)),some (.int (ent N 0 2)),some (.ref c1),some (.ref c2),some (.int (d8 N)),some (.int (jx N)),some (.int (hiT N)),some (.int (aA N)),some (.int (2*n*ent N 0 0)),some (.ref D),some (.int R),some (.int z),some (.int w),o3,o4]/\SD D H1 H2/\H2 D=some (.lst us')/\eV H2 N n us' (gC lo ln R i++iT z (lo z) j)) ⟨_,_,_,rfl,sD,eD,by simpa [iT]using tu⟩ (λj σ H2 hj hh=> ?_) (λσ H2 hh=> ?_)
  ·obtain⟨o3,o4,us',rfl,WB,xq,UL⟩:=hh
   obtain⟨y,ey⟩:∃y:Int,y=lo z+(j:Int):=⟨_,rfl⟩;have TR: -((w+jx N*z)/d8 N)+(j:Int)=y:=by(clear xq hj li WA UK q2 q1 wS es h2 h1 h0 C nhi CS Gn ou AR nm nD na xU yi nz z1 z0 yh ez eD hi jy je oq qT rO sS s0 rN qS xT r2 r1 R0 bn bb X1 X0 en qA nf hD tw tx l2 l1 b k3 k2 k1 fa f8 fM fX gE a2 D0 fl hu q n6 n0 dD aB;omega)
   rw[TR];have ny:y.natAbs<=20000000000:=by(clear TR xq li q1 wS es h2 h1 h0 C nhi CS Gn ou AR nm nD na xU yi nz z1 z0 yh ez eD hi jy je oq qT rO sS s0 rN qS xT r2 r1 R0 bn bb X1 X0 en qA nf hD tw tx l2 l1 b k3 k2 k1 fa f8 fM fX gE a2 D0 fl hu q n6 n0 dD aB;omega)
   have UM:=pO yi ny;have UN:=pO (pO (show(2:Int).natAbs<=2 by decide) xU) ny;have UO:=pO nhi nz;have hp:=NT.p;have hu:=NT.u;have np:(ent N 0 1).natAbs<=2200:=by(clear hu UO UN UM ny TR ey xq hj li WA UK Wz q2 q1 wS es h2 h1 h0 C nhi CS Gn ou AR nm nD na xU yi nz z1 z0 yh ez eD hi jy je oq qT rO sS s0 rN qS xT r2 r1 R0 bn bb X1 X0 en qA nf hD tw tx l2 l1 b k3 k2 k1 fM fX q n6 n0 aB;omega)
   have nq:(ent N 0 2).natAbs<=4400:=by(clear np hp UO UN UM ny TR ey xq hj li WA UK Wz q2 q1 wS es h2 h1 h0 C nhi CS Gn ou AR nm nD na xU yi nz z1 z0 yh ez eD hi jy je oq qT rO sS s0 rN qS xT r2 r1 R0 bn bb X1 X0 en qA nf hD tw tx l2 l1 b k3 k2 k1 fM fX q n6 n0 aB;omega)
   show CT _ _ _ _ _
   with_reducible apply vO
   ·exact λR hR=>⟨_,rfl,_,rfl,_,rfl,_,_,rfl,rfl,⟨C yi (by decide),C ny (by decide)⟩,_,rfl,_,_,rfl,rfl,⟨C UM (by decide),C ny (by decide)⟩,_,rfl,_,_,rfl,rfl,⟨C (A:=2) (by decide) (by decide),C xU (by decide)⟩,_,rfl,_,_,rfl,rfl,⟨C (pO (show(2:Int).natAbs<=2 by decide) xU) (by decide),C ny (by decide)⟩,_,rfl,_,_,rfl,rfl,⟨C UN (by decide),C nz (by decide)⟩,_,_,rfl,rfl,_,rfl,_,rfl,_,_,rfl,rfl,⟨C nhi (by decide),C nz (by decide)⟩,_,rfl,_,_,rfl,rfl,⟨C UO (by decide),C nz (by decide)⟩,_,_,rfl,rfl,_,_,rfl,rfl,hR⟩
   refine⟨_,rfl,.inl ⟨rfl,_,aZ.of xq⟩,_,rfl,_,rfl,_,rfl,_,rfl,_,_,rfl,rfl,⟨C np (by decide),C ny (by decide)⟩,_,rfl,_,rfl,_,_,rfl,rfl,⟨C nq (by decide),C nz (by decide)⟩,_,_,rfl,rfl,_,rfl,(by show 4<=sizeLine;decide),λb hb=> ?_⟩;have ul:us'.length<sizeLine:=by
    have:=UL.length;rw[aaC]at this;have h2:(iT z (lo z) j).length=j:=by simp[iT]
    show us'.length<16777216
    (clear hb nq np hu hp UO UN UM ny TR ey xq Wz q2 q1 wS es h1 h0 C nhi CS Gn ou AR nm nD na xU yi nz yh eD hi jy je oq qT rO sS s0 rN qS r2 r1 bn bb X1 X0 en qA nf hD tw tx l2 l1 k3 k2 k1 fa f8 fM fX gE a2 D0 fl q n6 n0 dD aB;omega)
   have Yc:b≠D:=λz=>by rw[z,xq]at hb;cases hb
   refine⟨D,us',.ref b,rfl,rfl,by rw[aH (λz=>Yc z.symm)];exact xq,ul,?_⟩;refine⟨_,_,_,rfl,(SD.trans WB (SD.of (ay.up hb))).upd,ao,?_⟩;rw[Cb,<-abo];refine eV.upd (by rw[aH (λz=>Yc z.symm)];exact xq) ((UL.same (ay.up hb)).append (.cons ?_ .nil));rw[ao,<-ey]
   rfl
  ·obtain⟨o3,o4,us',rfl,WB,xq,UL⟩:=hh
   refine⟨_,_,_,_,_,rfl,WB,xq,?_⟩;rw[nN,<-ez,UK];exact UL
 ·obtain⟨o1,o2,o3,o4,us,rfl,sD,eD,tu⟩:=hh
  refine⟨_,rfl,?_⟩;have nd:=jy (2*R+1).toNat (by(clear eD jy je oq qT rO sS s0 rN qS r2 r1 bn bb X1 X0 en qA nf hD tw tx l2 l1 b k3 k2 k1 fa f8 fM fX gE a2 D0 fl hu q n6 n0 dD aB;omega));refine q D us _ H' ?_ eD ?_ yg oq (by(clear eD jy je oq qT rO sS s0 rN qS r2 r1 bn bb X1 X0 en qA nf hD tw tx l2 l1 b k3 k2 k1 fa f8 fM fX gE a2 D0 fl hu q n6 n0 dD aB;omega))
  ·exact λa o e=>(sD.same hD) a o (s1 _ _ e)
  ·have e:(R+1- -R).toNat=(2*R+1).toNat:=by(clear nd eD jy je oq qT rO sS s0 rN qS r2 r1 bn bb X1 X0 en qA nf hD tw tx l2 l1 b k3 k2 k1 fa f8 fM fX gE a2 D0 fl hu q n6 n0 dD aB;omega)
   rw[<-e];exact tu
end
end CV
namespace L2
open PySem PySem.Spec PyProof.Rows PySem.SeqAt
noncomputable def iC:Int:=2^1001
theorem Gp:iC=2*((2^1000:Nat):Int):=by
 unfold iC;rw[show(1001:Nat)=1000+1 from rfl,Int.pow_succ,abb]
 congr 1
noncomputable def qB(r:List Int):Int:=aL r 0*(iC*iC)+aL r 1*iC+aL r 2
noncomputable def l8(r:List Int):Prop:=∀i,i<3->(aL r i).natAbs<2^1000
theorem Ce{B u v w:Int}(hB:0<B)(hu:1<=u)(hv: -(B-1)<=v)(hw: -(B-1)<=w):0<u*(B*B)+v*B+w:=by
 have h1:0<=B*B:=Rg (by omega) (by omega);have h2:1*(B*B)<=u*(B*B):=aan hu h1;have h3: -(B-1)*B<=v*B:=aan hv (by omega);have h4: -(B-1)*B=B-B*B:=by rw[adX,acV];omega
 (clear h1 hv hu hB;omega)
theorem zo{B v w:Int}(hB:0<B)(hv:1<=v)(hw: -(B-1)<=w):0<v*B+w:=by
 have h2:1*B<=v*B:=aan hv (by omega);omega
theorem An{B x y z x' y' z':Int}(hB:0<B)(a1:y'-y<=B-1/\y-y'<=B-1)(a2:z'-z<=B-1/\z-z'<=B-1):
  (x*(B*B)+y*B+z<x'*(B*B)+y'*B+z')↔(x<x'∨(x=x'/\(y<y'∨(y=y'/\z<z')))):=by
 have d:x'*(B*B)+y'*B+z'- (x*(B*B)+y*B+z)=(x'-x)*(B*B)+(y'-y)*B+(z'-z):=by grind
 have d':x*(B*B)+y*B+z- (x'*(B*B)+y'*B+z')=(x-x')*(B*B)+(y-y')*B+(z-z'):=by grind
 rcases adh x x' with h|h|h
 ·have:=Ce (u:=x'-x) (v:=y'-y) (w:=z'-z) hB (by(clear d' d a2 a1 hB;omega)) (by omega) (by omega)
  exact⟨λ_=> .inl h,λ_=>by(clear h a2 a1 hB;omega)⟩
 ·subst h
  rw[Int.sub_self,Int.zero_mul,Int.zero_add]at d d';rcases adh y y' with h|h|h
  ·have:=zo (v:=y'-y) (w:=z'-z) hB (by omega) (by omega)
   exact⟨λ_=> .inr ⟨rfl,.inl h⟩,λ_=>by(clear h a2 a1 hB;omega)⟩
  ·subst h
   constructor
   ·intro _;exact .inr ⟨rfl,.inr ⟨rfl,by omega⟩⟩
   ·rintro(z|⟨_,z|⟨_,z⟩⟩)<;>(clear d' d a1 a2 hB;omega)
  ·have:=zo (v:=y-y') (w:=z-z') hB (by omega) (by omega)
   constructor
   ·intro _;(clear h a2 a1 hB;omega)
   ·rintro(z|⟨_,z|⟨z,_⟩⟩)<;>(clear this d' d a2 a1 hB;omega)
 ·have:=Ce (u:=x-x') (v:=y-y') (w:=z-z') hB (by(clear d' d a2 a1 hB;omega)) (by omega) (by omega)
  constructor
  ·intro _;(clear h a2 a1 hB;omega)
  ·rintro(z|⟨z,_⟩)<;>(clear this d' d a2 a1 hB;omega)
theorem kX:0<iC:=by
 rw[Gp];have:0<2^1000:=Nat.pow_pos (by decide);omega
theorem fj{a b:Int}(ha:a.natAbs<2^1000)(hb:b.natAbs<2^1000):a-b<=iC-1/\b-a<=iC-1:=by
 rw[Gp];omega
theorem NR{x y z x' y' z':Int}(a1:y.natAbs<2^1000)(a2:z.natAbs<2^1000)(b1:y'.natAbs<2^1000)(b2:z'.natAbs<2^1000):
  Ku (.list [.int x,.int y,.int z]) (.list [.int x',.int y',.int z'])=decide (x*(iC*iC)+y*iC+z<x'*(iC*iC)+y'*iC+z'):=by
 have e1:∀a b:Int,PyData.eqv (.int a) (.int b)=decide (a=b):=λa b=>rfl;have e:=An (x:=x) (x':=x') kX (fj b1 a1) (fj b2 a2);rw[acq,decide_eq_true_iff,e];simp only[Ku,qf,e1]
 by_cases h1:x=x'
 ·by_cases h2:y=y'
  ·by_cases h3:z=z'
   ·simp[h1,h2,h3]
   ·simp[h1,h2,h3]
  ·simp[h1,h2]
 ·simp[h1]
theorem Cf{K:PySem.W.Frag}{H:Hp}{p:Addr}{as:List Addr}{Q:VK}(hp:aZ K H p (as.map V.ref))(ok:gH H as)(sm:∀b∈as,l8 (dR H b))
  (q:∀bs:List Addr,bs.Perm as->(rws H bs).Pairwise (λr s=>qB r<=qB s) -> ∀l,H l=none->Q (.ref l) (upd H l (.lst (bs.map V.ref)))):z5 K [.ref p] H Q:=by
 refine⟨p,as,λa=>qB (dR H a),λa=> .list [.int (aL (dR H a) 0),.int (aL (dR H a) 1),.int (aL (dR H a) 2)],rfl,hp,λa ha=>⟨?_,qa [aL (dR H a) 0,aL (dR H a) 1,aL (dR H a) 2]⟩,.inl λa ha b hb=>⟨.lst (.cons (.int _ _) (.cons (.int _ _) (.cons (.int _ _) .nil))),?_⟩,λbs pb so l hl=> ?_⟩
 ·exact .lst (aZ.of (ok a ha).1) (.cons (.int _) (.cons (.int _) (.cons (.int _) .nil)))
 ·exact NR (sm a ha 1 (by decide)) (sm a ha 2 (by decide)) (sm b hb 1 (by decide)) (sm b hb 2 (by decide))
 ·exact q bs pb (by unfold rws;rw[abK];exact so) l hl
theorem NS{r s:List Int}(hr:r.length=3)(hs:s.length=3)(a:l8 r)(b:l8 s)(e:qB r=qB s):r=s:=by
 have h1:=mt (An kX (x:=aL r 0) (x':=aL s 0) (fj (b 1 (by decide)) (a 1 (by decide))) (fj (b 2 (by decide)) (a 2 (by decide)))).mpr (by unfold qB at e;(clear hs hr;omega));have h2:=mt (An kX (x:=aL s 0) (x':=aL r 0) (fj (a 1 (by decide)) (b 1 (by decide))) (fj (a 2 (by decide)) (b 2 (by decide)))).mpr (by unfold qB at e;(clear h1 hs hr;omega));have e0:aL r 0=aL s 0:=by(clear e hs hr;omega)
 have e1:aL r 1=aL s 1:=by(clear e0 e hs hr;omega)
 have e2:aL r 2=aL s 2:=by(clear e0 e hs hr;omega)
 rw[zc hr,zc hs,e0,e1,e2]
end L2
namespace L2
open PySem
noncomputable section
noncomputable def eZ(s:Int):List Int:=if 0<s then [s,-s]else [0]
noncomputable def cG(N:List (List Int))(p:Int×Int)(ks:List Int):List (List Int):=ks.flatMap λk=>if(k-rY N p.1 p.2)%ent N 0 0=0 then [[(k-rY N p.1 p.2)/ent N 0 0,p.1,p.2]]else []
noncomputable def gh(N:List (List Int))(n:Int)(p:Int×Int):List (List Int):=if om (l7 N n p.1 p.2)*om (l7 N n p.1 p.2)=l7 N n p.1 p.2 then cG N p (eZ (om (l7 N n p.1 p.2)))else []
theorem uV{s k:Int}(h:0<=s):k∈eZ s↔k*k=s*s:=by
 unfold eZ;have key:k*k=s*s↔k=s∨k= -s:=by
  constructor
  ·intro e
   have:(k-s)*(k+s)=0:=by grind
   rcases acw.mp this with z|z<;>(clear this e;omega)
  ·rintro(rfl|rfl)<;>grind
 rw[key]
 split
 ·simp
 ·have:s=0:=by omega
  simp[this]
theorem j7{N:List (List Int)}(pos:0<ent N 0 0){p:Int×Int}{ks:List Int}{r:List Int}:r∈cG N p ks↔ ∃x,r=[x,p.1,p.2]/\ent N 0 0*x+rY N p.1 p.2∈ks:=by
 unfold cG;rw[abO];constructor
 ·rintro⟨k,hk,h⟩
  split at h
  ·rename_i e
   rw[aap]at h;refine⟨_,h,?_⟩;have:=Int.mul_ediv_cancel' (Int.dvd_of_emod_eq_zero e);rw[this]
   rwa [Int.sub_add_cancel]
  ·cases h
 ·rintro⟨x,rfl,h⟩
  refine⟨_,h,?_⟩;rw[Int.add_sub_cancel,if_pos (Int.mul_emod_right _ _),adf _ (by omega)];simp
theorem nO{N:List (List Int)}(pos:0<ent N 0 0){n:Int}{p:Int×Int}(h0:0<=l7 N n p.1 p.2){r:List Int}:r∈gh N n p↔ ∃x,r=[x,p.1,p.2]/\(ent N 0 0*x+rY N p.1 p.2)*(ent N 0 0*x+rY N p.1 p.2)=l7 N n p.1 p.2:=by
 obtain⟨s0,s1,s2⟩:=tS h0;unfold gh
 split
 ·rename_i e
  rw[j7 pos];constructor
  ·rintro⟨x,e1,h⟩
   exact⟨x,e1,((uV s0).mp h).trans e⟩
  ·rintro⟨x,e1,h⟩
   exact⟨x,e1,(uV s0).mpr (h.trans e.symm)⟩
 ·rename_i e
  constructor
  ·intro h;cases h
  ·rintro⟨x,_,h⟩
   exfalso
   apply e
   have key:∀u:Int,0<=u->u*u=l7 N n p.1 p.2->om (l7 N n p.1 p.2)=u:=λu u0 ue=>vN u0 (by(clear u0 e s2 s1 s0 h0 pos;omega)) (by rw[<-ue];exact(by grind:(u+1)*(u+1)=u*u+2*u+1)▸(by(clear ue h e s2 s1 s0 h0 pos;omega)));rcases abc 0 (ent N 0 0*x+rY N p.1 p.2)with u0|u0
   ·rw[key _ u0 h];exact h
   ·have h':(-(ent N 0 0*x+rY N p.1 p.2))*(-(ent N 0 0*x+rY N p.1 p.2))=l7 N n p.1 p.2:=by rw[ab9];exact h
    rw[key _ (by omega) h'];exact h'
theorem oU{N:List (List Int)}(pos:0<ent N 0 0){p:Int×Int}:∀{ks:List Int},ks.Nodup->(cG N p ks).Nodup
 | [],_=>ab3
 |k::ks,h=>by
  obtain⟨h1,h2⟩:=abg.mp h;have e:cG N p (k::ks)=cG N p [k]++cG N p ks:=by simp[cG]
  rw[e];refine abn.mpr ⟨?_,oU pos h2,λa ha b hb e=> ?_⟩
  ·unfold cG
   simp only[abW,acO,aba]
   split<;>simp
  ·subst e
   obtain⟨x,rfl,m1⟩:=(j7 pos).mp ha;obtain⟨x',e',m2⟩:=(j7 pos).mp hb;cases e';rw[aap]at m1;rw[m1]at m2;exact h1 m2
theorem Ao{N:List (List Int)}(pos:0<ent N 0 0){n:Int}{p:Int×Int}:(gh N n p).Nodup:=by
 unfold gh
 split
 ·refine oU pos ?_
  unfold eZ
  split
  ·simp;omega
  ·simp
 ·exact ab3
theorem yj{N:List (List Int)}{n:Int}{p:Int×Int}:(gh N n p).length<=2:=by
 unfold gh;have one:∀k,(if(k-rY N p.1 p.2)%ent N 0 0=0 then [[(k-rY N p.1 p.2)/ent N 0 0,p.1,p.2]]else([]:List (List Int))).length<=1:=λk=>by split<;>simp
 split
 ·unfold cG eZ
  split
  ·simp only[abW,acO,aba,aaC]
   have:=one (om (l7 N n p.1 p.2));have:=one (-om (l7 N n p.1 p.2));omega
  ·simp only[abW,acO,aba]
   have:=one 0;omega
 ·simp
noncomputable def fF(N:List (List Int))(n:Int)(L:List (List Int)):Prop:=L.Nodup/\(∀r∈L,∃v:Nat->Int,r=[v 0,v 1,v 2])/\ ∀v:Nat->Int,[v 0,v 1,v 2]∈L↔cN N v=n
theorem fF.perm{N:List (List Int)}{n:Int}{L L':List (List Int)}(h:fF N n L)(p:L'.Perm L):fF N n L':=
 ⟨p.nodup_iff.mpr h.1,λr hr=>h.2.1 r (p.mem_iff.mp hr),λv=>p.mem_iff.trans (h.2.2 v)⟩
theorem yk{N:List (List Int)}(ev:br N)(pos:0<ent N 0 0){n:Int}{ps:List (Int×Int)}(nd:ps.Nodup)(h:∀y z,(y,z)∈ps↔0<=l7 N n y z):fF N n (ps.flatMap (gh N n)):=by
 have sq:∀u:Int,0<=u*u:=λu=>by
  rcases abc 0 u with z|z
  ·exact Rg z z
  ·rw[<-ab9];exact Rg (by omega) (by omega)
 refine⟨?_,λr hr=> ?_,λv=> ?_⟩
 ·clear h
  induction ps with
  |nil=>exact ab3
  |cons p ps ih=>
   obtain⟨h1,h2⟩:=abg.mp nd;rw[abW];refine abn.mpr ⟨Ao pos,ih h2,λa ha b hb e=> ?_⟩;subst e;obtain⟨p',lD,hb⟩:=abO.mp hb;have at_:∀{p:Int×Int},a∈gh N n p-> ∃x,a=[x,p.1,p.2]:=λ {p} ha=>by
    unfold gh at ha
    split at ha
    ·obtain⟨x,e,_⟩:=(j7 pos).mp ha
     exact⟨x,e⟩
    ·cases ha
   obtain⟨x,e1⟩:=at_ ha;obtain⟨x',e2⟩:=at_ hb;rw[e1]at e2;injection e2 with _ e3;injection e3 with e4 e5;injection e5 with e6 _;have:p=p':=Prod.ext e4 e6;rw[this]at h1;exact h1 lD
 ·obtain⟨p,hp,hr⟩:=abO.mp hr
  obtain⟨x,e,_⟩:=(nO pos ((h p.1 p.2).mp hp)).mp hr;exact⟨λi=>match i with|0=>x|1=>p.1|_=>p.2,e⟩
 ·rw[tR ev pos,abO]
  constructor
  ·rintro⟨p,hp,hr⟩
   obtain⟨x,e,k⟩:=(nO pos ((h p.1 p.2).mp hp)).mp hr;injection e with e1 e;injection e with e2 e;injection e with e3 _;rw[e1,e2,e3];exact k
  ·intro k
   have l0:0<=l7 N n (v 1) (v 2):=by rw[<-k];exact sq _
   exact⟨(v 1,v 2),(h _ _).mpr l0,(nO (p:=(v 1,v 2)) pos l0).mpr ⟨v 0,rfl,k⟩⟩
theorem eV.sd{H H':Hp}{N:List (List Int)}{n:Int}{us:List V}{ps:List (Int×Int)}{D:Addr}{xs:List V}(hD:H D=some (.lst xs))(s:SD D H H')(h:eV H N n us ps):eV H' N n us ps:=by
 induction h with
 |nil=>exact .nil
 |cons e _ ih=>exact .cons (s _ _ (λz=>by rw[z,hD]at e;cases e) e) ih
theorem eV.get{H:Hp}{N:List (List Int)}{n:Int}{us:List V}{ps:List (Int×Int)}(h:eV H N n us ps):∀{i:Nat}{x:V},us[i]?=some x-> ∃a p,x= .ref a/\ps[i]?=some p/\H a=some (.tup (TN N n p)):=by
 induction h with
 |nil=>intro i x h;simp at h
 | @cons a us p ps e _ ih=>
  intro i x h
  match i,h with
  |0,h=>cases h;exact⟨a,p,rfl,rfl,e⟩
  |i+1,h=>obtain⟨a,p,e1,e2,e3⟩:=ih (i:=i) (by simpa using h);exact⟨a,p,e1,by simpa using e2,e3⟩
theorem La{te:TE}{i:Nat}{b:TS}{D:Ends}{σ:St}{H:Hp}(P:V->Hp->Prop)(h:∀R:VK,(∀v H',P v H'->R v H') ->te σ H R)(k:∀v H',P v H'->b D (σ.set i (some v)) H'):CT (Ja te (dP i)) b D σ H:=h _ k
theorem QA{t:TS}{b:TS}{D:Ends}{σ:St}{H:Hp}(P:St->Hp->Prop)(h:∀R:St->Hp->Prop,(∀σ' H',P σ' H'->R σ' H') ->t {D with nx:=R} σ H)(k:∀σ' H',P σ' H'->b D σ' H'):CT t b D σ H:=h _ k
theorem xr{N:List (List Int)}(ev:br N)(h:gJ N)(dD:aA N<=401){n y z:Int}(n0:0<=n)(n6:n<=1100)(l:0<=l7 N n y z):y.natAbs<=10^10/\z.natAbs<=10^5/\l7 N n y z<=4840000:=by
 obtain⟨fl,D0,a2,gE,fX,fM,f8,fa⟩:=fC h dD;have l1:=h.CN;have l2:=h.Gf;have g:=(xj ev (by omega) fl n y z).mp l;have sq:∀u:Int,0<=u*u:=λu=>by
  rcases abc 0 u with z|z
  ·exact Rg z z
  ·rw[<-ab9];exact Rg (by omega) (by omega)
 have n1:n*ent N 0 0<=1100*2200:=aaN n6 gE (by omega) (by decide);have n2:0<=n*ent N 0 0:=Rg n0 (by omega);have n3:d8 N*(2*n*ent N 0 0)<=1069*4840000:=aaN (by omega) (by rw[abQ];omega) (by rw[abQ];(clear sq g l2 l1 fa f8 fM fX gE a2 D0 fl l n6 n0 dD;omega)) (by decide);have e1:ent N 0 0*aA N*z*z=(ent N 0 0*aA N)*(z*z):=by grind
 have p1:1<=ent N 0 0*aA N:=abT (by omega) D0;have p2:z*z<=(ent N 0 0*aA N)*(z*z):=by
  have:=aan p1 (sq z)
  rwa [abU]at this
 have root:∀(u X B:Int),u*u<=X->0<=B->X<B*B->u.natAbs<=B.natAbs:=λu X B h1 b0 h2=>by
  refine Classical.byContradiction λc=> ?_;have:B.natAbs*B.natAbs<=u.natAbs*u.natAbs:=acg (by(clear h2 b0 h1 p2 p1 e1 n3 n2 n1 sq g l2 l1 fa f8 fM fX gE a2 D0 fl l n6 n0 dD;omega)) (by(clear h2 b0 h1 p2 p1 e1 n3 n2 n1 sq g l2 l1 fa f8 fM fX gE a2 D0 fl l n6 n0 dD;omega));have e:=acm (a:=u);have e':=acm (a:=B)
  (clear c b0 p2 p1 e1 n3 n2 n1 sq g l2 l1 fa f8 fM fX gE a2 D0 fl l n6 n0 dD;omega)
 have s1:=sq (d8 N*y+jx N*z);have z1:z.natAbs<=80000:=root z (1069*4840000) 80000 (by(clear root p1 n2 n1 sq l2 l1 fa f8 fM fX gE a2 D0 fl l n6 n0 dD;omega)) (by decide) (by decide);have w1:(d8 N*y+jx N*z).natAbs<=80000:=root _ (1069*4840000) 80000 (by have:=sq z;(clear z1 s1 root p1 n2 n1 sq l2 l1 fa f8 fM fX gE a2 D0 fl l n6 n0 dD;omega)) (by decide) (by decide);have q0:∀z w:Int,z*w=w*z:=abb;have bb:jx N*jx N<=1069*4840000:=by
  have h:=pI ev;have h1:0<=ent N 0 0*aA N:=by(clear q0 w1 z1 s1 root p2 e1 n3 n2 n1 sq g l2 l1 fa f8 fM fX gE a2 D0 fl l n6 n0 dD;omega)
  have h2:hiT N<=4840000:=by
   have h3:ent N 0 0*ent N 2 2<=2200*2200:=aaN gE fM (by omega) (by omega);have h4:=sq (ent N 0 2);unfold hiT
   (clear h1 h q0 w1 z1 s1 root p2 p1 e1 n3 n2 n1 sq g l2 l1 fa f8 fM fX gE a2 D0 fl l n6 n0 dD;omega)
  have h5:d8 N*hiT N<=d8 N*4840000:=aal h2 (by omega)
  (clear h2 h1 q0 w1 z1 s1 root p2 e1 n3 n2 n1 sq g l2 l1 fa fM fX gE a2 l n6 n0;omega)
 have bn:=root (jx N) (1069*4840000) 100000 bb (by decide) (by decide);have m1:=pO (show(jx N).natAbs<=100000 from bn) (show z.natAbs<=80000 from z1);have m2:y.natAbs<=(d8 N*y).natAbs:=by
  rw[acD];exact adx _ (by(clear m1 bn bb q0 w1 z1 s1 root p2 p1 e1 n3 n2 n1 sq g l2 l1 fa f8 fM fX gE a2 D0 l n6 n0 dD;omega))
 have UP:(d8 N*y+jx N*z).natAbs<=80000:=w1;have m3:(d8 N*y).natAbs<=8100000000:=by(clear UP m2 bn bb q0 z1 s1 root p2 p1 e1 n3 n2 n1 sq g l2 l1 fa f8 fM fX gE a2 D0 fl l n6 n0 dD;omega)
 refine⟨by(clear UP m1 bn bb q0 w1 z1 s1 root p2 p1 e1 n3 n2 n1 sq g l2 l1 fa f8 fM fX gE a2 D0 fl l n6 n0 dD;omega),by omega,?_⟩;have ZG:d8 N*(2*n*ent N 0 0-l7 N n y z)=(d8 N*y+jx N*z)*(d8 N*y+jx N*z)+(ent N 0 0*aA N)*(z*z):=by
  have h:=pI ev;rw[<-h];unfold l7
  grind
 have s2:=sq z;have pos:0<=d8 N*(2*n*ent N 0 0-l7 N n y z):=by(clear m3 UP m2 m1 bn bb q0 w1 z1 root p1 e1 n3 n2 n1 sq g l2 l1 fa f8 fM fX gE a2 D0 fl l n6 n0 dD;omega)
 have:0<=2*n*ent N 0 0-l7 N n y z:=by
  refine Classical.byContradiction λc=> ?_;have h1:d8 N*(2*n*ent N 0 0-l7 N n y z)<0:=ach fl (by omega);omega
 have e4:2*n*ent N 0 0=2*(n*ent N 0 0):=abQ _ _ _
 (clear pos s2 ZG m3 UP m2 m1 bn bb q0 w1 z1 s1 root p2 p1 e1 n3 sq g l2 l1 fa f8 fM fX gE a2 D0 fl l n6 n0 dD;omega)
theorem uW{N:List (List Int)}(h:gJ N)(dD:aA N<=401){n:Int}(n0:0<=n)(n6:n<=1100){v:Nat->Int}(e:cN N v=n):∀i,i<3->(v i).natAbs<2^60:=by
 obtain⟨fl,D0,a2,gE,fX,fM,f8,fa⟩:=fC h dD;have k:=(tR h.ev h.pos n v).mp e;have l0:0<=l7 N n (v 1) (v 2):=by
  rw[<-k];rcases abc 0 (ent N 0 0*v 0+rY N (v 1) (v 2))with z|z
  ·exact Rg z z
  ·rw[<-ab9];exact Rg (by(clear k fa f8 fM fX gE a2 D0 fl e n6 n0 dD;omega)) (by(clear k fa f8 fM fX gE a2 D0 fl e n6 n0 dD;omega))
 obtain⟨y1,z1,s1⟩:=xr h.ev h dD n0 n6 l0;have hp:=h.p;have hu:=h.u;have m1:=pO (show(ent N 0 1).natAbs<=2200 by(clear hu s1 z1 y1 l0 k fM fX e n6 n0;omega)) y1;have m2:=pO (show(ent N 0 2).natAbs<=4400 by(clear m1 hp s1 z1 y1 l0 k fM fX e n6 n0;omega)) z1;have w1:(ent N 0 0*v 0+rY N (v 1) (v 2)).natAbs<=10000:=by
  refine Classical.byContradiction λc=> ?_;have:10000*10000<=(ent N 0 0*v 0+rY N (v 1) (v 2)).natAbs*(ent N 0 0*v 0+rY N (v 1) (v 2)).natAbs:=acg (by omega) (by omega);have e:=acm (a:=ent N 0 0*v 0+rY N (v 1) (v 2))
  (clear c m2 m1 hu hp z1 y1 fa f8 fM fX gE a2 D0 fl n6 n0 dD;omega)
 have m3:(ent N 0 0*v 0).natAbs<=10^15:=by
  unfold rY at w1
  (clear hu hp s1 z1 y1 l0 k fa f8 fM fX gE a2 D0 fl e n6 n0 dD;omega)
 have m4:(v 0).natAbs<=(ent N 0 0*v 0).natAbs:=by
  rw[acD];exact adx _ (by(clear m3 w1 m2 m1 hu hp s1 z1 y1 l0 k fa f8 fM fX D0 fl e n6 n0 dD;omega))
 intro i hi;rcases aW hi with rfl|rfl|rfl
 ·exact aaL (aa8 m4 m3) (by decide)
 ·exact aaL y1 (by decide)
 ·exact aaL z1 (by decide)
theorem rP{N:List (List Int)}{p:Int×Int}:∀ks:List Int,(cG N p ks).length<=ks.length
 | []=>aav _
 |k::ks=>by
  have ih:=rP (N:=N) (p:=p) ks;have e:cG N p (k::ks)=cG N p [k]++cG N p ks:=by simp[cG]
  have h1:(cG N p [k]).length<=1:=by
   unfold cG;simp only[abW,acO,aba]
   split<;>simp
  rw[e,aaC,aa7];omega
theorem rQ{N:List (List Int)}{n:Int}:∀ps:List (Int×Int),(ps.flatMap (gh N n)).length<=2*ps.length
 | []=>aav _
 |p::ps=>by
  have ih:=rQ (N:=N) (n:=n) ps;have h1:=yj (N:=N) (n:=n) (p:=p);rw[abW,aaC,aa7];omega
theorem HY(w:Int):(eZ w).length<=2:=by
 unfold eZ
 split<;>simp
theorem gH.push{H:Hp}{D b:Addr}{as:List Addr}{x y z:Int}{o:HO}(ok:gH H as)(eD:H D=some (.lst (as.map V.ref)))(hb:H b=none)(bD:b≠D):
  gH (upd (upd H b (.lst [.int x,.int y,.int z])) D o) (as++ [b])/\rws (upd (upd H b (.lst [.int x,.int y,.int z])) D o) (as++ [b])=rws H as++ [[x,y,z]]:=by
 obtain⟨r1,r2⟩:=Tv (H:=upd (upd H b (.lst [.int x,.int y,.int z])) D o) (b:=b) (x:=x) (y:=y) (z:=z) (by rw[aH bD];exact ao);obtain⟨k1,k2⟩:=ok.keep (H':=upd (upd H b (.lst [.int x,.int y,.int z])) D o) λc hc o' e=>by
  rw[aH (BL (ok c hc) eD),aH (λz=>by rw[z,hb]at e;cases e)];exact e
 refine⟨λc hc=> ?_,?_⟩
 ·rcases aaE.mp hc with h|h
  ·exact k1 c h
  ·rw[aap.mp h];exact r1
 ·rw[DK,k2]
  show _++ [dR _ b]=_;rw[r2]
theorem fF.small{N:List (List Int)}(h:gJ N)(dD:aA N<=401){n:Int}(n0:0<=n)(n6:n<=1100){L:List (List Int)}(R:fF N n L):∀r∈L,r.length=3/\ ∀i,i<3->(aL r i).natAbs<2^60:=λr hr=>by
 obtain⟨v,rfl⟩:=R.2.1 r hr;have e:=(R.2.2 v).mp hr;have k:=uW h dD n0 n6 e;refine⟨rfl,λi hi=> ?_⟩;rcases aW hi with rfl|rfl|rfl<;>exact k _ (by decide)
theorem Lb{H:Hp}{as bs:List Addr}(p:bs.Perm as):(rws H bs).Perm (rws H as):=p.map _
theorem nQ{H:Hp}{as:List Addr}{b:Addr}(h:b∈as):dR H b∈rws H as:=aaU.mpr ⟨b,h,rfl⟩
end
noncomputable section
theorem Cg{m:List (List Int)}{x x' y y':Nat->Int}(hx:x 0=x' 0/\x 1=x' 1/\x 2=x' 2)(hy:y 0=y' 0/\y 1=y' 1/\y 2=y' 2):au m x y=au m x' y':=by
 obtain⟨a,b,c⟩:=hx;obtain⟨d,e,f⟩:=hy;rw[aT,aT,a,b,c,d,e,f]
theorem Ci{m:List (List Int)}{x x':Nat->Int}(hx:x 0=x' 0/\x 1=x' 1/\x 2=x' 2):cN m x=cN m x':=by
 unfold cN;rw[Cg hx hx]
theorem nodup_map_on{α β:Type}{f:α->β}:∀{L:List α},L.Nodup->(∀a∈L,∀b∈L,f a=f b->a=b) ->(L.map f).Nodup
 | [],_,_=>ab3
 |a::L,h,k=>by
  obtain⟨h1,h2⟩:=abg.mp h;rw[abp,abg];refine⟨λm=> ?_,nodup_map_on h2 λx hx y hy=>k x (aay _ hx) y (aay _ hy)⟩;obtain⟨b,hb,e⟩:=aaU.mp m;have:=k b (aay _ hb) a aaD e;rw[this]at hb;exact h1 hb
theorem NU{N:List (List Int)}(h:gJ N)(dD:aA N<=401):Bd 700 N:=by
 obtain⟨fl,D0,a2,gE,fX,fM,f8,fa⟩:=fC h dD;have l1:=h.CN;have l2:=h.Gf;have hp:=h.p;have hu:=h.u;have hv:=h.v;obtain⟨s1,s2,s3⟩:=h.ev.1;intro i j hi hj;refine aao (m:=2^20) ?_ (aaF (by decide) (by decide));rcases aW hi with rfl|rfl|rfl<;>rcases aW hj with rfl|rfl|rfl<;>(clear hj hi fa f8 D0 fl dD;omega)
end
noncomputable section
noncomputable def pW(R:Int):List Int:=(abx (2*R+1).toNat).map λi:Nat=>(i:Int) -R
theorem zp{R x:Int}(h:0<=R):x∈pW R↔ -R<=x/\x<=R:=by
 unfold pW;rw[aaU];constructor
 ·rintro⟨i,hi,rfl⟩
  rw[acB]at hi;omega
 ·rintro⟨h1,h2⟩
  exact⟨(x+R).toNat,by rw[acB];omega,by omega⟩
theorem HZ{R:Int}:(pW R).length=(2*R+1).toNat:=by simp[pW]
theorem length_le_of_subset{α:Type}[DecidableEq α]:∀{L M:List α},L.Nodup->(∀x∈L,x∈M) ->L.length<=M.length
 | [],_,_,_=>aa3 _
 |a::L,M,h,k=>by
  obtain⟨h1,h2⟩:=abg.mp h;have ha:=k a aaD;have:=length_le_of_subset (L:=L) (M:=M.erase a) h2 λx hx=>(List.mem_erase_of_ne (show x≠a from λe=>h1 (by rw[<-e];exact hx))).mpr (k x (aay _ hx));rw[List.length_erase_of_mem ha]at this;have:=ady ha;rw[aa7];omega
theorem Lc{m:List (List Int)}(ev:br m)(pos:0<ent m 0 0){n:Int}{R1 R2:Int}(r1:0<=R1)(r2:0<=R2)(b1:∀v,cN m v=n-> -R1<=v 1/\v 1<=R1)(b2:∀v,cN m v=n-> -R2<=v 2/\v 2<=R2){L:List (List Int)}(h:fF m n L):
  L.length<=2*((2*R1+1).toNat*(2*R2+1).toNat):=by
 have sub:∀r∈L,r∈((pW R1).flatMap λy=>(pW R2).map λz=>(y,z)).flatMap (gh m n):=λr hr=>by
  obtain⟨v,rfl⟩:=h.2.1 r hr;have e:=(h.2.2 v).mp hr;have k:=(tR ev pos n v).mp e;have l0:0<=l7 m n (v 1) (v 2):=by rw[<-k];exact bI _
  refine abO.mpr ⟨(v 1,v 2),abO.mpr ⟨v 1,(zp r1).mpr (b1 v e),aaU.mpr ⟨v 2,(zp r2).mpr (b2 v e),rfl⟩⟩,(nO (p:=(v 1,v 2)) pos l0).mpr ⟨v 0,rfl,k⟩⟩
 have le:=length_le_of_subset h.1 sub;have l2:=rQ (N:=m) (n:=n) ((pW R1).flatMap λy=>(pW R2).map λz=>(y,z));have l3:((pW R1).flatMap λy=>(pW R2).map λz=>(y,z)).length=(2*R1+1).toNat*(2*R2+1).toNat:=by
  rw[List.length_flatMap];simp only[aau,HZ,List.map_const'];rw[List.sum_replicate_nat]
 (clear sub b2 b1 r2 r1 pos;omega)
end
noncomputable section
theorem zq{m:List (List Int)}(ev:br m)(cg:aY m)(ab:bQ m=true){n:Int}{v:Nat->Int}(e:cN m v=n){i:Nat}(hi:i<3):aA m*(v i*v i)<=2*n*iW m i i:=by
 have k:=zf ev cg ab v hi;have pe:=fV ev v;have:aQ m v=2*n:=by show au m v v=_;rw[pe,e]
 rw[this]at k;rw[abb (2*n)];exact k
theorem Gq{K:PySem.W.Frag}{H:Hp}{t t':Addr}{bs bs':List Addr}{m m':List (List Int)}{Q:VK}(h:Tab H t bs m)(h':Tab H t' bs' m')(q:Q (.bl (!decide (m=m'))) H):Hl K true (.ref t) (.ref t') H Q:=
 ⟨wu m,wu m',yL h,yL h',p9 _,p9 _,by rw[MS];exact q⟩
theorem Ld{H H':Hp}{a:Addr}{o:HO}(s:ay H H')(f:H a=none):ay H (upd H' a o):=λb o' e=>by rw[aH (λz=>by rw[z,f]at e;cases e)];exact s b o' e
theorem gN{i:Nat}{v:V}{σ:St}{H:Hp}{f bk ct:St->Hp->Prop}{rt:VK}(h:f (σ.set i (some v)) H):dP i v σ H (Ends.mk f rt bk ct).nx:=h
end
end L2
set_option maxHeartbeats 1000000
namespace CV
open PySem L2
section
variable{P:Program}{w:World}{K:PySem.W.Frag}{mg:Str->Option Value}{base:Heap}
inductive qC(vs:List V)(H:Hp)(Q:VK)(E:XK):Prop
 |mk(t:Addr)(bs:List Addr)(N:List (List Int))(n:Int)(_:vs=[.ref t,.int n])(_:Tab H t bs N)(_:aY N)(_:br N)(_:Bd 700 N)(_:gJ N)(_:aA N<=401)(_:0<=n)(_:n<=1100)(_:∀(r:Addr) (as:List Addr) (H':Hp),ay H H'->H r=none->(∀b∈as,H b=none) ->H' r=some (.lst (as.map V.ref)) ->gH H' as->fF N n (rws H' as) ->(rws H' as).Pairwise (λr s=>qB r<=qB s) ->as.length<=24200->Q (.ref r) H')
theorem Aq(F:fZ K mg "near_rows" oQ ju)(fL:mg "sorted"=none)(xu:dO P w K mg base dz 4 "slices" oO Cd)(qz:dO P w K mg base dz 4 "root" tE El):dO P w K mg base dz 5 "near_rows" ju qC:=by
 refine F.ok d7 (λvs H Q E h=> ?_) (λf cdv A outer s H vs Q E hr h=> ?_)
 ·obtain⟨t,bs,N,n,rfl,hT,cg,ev,bN,NT,dD,n0,n6,q⟩:=h
  rfl
 obtain⟨t,bs,N,n,rfl,hT,cg,ev,bN,NT,dD,n0,n6,q⟩:=h;have hu:=hr.units;refine⟨_,(nA (@az _ _ _ _ _ (aV (i:=2) d7.nd rfl (Or.inl rfl) (aO aC (aO aC (pv 0) ak (λ_ _=>rfl)) ak (λ_ _=>rfl)))
  (@az _ _ _ _ _ (aV (i:=3) d7.nd rfl (Or.inl rfl) (eU ah))
  (@az _ _ _ _ _ (iH PassesOwn.never rfl (eT (aN xu hr rfl aM (af (pv 0) (af (pv 1) ah)))) (kr rfl (aG (aI (i:=4) d7.nd rfl (Or.inl rfl)) (aG (aI (i:=5) d7.nd rfl (Or.inl rfl)) (aG (aI (i:=6) d7.nd rfl (Or.inl rfl)) (aG (aI (i:=7) d7.nd rfl (Or.inl rfl)) dW))))) (nA (@az _ _ _ _ _ (aV (i:=8) d7.nd rfl (Or.inl rfl) (aN qz hr rfl aM (af (pv 7) ah)))
  (@aP _ _ _ (eF (cQ AY (av aF (pv 8) (pv 8)) (pv 7) (cP _)) (@az _ _ _ _ _ (aV (i:=9) d7.nd rfl (Or.inl rfl) (IW (cQ uA (pv 8) ak (cP _)) (eU (af (pv 8) (af (AX v7 (pv 8)) ah))) (eU (af ak ah))))
  (@aP _ _ _ (iH PassesOwn.never rfl (eT (pv 9)) (aI (i:=10) d7.nd rfl (Or.inl rfl)) (dQ (eF (cQ AY (av iY (av d9 (pv 10) (pv 6)) (pv 2)) ak (cP _)) (@aP _ _ _ (oZ (Oz acy adi adj mF (pv 3) (af (eU (af (av fP (av d9 (pv 10) (pv 6)) (pv 2)) (af (pv 4) (af (pv 5) ah)))) ah)))) eE))))) eE)))))
  (@aP _ _ _ (aU (cR (uN (gk.FZ hr)) rfl fL aco (af (pv 3) ah)))))))),?_⟩
 obtain⟨c0,c1,c2,rfl,x0,x1,x2⟩:=w5 hT cg;obtain⟨fl,D0,a2,gE,fX,fM,f8,fa⟩:=fC NT dD;refine⟨_,rfl,t,_,_,_,rfl,rfl,aZ.of hT.1,rfl,c0,_,_,_,rfl,rfl,aZ.of x0,rfl,?_⟩;refine⟨by decide,λD hD=> ?_⟩;have s0:ay H (upd H D (.lst [])):=ay.up hD;refine⟨_,rfl,_,rfl,t,_,N,n,rfl,hT.same s0,cg,ev,bN,NT,dD,n0,n6,λu us L H1 s1 eu tu nd oq WC=> ?_⟩;have eD:H1 D=some (.lst []):=s1 _ _ ao;have l0:0<us.length:=by
  have h:((0:Int),(0:Int))∈L:=(oq 0 0).mpr (by unfold l7;have:=Rg n0 (show 0<=ent N 0 0 by omega);simp;rw[abQ];omega);rw[tu.length];exact ady h
 have uD:u≠D:=λz=>by
  rw[z,eD]at eu;cases eu;exact aa4 _ l0
 refine⟨u,rfl,⟨us,aZ.of eu⟩,?_⟩;refine mD (xs:=us) (λi σ H'=> ∃o4 o5 o6 o7 o8 o9 zu as,σ=[some (.ref t),some (.int n),some (.int (ent N 0 0)),some (.ref D),o4,o5,o6,o7,o8,o9,zu]/\SD D H1 H'/\H' D=some (.lst (as.map V.ref))/\gH H' as/\(∀b∈as,H b=none)/\rws H' as=(L.take i).flatMap (gh N n)) ⟨_,_,_,_,_,_,_,[],rfl,SD.refl,eD,λ_ h=>(nomatch h),λ_ h=>(nomatch h),rfl⟩ (λi σ H' hi hh=> ?_) (λi x σ H' hx hh=> ?_) (λσ H' hh=> ?_)
 ·obtain⟨o4,o5,o6,o7,o8,o9,zu,as,rfl,sD,xq,ok,fr,er⟩:=hh
  exact aZ.of (sD _ _ uD eu)
 ·obtain⟨o4,o5,o6,o7,o8,o9,zu,as,rfl,sD,xq,ok,fr,er⟩:=hh
  obtain⟨a,p,rfl,hp,ea⟩:=(tu.sd eD sD).get hx;have lp:0<=l7 N n p.1 p.2:=(oq _ _).mp (aaA hp);obtain⟨yb,zb,lb⟩:=xr ev NT dD n0 n6 lp;refine⟨a,_,rfl,nZ.of ea,rfl,_,_,rfl,_,_,rfl,_,_,rfl,_,_,rfl,rfl,?_⟩;obtain⟨w0,w1,w2⟩:=tS lp;have wb:om (l7 N n p.1 p.2)<=1000000000:=by
   refine Classical.byContradiction λc=> ?_;have:1000000000*1000000000<=om (l7 N n p.1 p.2)*om (l7 N n p.1 p.2):=aaN (by omega) (by omega) (by decide) (by omega)
   (clear c w2 w0 zb yb ea hp hx er fr xq uD l0 eD WC oq eu hD fa f8 fM fX gE a2 D0 fl hu q n6 n0 dD fL;omega)
  refine⟨_,rfl,_,rfl,lp,aaL (show(l7 N n p.1 p.2).natAbs<=4840000 by(clear wb w2 w1 w0 zb yb ea hp hx er fr xq uD l0 eD WC oq eu hD fa f8 fM fX gE a2 D0 fl hu q n6 n0 dD fL;omega)) (by decide),λw h0 h1 h2=> ?_⟩;obtain rfl:=vN h0 h1 h2;generalize ew:om (l7 N n p.1 p.2)=w at w0 w1 w2 wb h0 h1 h2 ⊢;have wq:w.natAbs<2^4096:=Yb (show w.natAbs<=10^30 by(clear h2 h1 h0 w2 w1 ew lb zb yb lp ea hp hx er fr xq uD l0 eD WC oq eu hD fa f8 fM fX gE a2 D0 fl hu q n6 n0 dD fL;omega));refine⟨_,rfl,_,rfl,_,_,rfl,rfl,⟨wq,wq⟩,_,rfl,rfl,_,rfl,?_⟩;have tk:(L.take (i+1)).flatMap (gh N n)=(L.take i).flatMap (gh N n)++gh N n p:=by
   rw[abz,hp];simp
  refine oh (λc=> ?_) (λc=> ?_)
  ·have c':w*w=l7 N n p.1 p.2:=V.int.inj (of_decide_eq_true c)
   with_reducible apply La (λv H2=> ∃S,v= .ref S/\H' S=none/\H2=upd H' S (.lst ((eZ w).map V.int)))
   ·intro R hR
    refine⟨_,rfl,_,_,rfl,rfl,_,rfl,?_⟩;refine oh (λc=> ?_) (λc=> ?_)
    ·have c2:0<w:=of_decide_eq_true c
     refine⟨_,rfl,_,rfl,_,rfl,(by show 2<=sizeLine;decide),λS hS=>hR _ _ ⟨S,rfl,hS,?_⟩⟩;unfold eZ;rw[if_pos c2]
     rfl
    ·have c2:¬0<w:=λz=>c (decide_eq_true z)
     refine⟨by decide,λS hS=>hR _ _ ⟨S,rfl,hS,?_⟩⟩;unfold eZ;rw[if_neg c2]
     rfl
   ·rintro _ _ ⟨S,rfl,hS,rfl⟩
    have Yd:S≠D:=λz=>by rw[z,xq]at hS;cases hS
    have sS:ay H' (upd H' S (.lst ((eZ w).map V.int))):=ay.up hS;obtain⟨TU,Ye⟩:=ok.same sS;refine⟨_,rfl,S,rfl,⟨_,aZ.of ao⟩,?_⟩;refine mD (xs:=(eZ w).map V.int) (λj σ H2=> ∃zu as',σ=[some (.ref t),some (.int n),some (.int (ent N 0 0)),some (.ref D),some (.int p.1),some (.int p.2),some (.int (rY N p.1 p.2)),some (.int (l7 N n p.1 p.2)),some (.int w),some (.ref S),zu]/\SD D (upd H' S (.lst ((eZ w).map V.int))) H2/\H2 D=some (.lst (as'.map V.ref))/\gH H2 as'/\(∀b∈as',H b=none)/\rws H2 as'=(L.take i).flatMap (gh N n)++cG N p ((eZ w).take j)) ⟨_,as,rfl,SD.refl,sS _ _ xq,TU,fr,by rw[Ye,er];simp[cG]⟩ (λj σ H2 hj hh=> ?_) (λj x σ H2 hx hh=> ?_) (λσ H2 hh=> ?_)
    ·obtain⟨zu,as',rfl,QB,NV,TV,yD,QC⟩:=hh
     exact aZ.of (QB _ _ Yd ao)
    ·obtain⟨zu,as',rfl,QB,NV,TV,yD,QC⟩:=hh
     obtain⟨k,rfl,hk⟩:∃k,x= .int k/\(eZ w)[j]?=some k:=by
      rw[aby]at hx
      cases e:(eZ w)[j]? with
      |none=>rw[e]at hx;cases hx
      |some k=>rw[e]at hx;cases hx;exact⟨k,rfl,rfl⟩
     have WD:cG N p ((eZ w).take (j+1))=cG N p ((eZ w).take j)++cG N p [k]:=by
      rw[abz,hk];simp[cG]
     refine⟨_,rfl,_,rfl,_,_,rfl,rfl,_,rfl,_,_,rfl,rfl,(by show 0<ent N 0 0;omega),rfl,_,rfl,?_⟩;refine oh (λc3=> ?_) (λc3=> ?_)
     ·have c4:(k-rY N p.1 p.2)%ent N 0 0=0:=V.int.inj (of_decide_eq_true c3)
      refine⟨_,rfl,.inl ⟨rfl,_,aZ.of NV⟩,?_⟩;refine⟨_,rfl,_,rfl,_,_,rfl,rfl,_,rfl,_,_,rfl,rfl,⟨by omega,by omega⟩,_,rfl,_,rfl,(by show 3<=sizeLine;decide),λb hb=> ?_⟩;have ll:as'.length<sizeLine:=by
       have e:as'.length=(rws H2 as').length:=(aau _).symm;have h1:=rQ (N:=N) (n:=n) (L.take i);have h2:=rP (N:=N) (p:=p) ((eZ w).take j);have h3:=HY w;rw[e,QC,aaC];rw[aaX]at h1 h2;show _<16777216
       (clear e hb c4 c3 WD hx hk QC yD NV Ye Yd hS c' c tk wq h0 wb w2 w1 w0 ew lb zb yb lp ea hp er fr xq uD l0 eD oq eu hD fa f8 fM fX gE a2 D0 fl hu q n6 n0 dD fL;omega)
      have bD:b≠D:=λz=>by rw[z,NV]at hb;cases hb
      obtain⟨ZH,ZJ⟩:=gH.push (o:= .lst (as'.map V.ref++ [V.ref b])) (x:=(k-rY N p.1 p.2)/ent N 0 0) (y:=p.1) (z:=p.2) TV NV hb bD;refine⟨D,as'.map V.ref,.ref b,rfl,rfl,by rw[aH (λz=>bD z.symm)];exact NV,(by rw[aau];exact ll),?_⟩;refine⟨_,as'++ [b],rfl,(QB.trans (SD.of (ay.up hb))).upd,?_,ZH,λc hc=> ?_,?_⟩
      ·rw[List.map_append]
       exact ao
      ·rcases aaE.mp hc with h|h
       ·exact yD c h
       ·rw[aap.mp h]
        have ZK:ay H H2:=λa o e=>((sD.trans (SD.of sS)).trans QB) a o (λz=>by rw[z,hD]at e;cases e) (s1 _ _ (s0 _ _ e));exact ZK.none hb
      ·rw[ZJ,QC,WD,abo]
       simp[cG,c4]
     ·have c4:¬(k-rY N p.1 p.2)%ent N 0 0=0:=λz=>c3 (by rw[z];exact decide_eq_true rfl)
      refine⟨_,as',rfl,QB,NV,TV,yD,?_⟩;rw[WD,QC];simp[cG,c4]
    ·obtain⟨zu,as',rfl,QB,NV,TV,yD,QC⟩:=hh
     refine⟨_,_,_,_,_,_,_,as',rfl,(sD.trans (SD.of sS)).trans QB,NV,TV,yD,?_⟩;rw[QC,tk,aau,abE]
     congr 1
     unfold gh;rw[ew,if_pos c']
  ·have c':¬w*w=l7 N n p.1 p.2:=λz=>c (by rw[z];exact decide_eq_true rfl)
   refine⟨_,_,_,_,_,_,_,as,rfl,sD,xq,ok,fr,?_⟩;rw[tk,er];have:gh N n p=[]:=by
    unfold gh;rw[ew,if_neg c']
   rw[this,aba]
 ·obtain⟨o4,o5,o6,o7,o8,o9,zu,as,rfl,sD,xq,ok,fr,er⟩:=hh
  have el:L.take us.length=L:=by rw[tu.length,abE]
  rw[el]at er;have R0:=yk ev NT.pos nd oq;rw[<-er]at R0;have sm:=R0.small NT dD n0 n6;have al:as.length<=24200:=by
   have e:as.length=(rws H' as).length:=(aau _).symm;have h1:=rQ (N:=N) (n:=n) L;rw[e,er]
   (clear e sm el er fr xq uD l0 eD oq eu hD fa f8 fM fX gE a2 D0 fl hu q n6 n0 dD fL;omega)
  refine⟨_,rfl,Cf (aZ.of xq) ok (λb hb i hi=>aao ((sm _ (nQ hb)).2 i hi) (by decide)) λbs pb so l hl=> ?_⟩;have ZL:gH H' bs:=λb hb=>ok b (pb.mem_iff.mp hb);obtain⟨ZM,Yg⟩:=ZL.same (ay.up (o:= .lst (bs.map V.ref)) hl);refine q l bs _ ((λa o e=>(sD.trans (SD.of (ay.up hl))) a o (λz=>by rw[z,hD]at e;cases e) (s1 _ _ (s0 _ _ e)))) ((show ay H H' from λa o e=>sD a o (λz=>by rw[z,hD]at e;cases e) (s1 _ _ (s0 _ _ e))).none hl) (λb hb=>fr b (pb.mem_iff.mp hb)) ao ZM ?_ (by rw[Yg];exact so) (by rw[pb.length_eq];exact al);rw[Yg];exact R0.perm (Lb pb)
end
end CV
namespace L2
open PySem PySem.Spec PyProof.Rows
structure nS(H1:Hp)(D:Addr)(R:V->V->V->Hp->Prop)(xs ys:List V)(t:Nat)(vs:List V)(H':Hp):Prop where
 same:ay H1 H'
 at':H' D=some (.lst vs)
 len:vs.length=t
 items:∀s v,vs[s]?=some v-> ∃x y,xs[s/ys.length]?=some x/\ys[s%ys.length]?=some y/\R x y v H'
theorem Ia{K:PySem.W.Frag}{p q:Addr}{xs ys:List V}{H1:Hp}{D:Addr}{te:TE}{σ:St}{JG:TI}{Q:VK}(hp:aZ K H1 p xs)(hq:aZ K H1 q ys)(hD:H1 D=none)(hz:xs.length*ys.length<sizeLine)(R:V->V->V->Hp->Prop)
  (mono:∀x y v H H',R x y v H->(∀b o,b≠D->H b=some o->H' b=some o) ->R x y v H')
  (hw:∀(x:V)(o:Option V) H' (R':It->Hp->Prop),x∈xs->ay H1 H'->R' (Mu K q) H'->JG (some x::o::σ) H' R')
  (hs:∀x y,x∈xs->y∈ys-> ∀H' (Q':VK),ay H1 H'->(∃o,H' D=some o) ->(∀v H2,ay H' H2->R x y v H2->Q' v H2) ->te (some x::some y::σ) H' Q')
  (hq':∀vs H',nS H1 D R xs ys (xs.length*ys.length) vs H'->Q (.ref D) H'):
  zV 2 (dP 0) Kh (λD=>zU JG (dP 1) Kh (Kl te D)) σ (Mu K p) H1 D Q:=by
 refine⟨λi m σ' H'=>m=xs.length-i/\i<=xs.length/\(∃o o',σ'=o::o'::σ)/\ ∃vs,nS H1 D R xs ys (i*ys.length) vs H',⟨xs.length,by simp,aa3 _,⟨none,none,rfl⟩,[],⟨ay.up hD,ao,by simp,λs v h=>by simp at h⟩⟩,?_⟩;rintro i m σ' H' ⟨rfl,hi,⟨o,o',rfl⟩,vs,G⟩;have lD:=G.same.seq hp
 by_cases hlt:i<xs.length
 ·refine .inr ⟨⟨xs,xs[i],lD,by simp[hlt]⟩,λx H2 yl=> ?_⟩
  obtain⟨e,ex⟩:=yl;subst e;have ex:=ex xs lD;have mx:x∈xs:=aaA ex;show JG (some x::o'::σ) H2 _;refine hw x o' H2 _ mx G.same ?_;refine⟨λj m' σ' H'=>m'=ys.length-j/\j<=ys.length/\(∃o',σ'=some x::o'::σ)/\ ∃vs,nS H1 D R xs ys (i*ys.length+j) vs H',⟨ys.length,by simp,aa3 _,⟨o',rfl⟩,vs,G⟩,?_⟩;rintro j m' σ' H' ⟨rfl,hj,⟨o2,rfl⟩,ws,G2⟩;have hq2:=G2.same.seq hq
  by_cases UQ:j<ys.length
  ·refine .inr ⟨⟨ys,ys[j],hq2,by simp[UQ]⟩,λy H3 yl=> ?_⟩
   obtain⟨e,ey⟩:=yl;subst e;have ey:=ey ys hq2;have my:y∈ys:=aaA ey;show te (some x::some y::σ) H3 _;refine hs x y mx my H3 _ G2.same ⟨_,G2.at'⟩ λv H4 s4 r=> ?_;have FI:i*ys.length+j<xs.length*ys.length:=by
    have:(i+1)*ys.length<=xs.length*ys.length:=adK _ hlt;rw[ac5]at this;omega
   have e1:(i*ys.length+j)/ys.length=i:=by rw[ac4,adH _ _ (by omega),Nat.div_eq_of_lt UQ,abe]
   have e2:(i*ys.length+j)%ys.length=j:=by rw[ac4,acY,Nat.mod_eq_of_lt UQ]
   have off:∀b o,b≠D->H3 b=some o->upd H4 D (.lst (ws++ [v])) b=some o:=λb o n h=>by rw[aH n];exact s4 _ _ h
   have WE:∀b o,b≠D->H4 b=some o->upd H4 D (.lst (ws++ [v])) b=some o:=λb o n h=>by rw[aH n];exact h
   refine⟨ws,s4 _ _ G2.at',by rw[G2.len];omega,ys.length- (j+1),by omega,rfl,UQ,⟨_,rfl⟩,ws++ [v],⟨(G2.same.trans s4).upd hD,ao,by rw[aaC,G2.len];rfl,λs u hu=> ?_⟩⟩
   by_cases c:s<ws.length
   ·rw[aaR c]at hu
    obtain⟨x',y',k1,k2,k3⟩:=G2.items s u hu;exact⟨x',y',k1,k2,mono _ _ _ _ _ k3 off⟩
   ·have es:s=ws.length:=by
     have:=(aat.mp hu).1;rw[aaC]at this;simp at this;omega
    subst es;rw[aaO (aav _)]at hu;simp at hu;subst hu;rw[G2.len,e1,e2];exact⟨x,y,ex,ey,mono _ _ _ _ _ r WE⟩
  ·have ej:j=ys.length:=by omega
   subst ej;refine .inl ⟨⟨ys,hq2,aav _⟩,xs.length- (i+1),by omega,rfl,hlt,⟨_,_,rfl⟩,ws,?_⟩;rw[ac5];exact G2
 ·have e:i=xs.length:=by omega
  subst e;exact .inl ⟨⟨xs,lD,aav _⟩,hq' vs H' G⟩
theorem nS.all{H1:Hp}{D:Addr}{R:V->V->V->Hp->Prop}{xs ys vs:List V}{H':Hp}(G:nS H1 D R xs ys (xs.length*ys.length) vs H'){x y:V}(hx:x∈xs)(hy:y∈ys):∃v∈vs,R x y v H':=by
 obtain⟨i,hi,rfl⟩:=abG.mp hx;obtain⟨j,hj,rfl⟩:=abG.mp hy;have FI:i*ys.length+j<vs.length:=by
  have:(i+1)*ys.length<=xs.length*ys.length:=adK _ hi;rw[ac5]at this;rw[G.len];omega
 have e1:(i*ys.length+j)/ys.length=i:=by rw[ac4,adH _ _ (by omega),Nat.div_eq_of_lt hj,abe]
 have e2:(i*ys.length+j)%ys.length=j:=by rw[ac4,acY,Nat.mod_eq_of_lt hj]
 obtain⟨x,y,k1,k2,k3⟩:=G.items (i*ys.length+j) vs[i*ys.length+j] (aaq FI);rw[e1,aaq hi]at k1;rw[e2,aaq hj]at k2;cases k1;cases k2;exact⟨_,ado FI,k3⟩
theorem nS.mem{H1:Hp}{D:Addr}{R:V->V->V->Hp->Prop}{xs ys vs:List V}{t:Nat}{H':Hp}(G:nS H1 D R xs ys t vs H'){v:V}(hv:v∈vs):∃x∈xs,∃y∈ys,R x y v H':=by
 obtain⟨i,hi,rfl⟩:=abG.mp hv;obtain⟨x,y,k1,k2,k3⟩:=G.items i vs[i] (aaq hi);exact⟨x,aaA k1,y,aaA k2,k3⟩
end L2
namespace L2
open PySem PySem.Spec PyProof.Rows PySem.SeqAt
noncomputable def Ar:List Int->List Int->Bool
 |x::xs,y::ys=>if x=y then Ar xs ys else decide (x<y)
 |_,_=>false
noncomputable def gY(B:Int):List Int->Int
 | []=>0
 |x::xs=>x*B^xs.length+gY B xs
inductive uX(B:Int):List Int->List Int->Prop
 |nil:uX B [] []
 |cons{x y:Int}{xs ys:List Int}:x-y<=B-1/\y-x<=B-1->uX B xs ys->uX B (x::xs) (y::ys)
theorem uX.len{B:Int}{xs ys:List Int}(h:uX B xs ys):xs.length=ys.length:=by
 induction h with
 |nil=>rfl
 |cons _ _ ih=>simp[ih]
theorem Cj{B:Int}(hB:0<B){xs ys:List Int}(h:uX B xs ys):gY B xs-gY B ys<=B^xs.length-1/\gY B ys-gY B xs<=B^xs.length-1:=by
 induction h with
 |nil=>simp[gY]
 | @cons x y xs ys d t ih=>
  have e:=t.len;have p:0<B^xs.length:=adW hB;have e1:B^(x::xs).length=B*B^xs.length:=by rw[aa7,Int.pow_succ,abb]
  have d1:(x-y)*B^xs.length<=(B-1)*B^xs.length:=aan d.1 (aas p);have d2:(y-x)*B^xs.length<=(B-1)*B^xs.length:=aan d.2 (aas p);have e2:(B-1)*B^xs.length=B*B^xs.length-B^xs.length:=by rw[acV,abU]
  have e3:(x-y)*B^xs.length=x*B^xs.length-y*B^xs.length:=acV ..;have e4:(y-x)*B^xs.length=y*B^xs.length-x*B^xs.length:=acV ..;rw[e1];show(x*B^xs.length+gY B xs) - (y*B^ys.length+gY B ys)<=_/\(y*B^ys.length+gY B ys) - (x*B^xs.length+gY B xs)<=_;rw[<-e]
  (clear e1 p e d hB;omega)
theorem Ck{B:Int}(hB:0<B){xs ys:List Int}(h:uX B xs ys):Ar xs ys=decide (gY B xs<gY B ys):=by
 induction h with
 |nil=>simp[Ar,gY]
 | @cons x y xs ys d t ih=>
  have e:=t.len;have b:=Cj hB t;have p:0<B^xs.length:=adW hB;show(if x=y then Ar xs ys else decide (x<y))=decide (x*B^xs.length+gY B xs<y*B^ys.length+gY B ys);rw[<-e]
  by_cases c:x=y
  ·rw[if_pos c,ih,c]
   exact decide_eq_decide.mpr (by(clear c p b e ih d hB;omega))
  ·rw[if_neg c]
   refine decide_eq_decide.mpr ?_;have e3:(x-y)*B^xs.length=x*B^xs.length-y*B^xs.length:=acV ..;have e4:(y-x)*B^xs.length=y*B^xs.length-x*B^xs.length:=acV ..;rcases ac6 c with l|l
   ·have:=aan (show(1:Int)<=y-x by omega) (aas p)
    (clear e3 c p e ih d hB;omega)
   ·have:=aan (show(1:Int)<=x-y by omega) (aas p)
    (clear c p e ih d hB;omega)
noncomputable def NW(H:Hp)(u:Addr):List Int:=match H u with
 |some (.tup [.int m,.ref a,.ref b])=>[m,aL (dR H a) 0,aL (dR H a) 1,aL (dR H a) 2,aL (dR H b) 0,aL (dR H b) 1,aL (dR H b) 2]
 |_=>[]
noncomputable def Ua(H:Hp)(u:Addr):Prop:=∃m a b,H u=some (.tup [.int m,.ref a,.ref b])/\z8 H a/\z8 H b/\m.natAbs<2^1000/\l8 (dR H a)/\l8 (dR H b)
theorem WG{m m':Int}{a b a' b':List Int}(ha:a.length=3)(hb:b.length=3)(ha':a'.length=3)(hb':b'.length=3):
  qf [.int m,g6 a,g6 b] [.int m',g6 a',g6 b']=Ar [m,aL a 0,aL a 1,aL a 2,aL b 0,aL b 1,aL b 2] [m',aL a' 0,aL a' 1,aL a' 2,aL b' 0,aL b' 1,aL b' 2]:=by
 match a,ha,b,hb,a',ha',b',hb' with
 | [x,y,z],_,[p,q,r],_,[x',y',z'],_,[p',q',r'],_=>
  have e1:∀a b:Int,PyData.eqv (.int a) (.int b)=decide (a=b):=λa b=>rfl;have ZN:∀r:List Int,g6 r= .list (r.map PyData.int):=λ_=>rfl;show qf [.int m,g6 [x,y,z],g6 [p,q,r]] [.int m',g6 [x',y',z'],g6 [p',q',r']]=Ar [m,x,y,z,p,q,r] [m',x',y',z',p',q',r'];unfold qf;rw[e1];unfold qf;rw[vH];unfold qf;rw[vH];simp only[ZN,abp,ad5,Ku,qf,e1,Ar,List.cons.injEq,and_true]
  by_cases h0:m=m'<;>by_cases h1:x=x'<;>by_cases h2:y=y'<;>by_cases h3:z=z'<;>by_cases h4:p=p'<;>by_cases h5:q=q'<;>by_cases h6:r=r'<;>simp[h0,h1,h2,h3,h4,h5,h6]
theorem OP{m m':Int}{a b a' b':List Int}(hm:m.natAbs<2^1000)(hm':m'.natAbs<2^1000)(ha:l8 a)(hb:l8 b)(ha':l8 a')(hb':l8 b'):
  uX iC [m,aL a 0,aL a 1,aL a 2,aL b 0,aL b 1,aL b 2] [m',aL a' 0,aL a' 1,aL a' 2,aL b' 0,aL b' 1,aL b' 2]:=by
 refine .cons (fj hm hm') (.cons (fj (ha 0 (by decide)) (ha' 0 (by decide))) (.cons (fj (ha 1 (by decide)) (ha' 1 (by decide))) (.cons (fj (ha 2 (by decide)) (ha' 2 (by decide))) (.cons (fj (hb 0 (by decide)) (hb' 0 (by decide))) (.cons (fj (hb 1 (by decide)) (hb' 1 (by decide))) (.cons (fj (hb 2 (by decide)) (hb' 2 (by decide))) .nil))))))
theorem As{H:Hp}{u a b:Addr}{m:Int}(e:H u=some (.tup [.int m,.ref a,.ref b])):NW H u=[m,aL (dR H a) 0,aL (dR H a) 1,aL (dR H a) 2,aL (dR H b) 0,aL (dR H b) 1,aL (dR H b) 2]:=by
 unfold NW;rw[e]
noncomputable def WH(H:Hp)(u:Addr):PyData:=match H u with
 |some (.tup [.int m,.ref a,.ref b])=> .tuple [.int m,g6 (dR H a),g6 (dR H b)]
 |_=> .none
theorem Em{H:Hp}{u a b:Addr}{m:Int}(e:H u=some (.tup [.int m,.ref a,.ref b])):WH H u= .tuple [.int m,g6 (dR H a),g6 (dR H b)]:=by
 unfold WH;rw[e]
theorem Cm{K:PySem.W.Frag}{H:Hp}{a:Addr}(h:z8 H a):yK K H (.ref a) (g6 (dR H a)):=by
 have e:=zc h.2;have k:yK K H (.ref a) (g6 [aL (dR H a) 0,aL (dR H a) 1,aL (dR H a) 2]):=Dz (xs:=[aL (dR H a) 0,aL (dR H a) 1,aL (dR H a) 2]) (aZ.of h.1);rw[<-e]at k;exact k
theorem NX(m:Int)(a b:List Int):shaped (.tuple [.int m,g6 a,g6 b])=true:=by
 have h2:∀r:List Int,PyData.depthAll (r.map PyData.int)<=0:=λr=>by
  induction r with
  |nil=>exact aav _
  |cons a r ih=>simp only[abp,PyData.depthAll,PyData.depth];omega
 have ha:=h2 a;have hb:=h2 b;simp only[SeqAt.shaped,PyData.canLay0,PyData.canLayAll0,PyData.depth,PyData.depthAll,lG,adD,adl,decide_eq_true_eq];exact decide_eq_true (show _<=64 by omega)
theorem En{K:PySem.W.Frag}{H:Hp}{p:Addr}{us:List Addr}{Q:VK}(hp:aZ K H p (us.map V.ref))(ok:∀u∈us,Ua H u)
  (q:∀vs:List Addr,vs.Perm us->vs.Pairwise (λu v=>gY iC (NW H u)<=gY iC (NW H v)) -> ∀l,H l=none->Q (.ref l) (upd H l (.lst (vs.map V.ref)))):z5 K [.ref p] H Q:=by
 refine⟨p,us,λu=>gY iC (NW H u),WH H,rfl,hp,λu hu=> ?_,.inr λu hu v hv=> ?_,λbs pb so l hl=>q bs pb so l hl⟩
 ·obtain⟨m,a,b,e,ra,rb,hm,sa,sb⟩:=ok u hu
  rw[Em e];exact⟨.tup (nZ.of e) (.cons (.int m) (.cons (Cm ra) (.cons (Cm rb) .nil))),NX _ _ _⟩
 ·obtain⟨m,a,b,e,ra,rb,hm,sa,sb⟩:=ok u hu
  obtain⟨m',a',b',e',ra',rb',hm',sa',sb'⟩:=ok v hv;have cr:∀{x y:List Int},x.length=3->y.length=3->BI (g6 x) (g6 y):=λ {x y} hx hy=>by
   rw[zc hx,zc hy];exact .lst (.cons (.int _ _) (.cons (.int _ _) (.cons (.int _ _) .nil)))
  refine⟨m,_,m',_,Em e,Em e',.cons (.int _ _) (.cons (cr ra.2 ra'.2) (.cons (cr rb.2 rb'.2) .nil)),?_⟩;show _=decide (gY iC (NW H u)<gY iC (NW H v));rw[As e,As e',WG ra.2 rb.2 ra'.2 rb'.2,Ck kX (OP hm hm' sa sb sa' sb')]
end L2
namespace L2
open PySem
noncomputable section
theorem Cn{B:Nat}{D p q x:Int}(D0:0<D)(h:D*(x*x)<=q)(hq:3*q<=16*D*p)(hp:16*p<3*(((B:Int)+1)*((B:Int)+1))): -(B:Int)<=x/\x<=B:=by
 have key:x.natAbs<=B:=by
  refine Classical.byContradiction λc=> ?_;have h1:(B+1)*(B+1)<=x.natAbs*x.natAbs:=acg (by(clear hp hq h D0;omega)) (by(clear hp hq h D0;omega));have e:=acm (a:=x);have h2:((B:Int)+1)*((B:Int)+1)<=x*x:=by
   rw[<-e]
   exact_mod_cast h1
  have h3:D*(((B:Int)+1)*((B:Int)+1))<=D*(x*x):=aal h2 (aas D0);have h4:D*(16*p)<D*(3*(((B:Int)+1)*((B:Int)+1))):=acX hp D0;have e1:D*(16*p)=16*D*p:=by grind
  have e2:D*(3*(((B:Int)+1)*((B:Int)+1)))=3*(D*(((B:Int)+1)*((B:Int)+1))):=by grind
  (clear h2 e h1 c hp D0;omega)
 (clear hp hq h D0;omega)
theorem xw{N:List (List Int)}(h:gJ N)(dD:aA N<=401){n:Int}(n0:0<=n)(hn:2*n<=ent N 1 1){L:List (List Int)}(R:fF N n L):L.length<=50:=by
 obtain⟨fl,D0,a2,gE,fX,fM,f8,fa⟩:=fC h dD;have l1:=h.CN;have l2:=h.Gf;have few:=h.few;obtain⟨Gr,Gs,Ib⟩:=h.ev.sym;have m1:iW N 1 1<=ent N 0 0*ent N 2 2:=by
  show ent N 2 2*ent N 0 0-ent N 2 0*ent N 0 2<=_;rw[Gs,abb (ent N 2 2)];have:=bI (ent N 0 2);(clear Ib Gs Gr few l2 l1 fa f8 fM fX gE a2 D0 fl hn n0 dD;omega)
 have m2:iW N 2 2<=ent N 0 0*ent N 1 1:=by
  show ent N 0 0*ent N 1 1-ent N 0 1*ent N 1 0<=_;rw[Gr];have:=bI (ent N 0 1);(clear m1 Ib Gs Gr few l2 l1 fa f8 fM fX gE a2 D0 fl hn n0 dD;omega)
 have b1:∀v:Nat->Int,cN N v=n-> -2<=v 1/\v 1<=2:=λv e=>by
  have w:=zq h.ev h.uO h.ab e (i:=1) (by decide);refine Cn (B:=2) (p:=1) D0 w ?_ (by decide);have k1:2*n*iW N 1 1<=2*n*(ent N 0 0*ent N 2 2):=aal m1 (by omega);have k2:2*n*(ent N 0 0*ent N 2 2)<=ent N 1 1*(ent N 0 0*ent N 2 2):=aan hn (Rg (by omega) (by(clear k1 w m2 m1 Ib Gs Gr few l1 fa f8 fM fX gE a2 D0 fl dD;omega)));have k3:ent N 1 1*(ent N 0 0*ent N 2 2)=ent N 0 0*ent N 1 1*ent N 2 2:=by grind
  (clear w e m2 m1 Ib Gs Gr l2 l1 fa f8 fM fX gE a2 D0 fl hn n0 dD;omega)
 have b2:∀v:Nat->Int,cN N v=n-> -2<=v 2/\v 2<=2:=λv e=>by
  have w:=zq h.ev h.uO h.ab e (i:=2) (by decide);refine Cn (B:=2) (p:=1) D0 w ?_ (by decide);have k1:2*n*iW N 2 2<=2*n*(ent N 0 0*ent N 1 1):=aal m2 (by omega);have k2:2*n*(ent N 0 0*ent N 1 1)<=ent N 2 2*(ent N 0 0*ent N 1 1):=aan (by(clear k1 w b1 m2 m1 Ib Gs Gr few l1 fa f8 fM fX gE a2 D0 fl n0 dD;omega)) (Rg (by omega) (by(clear k1 w b1 m2 m1 Ib Gs Gr few l2 l1 fa f8 fM fX gE a2 D0 fl dD;omega)));have k3:ent N 2 2*(ent N 0 0*ent N 1 1)=ent N 0 0*ent N 1 1*ent N 2 2:=by grind
  (clear w e b1 m2 m1 Ib Gs Gr l2 l1 fa f8 fM fX gE a2 D0 fl hn n0 dD;omega)
 have:=Lc h.ev h.pos (show(0:Int)<=2 by decide) (show(0:Int)<=2 by decide) b1 b2 R;exact aa8 this (by decide)
theorem uY:∀{vs:List V},(∀v∈vs,∃u,v=V.ref u) -> ∃us:List Addr,vs=us.map V.ref
 | [],_=>⟨[],rfl⟩
 |v::vs,h=>by
  obtain⟨u,rfl⟩:=h v aaD;obtain⟨us,rfl⟩:=uY (vs:=vs) λw hw=>h w (aay _ hw);exact⟨u::us,rfl⟩
theorem Ic{xs:List V}{k:Nat}(h:k<=xs.length):CZ xs none (some (k:Int))=xs.take k:=by
 have e1:HT.Ba xs.length 0 none=0:=rfl;have e2:HT.Ba xs.length xs.length (some (k:Int))=k:=by
  show(if(k:Int)<0 then((k:Int)+(xs.length:Int)).toNat else min (k:Int).toNat xs.length)=k;rw[if_neg (by omega),Int.toNat_natCast];omega
 unfold CZ;rw[e1,e2,ac8,Nat.sub_zero]
theorem tN{σ:St}{H:Hp}{Q:List V->Hp->Prop}(h:Q [] H):jB σ H Q:=h
end
end L2
namespace L2
open PySem PySem.Spec PyProof.Rows
theorem Le{A B P s r:Int}(A0:0<A)(D0:0<=A*B-P*P):0<=A*(s*s)+2*(P*(s*r))+B*(r*r):=by
 refine Classical.byContradiction λc=> ?_;have k:A*(A*(s*s)+2*(P*(s*r))+B*(r*r))<0:=ach A0 (by(clear D0 A0;omega));have e:A*(A*(s*s)+2*(P*(s*r))+B*(r*r))=(A*s+P*r)*(A*s+P*r)+(A*B-P*P)*(r*r):=by grind
 have k1:=bI (A*s+P*r);have k2:=Rg D0 (bI r)
 (clear c D0 A0;omega)
theorem gJ.Aa{N:List (List Int)}(h:gJ N):0<ent N 0 0*ent N 1 1-ent N 0 1*ent N 0 1:=by
 have a0:=h.pos;have le:=h.CN;have s:=mT h.p.1 h.p.2;have e:2*ent N 0 1*(2*ent N 0 1)=4*(ent N 0 1*ent N 0 1):=by grind
 have k1:=aal le (aas a0);have k2:=abT a0 a0
 (clear le a0;omega)
theorem Ie{N:List (List Int)}(h:gJ N)(v:Nat->Int):aA N*(v 2*v 2)<=(ent N 0 0*ent N 1 1-ent N 0 1*ent N 0 1)*aQ N v:=by
 have g:=sO h.ev (yV 0 1) (yV 1 1) v;have A:=h.Aa;have z9:au N (yV 0 1) (yV 1 1)=ent N 0 1:=by rw[aT];unfold yV;simp
 have dd:bW (yV 0 1) (yV 1 1) v=v 2:=by unfold bW yV;simp
 have ea:aq N (yV 0 1) (yV 1 1)=ent N 0 0*ent N 1 1-ent N 0 1*ent N 0 1:=by
  unfold aq;rw[wQ N (by decide),wQ N (by decide),z9]
 rw[ea,dd,z9,wQ N (by decide),wQ N (by decide)]at g;have q:=Le (s:=bL N (yV 0 1) (yV 1 1) v) (r:=bO N (yV 0 1) (yV 1 1) v) h.pos (aas A);refine aaW (a:=ent N 0 0*ent N 1 1-ent N 0 1*ent N 0 1) ?_ A;rw[g];omega
theorem Gu(m:List (List Int))(v:Nat->Int):aQ m (λi=> -v i)=aQ m v:=by
 show au m _ _=au m _ _;rw[aT,aT]
 grind
theorem NY{z:Int}(h:2<=z∨z<= -2):4<=z*z:=by
 rcases h with h|h
 ·exact aaN h h (by decide) (by omega)
 ·have:2*2<=(-z)*(-z):=aaN (by omega) (by omega) (by decide) (by omega)
  have e: -z* -z=z*z:=by grind
  omega
theorem tT{z:Int}(h:z≠0):1<=z*z:=by
 rcases ac6 h with h|h
 ·have:1*1<=(-z)*(-z):=aaN (by omega) (by omega) (by decide) (by omega)
  have e: -z* -z=z*z:=by grind
  omega
 ·exact aaN (by omega:(1:Int)<=z) (by omega:(1:Int)<=z) (by decide) (by omega)
theorem pK{N:List (List Int)}(h:gJ N){v:Nat->Int}(hv:v 2≠0):ent N 2 2<=aQ N v:=by
 by_cases c1:v 2=1
 ·exact h.Ri v c1
 by_cases c2:v 2= -1
 ·rw[<-Gu N v]
  exact h.Ri _ (show-v 2=1 by omega)
 have A:=h.Aa;have hi:=Ie h v;have k4:=NY (z:=v 2) (by(clear hi A;omega));have hg:=h.hgt;have l1:=h.CN;have l2:=h.Gf;have D0:=(gU h.ab).2.2;have k5:=aal k4 (aas D0);refine aaW (a:=ent N 0 0*ent N 1 1-ent N 0 1*ent N 0 1) ?_ A;have k6:=aal l2 (aas A)
 (clear D0 l2 l1 k4 A c2 c1 hv;omega)
theorem tU{N:List (List Int)}(h:gJ N){v:Nat->Int}(hv:v 1≠0∨v 2≠0):ent N 1 1<=aQ N v:=by
 by_cases c2:v 2=0
 ·have c1:v 1≠0:=hv.resolve_right (λz=>z c2)
  have a0:=h.pos;have l1:=h.CN;obtain⟨p1,p2⟩:=h.p;have e:aQ N v=ent N 0 0*(v 0*v 0)+2*(ent N 0 1*(v 0*v 1))+ent N 1 1*(v 1*v 1):=by
   show au N v v=_;rw[aT,c2,(h.ev.sym).1]
   grind
  rw[e];generalize ent N 0 0=a,ent N 1 1=b,ent N 0 1=p,v 0=x,v 1=y at *;have y1:=tT c1;have key:∀X Y:Int,0<=X->0<Y->a*(X*X) -a*(X*Y)+b*(Y*Y)≥b:=λX Y hX hY=>by
   have Y1:1<=Y*Y:=tT (by omega);rcases abc Y X with w|w
   ·have k1:=Rg (aas a0) (Rg hX (show 0<=X-Y by(clear Y1 hY hX y1 e p2 p1 l1 a0 c1 hv c2;omega)))
    have k2:=aal Y1 (show 0<=b by omega);have e2:a*(X*(X-Y))=a*(X*X) -a*(X*Y):=by grind
    (clear w Y1 hY hX y1 e p2 p1 l1 a0 c1 hv c2;omega)
   ·have k1:=Rg (show 0<=b-a by omega) (Rg hX (show 0<=Y-X by(clear Y1 hY hX y1 e p2 p1 l1 a0 c1 hv c2;omega)))
    have k2:1<=Y*Y-X*Y+X*X:=by
     have k3:=Rg (show 0<=Y by omega) (show 0<=Y-X by omega);rcases Int.le_iff_lt_or_eq.mp hX with z|z
     ·have:=abT z z
      have e3:Y*(Y-X)=Y*Y-X*Y:=by grind
      (clear z k1 w Y1 hY hX y1 e p2 p1 l1 a0 c1 hv c2;omega)
     ·subst z
      simp;omega
    have k3:=aal k2 (show 0<=b by omega);have e2:(b-a)*(X*(Y-X))=b*(X*Y) -b*(X*X) -a*(X*Y)+a*(X*X):=by grind
    have e3:b*(Y*Y-X*Y+X*X)=b*(Y*Y) -b*(X*Y)+b*(X*X):=by grind
    (clear k2 w Y1 hY hX y1 e p2 p1 l1 a0 c1 hv c2;omega)
  have go:∀X Y:Int,0<=X->0<Y-> ∀q:Int,-a<=2*q->a*(X*X)+2*(q*(X*Y))+b*(Y*Y)≥b:=λX Y hX hY q hq=>by
   have k:=key X Y hX hY;have k1:=Rg (show 0<=2*q+a by(clear k hY hX key y1 e p2 p1 l1 a0 c1 hv c2;omega)) (Rg hX (aas hY));have e2:(2*q+a)*(X*Y)=2*(q*(X*Y))+a*(X*Y):=by grind
   (clear hq hY hX key y1 e p2 p1 l1 a0 c1 hv c2;omega)
  rcases abc 0 x with hx|hx<;>rcases ac6 c1 with hy|hy
  ·have:=go x (-y) hx (by(clear hx go key y1 e p2 p1 l1 a0 c1 hv c2;omega)) (-p) (by omega)
   have e2: -p*(x* -y)=p*(x*y):=by grind
   have e3: -y* -y=y*y:=by grind
   rw[e2,e3]at this;exact this
  ·exact go x y hx hy p p1
  ·have:=go (-x) (-y) (by omega) (by(clear hx go key y1 e p2 p1 l1 a0 c1 hv c2;omega)) p p1
   have e2: -x* -y=x*y:=by grind
   have e3: -y* -y=y*y:=by grind
   have e4: -x* -x=x*x:=by grind
   rw[e2,e3,e4]at this;exact this
  ·have:=go (-x) y (by omega) hy (-p) (by omega)
   have e2: -p*(-x*y)=p*(x*y):=by grind
   have e4: -x* -x=x*x:=by grind
   rw[e2,e4]at this;exact this
 ·exact aaB h.Gf (pK h c2)
theorem Ig{N:List (List Int)}(h:gJ N){v:Nat->Int}(hv:v 0≠0∨v 1≠0∨v 2≠0):ent N 0 0<=aQ N v:=by
 by_cases c:v 1≠0∨v 2≠0
 ·exact aaB h.CN (tU h c)
 ·have c1:v 1=0:=by omega
  have c2:v 2=0:=by omega
  have c0:v 0≠0:=by omega
  have e:aQ N v=ent N 0 0*(v 0*v 0):=by
   show au N v v=_;rw[aT,c1,c2]
   grind
  rw[e];have:=aal (tT c0) (aas h.pos);omega
end L2
namespace L2
open PySem
noncomputable section
noncomputable def Co(r:List Int):List Int:=r.map λx=> -x
theorem Lf{r:List Int}(h:r.length=3):qB (Co r)= -qB r:=by
 match r,h with
 | [x,y,z],_=>
  show-x*(iC*iC)+ -y*iC+ -z= -(x*(iC*iC)+y*iC+z);rw[adX,adX];omega
theorem NZ{m:List (List Int)}{n:Int}{L:List (List Int)}(h:fF m n L){r:List Int}(hr:r∈L):Co r∈L:=by
 obtain⟨v,rfl⟩:=h.2.1 r hr;have e:=(h.2.2 v).mp hr;have neg:cN m (λi=> -v i)=cN m v:=by
  unfold cN;rw[aT,aT]
  congr 1
  grind
 exact(h.2.2 λi=> -v i).mpr (neg.trans e)
theorem qD{m:List (List Int)}{n:Int}{L:List (List Int)}(h:fF m n L)(so:L.Pairwise λr s=>qB r<=qB s){r:List Int}(hr:r∈L)(neg:qB r<0):r∈L.take (L.length/2):=by
 obtain⟨i,hi,rfl⟩:=abG.mp hr;have l3:∀r∈L,r.length=3:=λr hr=>by obtain⟨v,rfl⟩:=h.2.1 r hr;rfl
 refine Classical.byContradiction λc=> ?_;have ci:L.length/2<=i:=by
  refine Nat.le_of_not_lt λz=>c ?_;have:L[i]=(L.take (L.length/2))[i]'(by rw[aaX];omega):=by simp
  rw[this];exact ado _
 have low:∀s∈L.take (i+1),qB s<0:=λs hs=>by
  obtain⟨j,hj,rfl⟩:=abG.mp hs;rw[aaX]at hj;rw[List.getElem_take];rcases acF j i with z|z
  ·have:=abj.mp so j i (by omega) hi z
   omega
  ·have:j=i:=by omega
   subst this;exact neg
 have sub:∀s∈L.take (i+1)++(L.take (i+1)).map Co,s∈L:=λs hs=>by
  rcases aaE.mp hs with z|z
  ·exact aaH z
  ·obtain⟨t,ht,rfl⟩:=aaU.mp z
   exact NZ h (aaH ht)
 have nd:(L.take (i+1)++(L.take (i+1)).map Co).Nodup:=by
  have n1:(L.take (i+1)).Nodup:=h.1.sublist (abd _ _);refine abn.mpr ⟨n1,nodup_map_on n1 λa ha b hb e=> ?_,λa ha b hb e=> ?_⟩
  ·have nn:∀r:List Int,Co (Co r)=r:=λr=>by simp[Co,Function.comp_def]
   have:=congrArg Co e
   rwa [nn,nn]at this
  ·obtain⟨t,ht,rfl⟩:=aaU.mp hb
   have k1:=low a ha;have k2:=low t ht;rw[e,Lf (l3 t (aaH ht))]at k1;omega
 have le:=length_le_of_subset nd sub;rw[aaC,aau,aaX]at le;omega
theorem Au{m:List (List Int)}(i:Nat)(hi:i<3):cN m (λj=>if j=i then 1 else 0)=ent m i i/2/\cN m (λj=>if j=i then-1 else 0)=ent m i i/2:=by
 unfold cN;rw[aT,aT];rcases aW hi with rfl|rfl|rfl<;>simp
theorem Lg{m:List (List Int)}{L0 L1 L2:List (List Int)}(h0:fF m (ent m 0 0/2) L0)(so:L0.Pairwise λr s=>qB r<=qB s)(h1:fF m (ent m 1 1/2) L1)(h2:fF m (ent m 2 2/2) L2): [-1,0,0]∈L0.take (L0.length/2)/\ [0,1,0]∈L1/\ [0,0,1]∈L2:=by
 refine⟨qD h0 so ((h0.2.2 λj=>if j=0 then-1 else 0).mpr (Au 0 (by decide)).2) ?_,(h1.2.2 λj=>if j=1 then 1 else 0).mpr (Au 1 (by decide)).1,(h2.2.2 λj=>if j=2 then 1 else 0).mpr (Au 2 (by decide)).1⟩;show(-1:Int)*(iC*iC)+0*iC+0<0;have:=abT kX kX;omega
theorem Oa{z:Int}(h:Rc (.int z) [V.int 1,.int (-1)]=true):z=1∨z= -1:=by
 simp[Rc,MF]at h;exact h.imp Eq.symm Eq.symm
end
end L2
namespace L2
open PySem PySem.Spec PyProof.Rows
noncomputable def uK(m x y m' x' y':Int):Prop:=m<m'∨(m=m'/\(x<x'∨(x=x'/\y<=y')))
noncomputable def Rm(A B:List (List Int)):Prop:=ent A 0 0<ent B 0 0∨(ent A 0 0=ent B 0 0/\(ent A 1 1<ent B 1 1∨(ent A 1 1=ent B 1 1/\(ent A 2 2<ent B 2 2∨(ent A 2 2=ent B 2 2/\uK (ent A 0 1) (ent A 0 2) (ent A 1 2) (ent B 0 1) (ent B 0 2) (ent B 1 2))))))
theorem Lh{A B:List (List Int)}(a:aY A)(b:aY B)(ea:br A)(eb:br B)(h:Rm A B)(k:Rm B A):A=B:=by
 unfold Rm uK at h k;obtain⟨Gr,Gs,Ib⟩:=ea.sym;obtain⟨t10,t20,t21⟩:=eb.sym;rw[kG a,kG b];refine fU λi j hi hj=> ?_;rcases aW hi with rfl|rfl|rfl<;>rcases aW hj with rfl|rfl|rfl<;>(clear hj hi;omega)
structure cL(m M:List (List Int)):Prop where
 GG:∃B,aY B/\cy (aA B)/\M=aX m B
 le:∀B,aY B->cy (aA B) ->Rm M (aX m B)
theorem tV(m b:List (List Int)):aY (aX m b):=(show aY (fY (fY b m) (dI b))from cJ _)
theorem mY{a b:List (List Int)}(ha:cy (aA a))(hb:cy (aA b)):cy (aA (fY a b)):=by
 rw[mL];rcases ha with a|a<;>rcases hb with b|b<;>rw[a,b]
 ·exact .inl rfl
 ·exact .inr rfl
 ·exact .inr rfl
 ·exact .inl rfl
theorem kY{b:List (List Int)}(hb:cy (aA b)):cy (aA (lI b)):=by
 have e:=congrArg aA (yS hb);rw[mL,show aA (kI 1)=1 from rfl]at e;rcases hb with h|h<;>rw[h]at e
 ·exact .inl (by omega)
 ·exact .inr (by omega)
theorem Eo(b:List (List Int)):aY (lI b):=cJ _
theorem mZ(a b:List (List Int)):aY (fY a b):=cJ _
theorem cL.from{m B M:List (List Int)}(c:aY m)(hB:cy (aA B))(h:cL (aX m B) M):cL m M:=by
 obtain⟨⟨C,cC,uC,e⟩,le⟩:=h;refine⟨⟨fY C B,mZ _ _,mY uC hB,by rw[e,kc]⟩,λD cD uD=> ?_⟩;have k:=le (fY D (lI B)) (mZ _ _) (mY uD (kY hB));rw[<-kc,rj c hB]at k;exact k
theorem cL.to{m B M:List (List Int)}(c:aY m)(hB:cy (aA B))(h:cL m M):cL (aX m B) M:=by
 refine cL.from (B:=lI B) (tV _ _) (kY hB) ?_;rw[rj c hB];exact h
theorem cL.uO{m M:List (List Int)}(h:cL m M):aY M:=by obtain⟨⟨B,_,_,e⟩,_⟩:=h;rw[e];exact tV _ _
theorem cL.MY{m M:List (List Int)}(ev:br m)(c:aY m)(h:cL m M):br M:=by obtain⟨⟨B,cB,_,e⟩,_⟩:=h;rw[e];exact r9 ev c cB
theorem cL.uniq{m M M':List (List Int)}(ev:br m)(c:aY m)(h:cL m M)(k:cL m M'):M=M':=by
 obtain⟨B,cB,uB,e⟩:=h.GG;obtain⟨B',ZO,WI,e'⟩:=k.GG;refine Lh h.uO k.uO (h.MY ev c) (k.MY ev c) ?_ ?_
 ·rw[e'];exact h.le B' ZO WI
 ·rw[e];exact k.le B cB uB
theorem cL.self{m M:List (List Int)}(c:aY m)(h:cL m M):cL M M:=by
 obtain⟨B,cB,uB,e⟩:=h.GG;have:=h.to c uB
 rwa [<-e]at this
structure Li(N S:List (List Int)):Prop where
 uO:aY S
 un:cy (aA S)
 dg:∀i,i<3->ent (aX N S) i i=ent N i i
 le:∀T,aY T->cy (aA T) ->(∀i,i<3->ent (aX N T) i i=ent N i i) ->uK (ent (aX N S) 0 1) (ent (aX N S) 0 2) (ent (aX N S) 1 2) (ent (aX N T) 0 1) (ent (aX N T) 0 2) (ent (aX N T) 1 2)
theorem Ih{N U:List (List Int)}(h:gJ N)(uU:cy (aA U)):
  (∀i,i<3->ent N 0 0<=ent (aX N U) i i)/\(ent N 1 1<=ent (aX N U) 0 0∨ent N 1 1<=ent (aX N U) 1 1)/\(ent N 1 1<=ent (aX N U) 0 0∨ent N 1 1<=ent (aX N U) 2 2)/\(ent N 1 1<=ent (aX N U) 1 1∨ent N 1 1<=ent (aX N U) 2 2)/\(ent N 2 2<=ent (aX N U) 0 0∨ent N 2 2<=ent (aX N U) 1 1∨ent N 2 2<=ent (aX N U) 2 2):=by
 have e:∀i,i<3->ent (aX N U) i i=aQ N (λk=>ent U i k):=λi hi=>jr N U hi hi;have d0:aA U≠0:=by rcases uU with z|z<;>rw[z]<;>decide
 rw[dJ]at d0;have pair:∀i j,i<3->j<3->i≠j-> ¬(ent U i 1=0/\ent U i 2=0/\ent U j 1=0/\ent U j 2=0):=λi j hi hj ne z=>by
  refine d0 ?_;obtain⟨z1,z2,z3,z4⟩:=z;rcases aW hi with rfl|rfl|rfl<;>rcases aW hj with rfl|rfl|rfl<;>first|exact absurd rfl ne|(rw[z1,z2,z3,z4];simp)
 have two:∀i j,i<3->j<3->i≠j->ent N 1 1<=ent (aX N U) i i∨ent N 1 1<=ent (aX N U) j j:=λi j hi hj ne=>by
  have:=pair i j hi hj ne;rw[e i hi,e j hj]
  by_cases c:ent U i 1≠0∨ent U i 2≠0
  ·exact .inl (tU h c)
  ·exact .inr (tU h (show ent U j 1≠0∨ent U j 2≠0 by(clear ne hj hi pair d0 e;omega)))
 refine⟨λi hi=> ?_,two 0 1 (by decide) (by decide) (by decide),two 0 2 (by decide) (by decide) (by decide),two 1 2 (by decide) (by decide) (by decide),?_⟩
 ·rw[e i hi]
  refine Ig h (Classical.byContradiction λc=>d0 ?_);have c0:ent U i 0=0:=by omega
  have c1:ent U i 1=0:=by omega
  have c2:ent U i 2=0:=by omega
  rcases aW hi with rfl|rfl|rfl<;>rw[c0,c1,c2]<;>simp
 ·rw[e 0 (by decide),e 1 (by decide),e 2 (by decide)]
  by_cases c0:ent U 0 2≠0
  ·exact .inl (pK h c0)
  by_cases c1:ent U 1 2≠0
  ·exact .inr (.inl (pK h c1))
  by_cases c2:ent U 2 2≠0
  ·exact .inr (.inr (pK h c2))
  refine absurd ?_ d0;rw[show ent U 0 2=0 by omega,show ent U 1 2=0 by omega,show ent U 2 2=0 by omega];simp
theorem Lj{N S:List (List Int)}(h:gJ N)(b:Li N S):cL N (aX N S):=by
 refine⟨⟨S,b.uO,b.un,rfl⟩,λU cU uU=> ?_⟩;obtain⟨k1,k2,k3,k4,k5⟩:=Ih h uU;have l1:=h.CN;have l2:=h.Gf;have d0:=b.dg 0 (by decide);have d1:=b.dg 1 (by decide);have d2:=b.dg 2 (by decide);have q0:=k1 0 (by decide);have q1:=k1 1 (by decide);have q2:=k1 2 (by decide);unfold Rm
 by_cases c:ent (aX N U) 0 0=ent N 0 0/\ent (aX N U) 1 1=ent N 1 1/\ent (aX N U) 2 2=ent N 2 2
 ·obtain⟨c0,c1,c2⟩:=c
  refine .inr ⟨by omega,.inr ⟨by omega,.inr ⟨by(clear c1 c0 q2 q1 q0 d1 d0 l2 l1 k5 k4 k3 k2 k1;omega),b.le U cU uU λi hi=> ?_⟩⟩⟩;rcases aW hi with rfl|rfl|rfl
  ·exact c0
  ·exact c1
  ·exact c2
 ·omega
theorem Lk{N:List (List Int)}(h:gJ N)(dD:aA N<=401){L0 L1 L2:List (List Int)}(h0:fF N (ent N 0 0/2) L0)(so:L0.Pairwise λr s=>qB r<=qB s)(h1:fF N (ent N 1 1/2) L1)(h2:fF N (ent N 2 2/2) L2){m x y:Int}
  (best:∀a b c,a∈L0.take (L0.length/2) ->b∈L1->c∈L2->cy (aA [a,b,c]) ->uK m x y (au N (aL a) (aL b)) (au N (aL a) (aL c)) (au N (aL b) (aL c))):
  ∀T,aY T->cy (aA T) ->(∀i,i<3->ent (aX N T) i i=ent N i i) ->uK m x y (ent (aX N T) 0 1) (ent (aX N T) 0 2) (ent (aX N T) 1 2):=λT cT uT dg=>by
 obtain⟨fl,D0,a2,gE,fX,fM,f8,fa⟩:=fC h dD;have l1:=h.CN;have l2:=h.Gf;have e:∀i j,i<3->j<3->ent (aX N T) i j=au N (λk=>ent T i k) (λk=>ent T j k):=λi j hi hj=>jr N T hi hj;have hf:∀i,i<3->cN N (λk=>ent T i k)=ent N i i/2:=λi hi=>by
  unfold cN;rw[<-e i i hi hi,dg i hi]
 have hn:∀i,i<3->cN N (λk=> -ent T i k)=ent N i i/2:=λi hi=>by
  unfold cN;rw[show au N (λk=> -ent T i k) (λk=> -ent T i k)=_ from Gu N λk=>ent T i k,show aQ N (λk=>ent T i k)=_ from(e i i hi hi).symm,dg i hi]
 have d0:aA T≠0:=by rcases uT with z|z<;>rw[z]<;>decide
 have dT:=dJ T
 by_cases c:qB [ent T 0 0,ent T 0 1,ent T 0 2]<0
 ·have m0:=qD h0 so ((h0.2.2 λk=>ent T 0 k).mpr (hf 0 (by decide))) c
  have m1:=(h1.2.2 λk=>ent T 1 k).mpr (hf 1 (by decide));have m2:=(h2.2.2 λk=>ent T 2 k).mpr (hf 2 (by decide));have k:=best _ _ _ m0 m1 m2 uT;rw[e 0 1 (by decide) (by decide),e 0 2 (by decide) (by decide),e 1 2 (by decide) (by decide)];have r:∀i,i<3-> ∀k,k<3->aL [ent T i 0,ent T i 1,ent T i 2] k=ent T i k:=λi hi k hk=>by rcases aW hk with rfl|rfl|rfl<;>rfl
  rw[eH (r 0 (by decide)) (r 1 (by decide)),eH (r 0 (by decide)) (r 2 (by decide)),eH (r 1 (by decide)) (r 2 (by decide))]at k;exact k
 ·have sm:∀i,i<3->(aL [ent T 0 0,ent T 0 1,ent T 0 2] i).natAbs<2^1000:=λi hi=>by
   have:=uW h dD (show 0<=ent N 0 0/2 by(clear hi c dT d0 hn hf e l2 l1 fM fX dg best;omega)) (by(clear hi c dT d0 hn hf e l2 l1 fM fX dg best;omega)) (hf 0 (by decide)) i hi;refine aao ?_ (aaF (by decide) (show 60<=1000 by decide));rcases aW hi with rfl|rfl|rfl<;>exact this
  have ne:qB [ent T 0 0,ent T 0 1,ent T 0 2]≠0:=λz=>d0 (by
   have: [ent T 0 0,ent T 0 1,ent T 0 2]=[0,0,0]:=NS rfl rfl sm (λi hi=>by rcases aW hi with rfl|rfl|rfl<;>exact aao (show 0<1 by decide) Nat.one_le_two_pow) (by rw[z];show(0:Int)=0*_+0*_+0;omega);injection this with z0 this;injection this with z1 this;injection this with z2 _;rw[dT,z0,z1,z2]
   (clear z2 z1 z0 z sm c dT d0 hn hf e l2 l1 fa f8 fM fX gE a2 D0 fl dg best dD;omega))
  have m0:=qD h0 so (r:=[-ent T 0 0,-ent T 0 1,-ent T 0 2]) ((h0.2.2 λk=> -ent T 0 k).mpr (hn 0 (by decide))) (by
   have:qB [-ent T 0 0,-ent T 0 1,-ent T 0 2]= -qB [ent T 0 0,ent T 0 1,ent T 0 2]:=Lf (r:=[ent T 0 0,ent T 0 1,ent T 0 2]) rfl
   (clear sm dT d0 hn hf e l2 l1 fa f8 fM fX gE a2 D0 fl dg best dD;omega))
  have m1:=(h1.2.2 λk=> -ent T 1 k).mpr (hn 1 (by decide));have m2:=(h2.2.2 λk=> -ent T 2 k).mpr (hn 2 (by decide));have dn:aA [[-ent T 0 0,-ent T 0 1,-ent T 0 2],[-ent T 1 0,-ent T 1 1,-ent T 1 2],[-ent T 2 0,-ent T 2 1,-ent T 2 2]]= -aA T:=by
   rw[dT];show-ent T 0 0*(-ent T 1 1* -ent T 2 2- -ent T 1 2* -ent T 2 1)+ -ent T 0 1*(-ent T 1 2* -ent T 2 0- -ent T 1 0* -ent T 2 2)+ -ent T 0 2*(-ent T 1 0* -ent T 2 1- -ent T 1 1* -ent T 2 0)=_
   grind
  have un:cy (-aA T):=by
   rcases uT with z|z<;>rw[z]
   ·exact .inr rfl
   ·exact .inl rfl
  have k:=best _ _ _ m0 m1 m2 (by rw[dn];exact un);rw[e 0 1 (by decide) (by decide),e 0 2 (by decide) (by decide),e 1 2 (by decide) (by decide)];have r:∀i,i<3-> ∀k,k<3->aL [-ent T i 0,-ent T i 1,-ent T i 2] k= -ent T i k:=λi hi k hk=>by rcases aW hk with rfl|rfl|rfl<;>rfl
  have pn:∀x y:Nat->Int,au N (λk=> -x k) (λk=> -y k)=au N x y:=λx y=>by
   rw[aT,aT]
   grind
  rw[eH (r 0 (by decide)) (r 1 (by decide)),eH (r 0 (by decide)) (r 2 (by decide)),eH (r 1 (by decide)) (r 2 (by decide)),pn,pn,pn]at k;exact k
theorem Ll(m x y m' x' y':Int):HT.lexLt [m,x,y] [m',x',y']=true↔ ¬uK m' x' y' m x y:=by
 unfold uK;rw[HT.ng]
 split
 ·rw[HT.ng]
  split
  ·rw[HT.ng]
   split
   ·rw[HT.pR]
    simp;omega
   ·simp
    omega
  ·simp
   omega
 ·simp
  omega
end L2
namespace L2
open PySem
noncomputable section
theorem Ep{N:List (List Int)}(v:Nat->Int):cN N (aL [v 0,v 1,v 2])=cN N v:=Ci ⟨rfl,rfl,rfl⟩
end
end L2
namespace L2
open PySem PySem.Spec PyProof.Rows
noncomputable def g8(N S:List (List Int))(i j:Nat):Int:=au N (aL (S.getD i [])) (aL (S.getD j []))
theorem Av(N S:List (List Int)){i j:Nat}(hi:i<3)(hj:j<3):g8 N S i j=ent (aX N S) i j:=(jr N S hi hj).symm
theorem Ii{N:List (List Int)}(ev:br N){i:Nat}(hi:i<3):2*(ent N i i/2)=ent N i i:=by
 obtain⟨_,a,b,c,ea,eb,ec⟩:=ev;rcases aW hi with rfl|rfl|rfl<;>(clear hi;omega)
theorem xx{N:List (List Int)}(ev:br N){i:Nat}(hi:i<3){L:List (List Int)}(R:fF N (ent N i i/2) L){r:List Int}(hr:r∈L):au N (aL r) (aL r)=ent N i i:=by
 obtain⟨v,rfl⟩:=R.2.1 r hr;have e:=(R.2.2 v).mp hr;rw[<-Ii ev hi,<-e,fV ev,Ep]
noncomputable def fS(N:List (List Int))(W:List (List Int) ->Prop)(H:Hp)(bv tv:V):Prop:=
 (bv= .gF/\tv= .gF/\ ∀T,W T-> ¬cy (aA T))∨
 ∃ob S,bv= .ref ob/\H ob=some (.tup [.int (g8 N S 0 1),.int (g8 N S 0 2),.int (g8 N S 1 2)])/\ ∃ot rs,tv= .ref ot/\Tab H ot rs S/\aY S/\cy (aA S)/\Bd 60 S/\(∀i,i<3->g8 N S i i=ent N i i)/\
  ∀T,W T->cy (aA T) ->uK (g8 N S 0 1) (g8 N S 0 2) (g8 N S 1 2) (g8 N T 0 1) (g8 N T 0 2) (g8 N T 1 2)
theorem fS.same{N:List (List Int)}{W:List (List Int) ->Prop}{H H':Hp}{bv tv:V}(h:fS N W H bv tv)(s:ay H H'):fS N W H' bv tv:=by
 rcases h with h|⟨ob,S,e,eb,ot,rs,e2,T,k⟩
 ·exact .inl h
 ·exact .inr ⟨ob,S,e,s _ _ eb,ot,rs,e2,T.same s,k⟩
theorem fS.mono{N:List (List Int)}{W W':List (List Int) ->Prop}{H:Hp}{bv tv:V}(h:fS N W H bv tv)(w:∀T,W' T->W T):fS N W' H bv tv:=by
 rcases h with⟨a,b,c⟩|⟨ob,S,e,eb,ot,rs,e2,T,c,u,bd,dg,le⟩
 ·exact .inl ⟨a,b,λT hT=>c T (w T hT)⟩
 ·exact .inr ⟨ob,S,e,eb,ot,rs,e2,T,c,u,bd,dg,λT hT=>le T (w T hT)⟩
theorem fS.skip{N:List (List Int)}{W W':List (List Int) ->Prop}{H:Hp}{bv tv:V}(h:fS N W H bv tv)(w:∀T,W' T->W T∨ ¬cy (aA T)):fS N W' H bv tv:=by
 rcases h with⟨a,b,c⟩|⟨ob,S,e,eb,ot,rs,e2,T,c,u,bd,dg,le⟩
 ·exact .inl ⟨a,b,λT hT=>(w T hT).elim (c T) id⟩
 ·exact .inr ⟨ob,S,e,eb,ot,rs,e2,T,c,u,bd,dg,λT hT uT=>(w T hT).elim (λz=>le T z uT) λz=>absurd uT z⟩
theorem fS.keep{N:List (List Int)}{W W':List (List Int) ->Prop}{H:Hp}{ob:Addr}{S:List (List Int)}{tv:V}{A:List (List Int)}
  (eb:H ob=some (.tup [.int (g8 N S 0 1),.int (g8 N S 0 2),.int (g8 N S 1 2)]))(k:∃ot rs,tv= .ref ot/\Tab H ot rs S/\aY S/\cy (aA S)/\Bd 60 S/\(∀i,i<3->g8 N S i i=ent N i i)/\
  ∀T,W T->cy (aA T) ->uK (g8 N S 0 1) (g8 N S 0 2) (g8 N S 1 2) (g8 N T 0 1) (g8 N T 0 2) (g8 N T 1 2))
  (c:¬HT.lexLt [g8 N A 0 1,g8 N A 0 2,g8 N A 1 2] [g8 N S 0 1,g8 N S 0 2,g8 N S 1 2]=true)(w:∀T,W' T->W T∨T=A):fS N W' H (.ref ob) tv:=by
 obtain⟨ot,rs,e2,T,c3,u,bd,dg,le⟩:=k;refine .inr ⟨ob,S,rfl,eb,ot,rs,e2,T,c3,u,bd,dg,λT hT uT=> ?_⟩;rcases w T hT with z|rfl
 ·exact le T z uT
 ·rw[Ll]at c
  exact Classical.not_not.mp c
theorem Lm{N:List (List Int)}{W W':List (List Int) ->Prop}{H:Hp}{ob ot:Addr}{rs:List Addr}{A S:List (List Int)}(eb:H ob=some (.tup [.int (g8 N A 0 1),.int (g8 N A 0 2),.int (g8 N A 1 2)]))(T:Tab H ot rs A)(c3:aY A)(u:cy (aA A))(bd:Bd 60 A)(dg:∀i,i<3->g8 N A i i=ent N i i)
  (h:∀T,W T->cy (aA T) ->uK (g8 N S 0 1) (g8 N S 0 2) (g8 N S 1 2) (g8 N T 0 1) (g8 N T 0 2) (g8 N T 1 2))(c:HT.lexLt [g8 N A 0 1,g8 N A 0 2,g8 N A 1 2] [g8 N S 0 1,g8 N S 0 2,g8 N S 1 2]=true)(w:∀T,W' T->W T∨T=A):fS N W' H (.ref ob) (.ref ot):=by
 refine .inr ⟨ob,A,rfl,eb,ot,rs,rfl,T,c3,u,bd,dg,λT hT uT=> ?_⟩;rcases w T hT with z|rfl
 ·have k:=h T z uT
  rw[Ll]at c;unfold uK at *;omega
 ·unfold uK;omega
theorem Er{N:List (List Int)}{W W':List (List Int) ->Prop}{H:Hp}{ob ot:Addr}{rs:List Addr}{A:List (List Int)}(eb:H ob=some (.tup [.int (g8 N A 0 1),.int (g8 N A 0 2),.int (g8 N A 1 2)]))(T:Tab H ot rs A)(c3:aY A)(u:cy (aA A))(bd:Bd 60 A)(dg:∀i,i<3->g8 N A i i=ent N i i)
  (h:∀T,W T-> ¬cy (aA T))(w:∀T,W' T->W T∨T=A):fS N W' H (.ref ob) (.ref ot):=by
 refine .inr ⟨ob,A,rfl,eb,ot,rs,rfl,T,c3,u,bd,dg,λT hT uT=> ?_⟩;rcases w T hT with z|rfl
 ·exact absurd uT (h T z)
 ·unfold uK;omega
theorem QD{N S:List (List Int)}(c:aY S)(u:cy (aA S))(dg:∀i,i<3->g8 N S i i=ent N i i)(le:∀T,aY T->cy (aA T) ->(∀i,i<3->ent (aX N T) i i=ent N i i) ->uK (g8 N S 0 1) (g8 N S 0 2) (g8 N S 1 2) (ent (aX N T) 0 1) (ent (aX N T) 0 2) (ent (aX N T) 1 2)):Li N S:=by
 refine⟨c,u,λi hi=>by rw[<-Av N S hi hi];exact dg i hi,λT cT uT d=> ?_⟩;have:=le T cT uT d
 rwa [Av N S (by decide) (by decide),Av N S (by decide) (by decide),Av N S (by decide) (by decide)]at this
theorem Ij{x y:Int}(xs ys:List Int)(h:x<y):Ar (x::xs) (y::ys)=true:=by
 show(if x=y then Ar xs ys else decide (x<y))=true;rw[if_neg (by omega)];exact decide_eq_true h
theorem Ln{H:Hp}{vs:List Addr}(ok:∀u∈vs,Ua H u)(so:vs.Pairwise (λu v=>gY iC (NW H u)<=gY iC (NW H v))):vs.Pairwise λu v=> ∀(m m':Int)(a b a' b':Addr),H u=some (.tup [.int m,.ref a,.ref b]) ->H v=some (.tup [.int m',.ref a',.ref b']) ->m<=m':=by
 refine so.imp_of_mem λ {u v} hu hv r m m' a b a' b' e e'=> ?_;refine Classical.byContradiction λc=> ?_;obtain⟨m1,a1,b1,e1,ra,rb,hm,sa,sb⟩:=ok u hu;obtain⟨m2,a2,b2,e2,ra',rb',hm',sa',sb'⟩:=ok v hv;rw[e]at e1;rw[e']at e2;cases e1;cases e2;rw[As e,As e']at r;have l:=Ck kX (OP hm' hm sa' sb' sa sb);rw[Ij _ _ (by omega)]at l;have:=of_decide_eq_true l.symm;omega
end L2
set_option maxHeartbeats 1000000
namespace CV
open PySem L2
section
variable{P:Program}{w:World}{K:PySem.W.Frag}{mg:Str->Option Value}{base:Heap}
inductive Cp(vs:List V)(H:Hp)(Q:VK)(E:XK):Prop
 |mk(t:Addr)(bs:List Addr)(N:List (List Int))(_:vs=[.ref t])(_:Tab H t bs N)(_:aY N)(_:br N)(_:Bd 700 N)(_:gJ N)(_:aA N<=401)(_:∀(r:Addr) (rs:Nat->Addr) (as:Nat->List Addr) (H':Hp),ay H H'->H' r=some (.lst [.ref (rs 0),.ref (rs 1),.ref (rs 2)]) ->(H' (rs 0)=some (.lst ((as 0).map V.ref))/\gH H' (as 0)/\fF N (ent N 0 0/2) (rws H' (as 0))/\(rws H' (as 0)).Pairwise (λr s=>qB r<=qB s)) ->(H' (rs 1)=some (.lst ((as 1).map V.ref))/\gH H' (as 1)/\fF N (ent N 1 1/2) (rws H' (as 1))/\(rws H' (as 1)).Pairwise (λr s=>qB r<=qB s)) ->(H' (rs 2)=some (.lst ((as 2).map V.ref))/\gH H' (as 2)/\fF N (ent N 2 2/2) (rws H' (as 2))/\(rws H' (as 2)).Pairwise (λr s=>qB r<=qB s)) ->Q (.ref r) H')
theorem xy(F:fZ K mg "corner_rows" lZ g9)(aB:mg "range"=none)(oV:dO P w K mg base dz 5 "near_rows" ju qC):dO P w K mg base dz 6 "corner_rows" g9 Cp:=by
 refine F.ok wY (λvs H Q E h=> ?_) (λf cdv A outer s H vs Q E hr h=> ?_)
 ·obtain⟨t,bs,N,rfl,hT,cg,ev,bN,NT,dD,q⟩:=h
  rfl
 obtain⟨t,bs,N,rfl,hT,cg,ev,bN,NT,dD,q⟩:=h;have hu:=hr.units;refine⟨_,(dQ (aU (iK (N2:=["table"]) (te:=(mE qC [] E0 (cV (bU 1) (cV (ku (rI RU λi j=> .int (i/j)) (ku (j4 K) (ku (j4 K) (bU 1) (bU 0)) (bU 0)) (tC (.int 2))) jB)))) rfl (dU rfl aB (af ak ah)) (by kernel_rfl) rfl (λ_ _ _=>by exact jE (aN oV hr rfl aM (af (pv 1) (af (av fP (aO aC (aO aC (pv 1) (pv 0) (λ_ _=>rfl)) (pv 0) (λ_ _=>rfl)) ak) ah))))))),?_⟩;obtain⟨fl,D0,a2,gE,fX,fM,f8,fa⟩:=fC NT dD;have l1:=NT.CN;have l2:=NT.Gf;refine⟨3,rfl,by decide,by decide,λD hD=>KA (iJ (n:=3)) (by decide) hD (λj v H'=> ∃r as,v= .ref r/\r≠D/\(∀b∈as,b≠D)/\H' r=some (.lst (as.map V.ref))/\gH H' as/\fF N (ent N j j/2) (rws H' as)/\(rws H' as).Pairwise (λr s=>qB r<=qB s)) ?_ ?_ ?_⟩
 ·rintro j v G G' ⟨r,as,rfl,nr,na,er,ok,R,so⟩ k
  obtain⟨ok',Yh⟩:=ok.keep λb hb o e=>k b o (na b hb) e;exact⟨r,as,rfl,nr,na,k _ _ nr er,ok',by rw[Yh];exact R,by rw[Yh];exact so⟩
 ·intro j x ex H' Q' sG eo k
  obtain⟨hj,rfl⟩:=gT ex;have WJ:=hT.same sG;obtain⟨b,row,Bh,Jw,Wq⟩:=pB WJ cg hj hj;have n2:0<=ent N j j/2/\ent N j j/2<=1100:=by
   have:0<=ent N j j/\ent N j j<=2200:=by rcases aW hj with rfl|rfl|rfl<;>constructor<;>omega
   omega
  refine⟨_,rfl,_,rfl,_,rfl,t,_,_,_,rfl,rfl,aZ.of WJ.1,Bh,_,rfl,b,_,_,_,rfl,rfl,aZ.of Jw,Wq,_,_,rfl,rfl,⟨by decide,by decide⟩,?_⟩;refine⟨t,bs,N,_,rfl,WJ,cg,ev,bN,NT,dD,n2.1,n2.2,λr as H3 s3 fr ZP er ok R so al=> ?_⟩;exact k _ H3 s3 ⟨r,as,rfl,(λz=>by obtain⟨o,eo⟩:=eo;rw[z,eo]at fr;cases fr),(λc hc z=>by obtain⟨o,eo⟩:=eo;have:=ZP c hc;rw[z,eo]at this;cases this),er,ok,R,so⟩
 ·intro vs H' sG hl items eD
  obtain⟨x,y,z,rfl⟩:∃x y z,vs=[x,y,z]:=by
   match vs,hl with
   | [x,y,z],_=>exact⟨x,y,z,rfl⟩
  obtain⟨r0,a0,rfl,_,_,k0⟩:=items 0 x rfl;obtain⟨r1,a1,rfl,_,_,k1⟩:=items 1 y rfl;obtain⟨r2,a2,rfl,_,_,k2⟩:=items 2 z rfl;exact q D (λi=>match i with|0=>r0|1=>r1|_=>r2) (λi=>match i with|0=>a0|1=>a1|_=>a2) H' sG eD k0 k1 k2
inductive Gv(T0:Addr)(vs:List V)(H:Hp)(Q:VK)(E:XK):Prop
 |mk(t:Addr)(bs:List Addr)(N:List (List Int))(f:Addr)(fs:List Addr)(s':Addr)(ss:List Addr)(_:vs=[.ref t,.ref f,.ref s'])(_:Tab H t bs N)(_:aY N)(_:Bd 700 N)(_:H f=some (.lst (fs.map V.ref)))(_:gH H fs)(_:∀b∈fs,∀i,i<3->(aL (dR H b) i).natAbs<2^60)(_:H s'=some (.lst (ss.map V.ref)))(_:gH H ss)(_:∀b∈ss,∀i,i<3->(aL (dR H b) i).natAbs<2^60)(_:fs.length<=50)(_:ss.length<=50)(_:H T0=some (eN T0))(_:∀(r:Addr) (us:List Addr) (H':Hp),ay H H'->H r=none->H' r=some (.lst (us.map V.ref)) ->(∀u∈us,∃a b,a∈fs.take (fs.length/2)/\b∈ss/\H u=none/\H' u=some (.tup [.int (au N (aL (dR H a)) (aL (dR H b))),.ref a,.ref b])) ->(∀a∈fs.take (fs.length/2),∀b∈ss,∃u∈us,H' u=some (.tup [.int (au N (aL (dR H a)) (aL (dR H b))),.ref a,.ref b])) ->(us.Pairwise λu v=> ∀(m m':Int) (a b a' b':Addr),H' u=some (.tup [.int m,.ref a,.ref b]) ->H' v=some (.tup [.int m',.ref a',.ref b']) ->m<=m') ->Q (.ref r) H')
theorem rR{aE:Addr}(F:fZ K mg "pairs_in_order" jd fW)(ie:mg "len"=none)(fL:mg "sorted"=none)(cI:dO P w K mg base dz 2 "pairing" gW (qx aE)):dO P w K mg base dz 3 "pairs_in_order" fW (Gv aE):=by
 refine F.ok lM (λvs H Q E h=> ?_) (λf cdv A outer s H vs Q E hr h=> ?_)
 ·obtain⟨t,bs,N,f,fs,sc,ss,rfl,hT,cg,bN,ef,UR,Ub,es,US,Uc,lf,ls,hP,q⟩:=h
  rfl
 obtain⟨t,bs,N,f,fs,sc,ss,rfl,hT,cg,bN,ef,UR,Ub,es,US,Uc,lf,ls,hP,q⟩:=h;have hu:=hr.units;refine⟨_,(nA (@az _ _ _ _ _ (aV (i:=3) lM.nd rfl (Or.inl rfl) (Ji ME (pv 1) MB (MC (av fP (cR gc rfl ie ab4 (af (pv 1) ah)) ak))))
  (@aP _ _ _ (aU (cR (uN (gk.FZ hr)) rfl fL aco (af (Nl (N2:=["table","firsts","seconds","halved"]) (JG:=(Fd K (bU 4))) (te:=(RZ (cV (mE (qx aE) [] E0 (cV (bU 2) (cV (bU 0) (cV (bU 1) jB)))) (cV (bU 0) (cV (bU 1) jB))))) rfl (eT (pv 3)) (by kernel_rfl) rfl (λ_ _ _=>by exact Wd (eT (pv 4))) (λ_ _ _=>by exact jE (gz (af (aN cI hr rfl aM (af (pv 2) (af (pv 0) (af (pv 1) ah)))) (af (pv 0) (af (pv 1) ah)))))) ah)))))),?_⟩
 have Yi:(fs.map V.ref).length=fs.length:=aau _;refine⟨_,rfl,_,rfl,f,_,rfl,.inl (aZ.of ef),_,_,rfl,rfl,⟨by decide,by decide⟩,_,rfl,f,_,rfl,aZ.of ef,λh hh=> ?_⟩;have ec:CZ (fs.map V.ref) none (some ((((fs.map V.ref).length:Nat):Int)/2))=(fs.take (fs.length/2)).map V.ref:=by
  rw[Yi,show((fs.length:Int)/2)=((fs.length/2:Nat):Int)by omega,Ic (by rw[Yi];omega),ad2]
 rw[ec];obtain⟨hs,Ud⟩:∃hs,hs=fs.take (fs.length/2):=⟨_,rfl⟩;rw[<-Ud];have sh:=ay.up (o:= .lst (hs.map V.ref)) hh;obtain⟨H1,Yj⟩:∃J,J=upd H h (.lst (hs.map V.ref)):=⟨_,rfl⟩;have Yk:H1 h=some (.lst (hs.map V.ref)):=by rw[Yj];exact ao
 rw[<-Yj]at sh ⊢;have hsub:∀a∈hs,a∈fs:=λa ha=>aaH (Ud▸ha);have lhs:hs.length<=50:=by rw[Ud,aaX];omega
 refine⟨_,rfl,h,rfl,⟨_,aZ.of Yk⟩,λD hD=>Ia (aZ.of Yk) (aZ.of (sh _ _ es)) hD (by rw[aau,aau];exact aaL (acg lhs ls) (by decide)) (λx y v H'=> ∃u a b,v= .ref u/\x= .ref a/\y= .ref b/\u≠D/\H1 u=none/\H' u=some (.tup [.int (au N (aL (dR H a)) (aL (dR H b))),.ref a,.ref b])) ?_ ?_ ?_ ?_⟩
 ·rintro x y v G G' ⟨u,a,b,rfl,rfl,rfl,nu,fu,e⟩ k
  exact⟨u,a,b,rfl,rfl,rfl,nu,fu,k _ _ nu e⟩
 ·intro x o H' R' hx sG k
  exact⟨_,rfl,sc,rfl,⟨_,aZ.of (sG _ _ (sh _ _ es))⟩,k⟩
 ·intro x y hx hy H' Q' sG eo k
  obtain⟨a,rfl,ha⟩:=mJ hx;obtain⟨b,rfl,hb⟩:=mJ hy;have s1:=sh.trans sG;refine⟨_,rfl,_,rfl,_,rfl,t,bs,N,a,b,_,_,rfl,hT.same s1,cg,bN.mono (by decide),s1 _ _ (UR a (hsub a ha)).1,s1 _ _ (US b hb).1,(λi hi=>aao (Ub a (hsub a ha) i hi) (aaF (by decide) (by decide))),(λi hi=>aao (Uc b hb i hi) (aaF (by decide) (by decide))),s1 _ _ hP,λH2 s2=>⟨_,rfl,_,rfl,(by show 3<=sizeLine;decide),λu hu=> ?_⟩⟩;exact k _ _ (s2.trans (ay.up hu)) ⟨u,a,b,rfl,rfl,rfl,(λz=>by obtain⟨o,eo⟩:=eo;have:=s2 _ _ eo;rw[<-z,hu]at this;cases this),(sG.trans s2).none hu,ao⟩
 ·intro vs H' G
  obtain⟨us,rfl⟩:∃us:List Addr,vs=us.map V.ref:=uY λv hv=>by
   obtain⟨_,_,_,_,u,a,b,e,_⟩:=G.mem hv;exact⟨u,e⟩
  have s1:=sh.trans G.same;have it:∀u∈us,∃a b,a∈hs/\b∈ss/\H1 u=none/\H' u=some (.tup [.int (au N (aL (dR H a)) (aL (dR H b))),.ref a,.ref b]):=λu hu=>by
   obtain⟨x,hx,y,hy,u',a,b,e,rfl,rfl,_,fu,k⟩:=G.mem (aaU.mpr ⟨u,hu,rfl⟩);cases e;obtain⟨a',e1,ha⟩:=mJ hx;obtain⟨b',e2,hb⟩:=mJ hy;cases e1;cases e2;exact⟨a,b,ha,hb,fu,k⟩
  obtain⟨Ue,ef'⟩:=UR.same s1;obtain⟨Ug,es'⟩:=US.same s1;have kf:∀a∈fs,dR H' a=dR H a:=λa ha=>((UR a ha).keep λo e=>s1 _ _ e).2;have ks:∀a∈ss,dR H' a=dR H a:=λa ha=>((US a ha).keep λo e=>s1 _ _ e).2;have pb:∀a∈hs,∀b∈ss,(au N (aL (dR H a)) (aL (dR H b))).natAbs<2^1000:=λa ha b hb=>
   aao (jq bN (Ub a (hsub a ha)) (Uc b hb)) (aaF (by decide) (by decide))
  have up:∀{r:List Int},(∀i,i<3->(aL r i).natAbs<2^60) ->l8 r:=λh i hi=>aao (h i hi) (aaF (by decide) (by decide));refine tN ?_;refine En (aZ.of G.at') (λu hu=> ?_) λvs pv so l hl=> ?_
  ·obtain⟨a,b,ha,hb,fu,e⟩:=it u hu
   exact⟨_,a,b,e,Ue a (hsub a ha),Ug b hb,pb a ha b hb,by rw[kf a (hsub a ha)];exact up (Ub a (hsub a ha)),by rw[ks b hb];exact up (Uc b hb)⟩
  ·have sl:=ay.up (o:= .lst (vs.map V.ref)) hl
   refine q l vs _ (s1.trans sl) (s1.none hl) ao (λu hu=> ?_) (λa ha b hb=> ?_) ?_
   ·obtain⟨a,b,ha,hb,fu,e⟩:=it u (pv.mem_iff.mp hu)
    exact⟨a,b,Ud▸ha,hb,sh.none fu,sl _ _ e⟩
   ·obtain⟨v,hv,u,a',b',rfl,e1,e2,_,_,e⟩:=G.all (aaU.mpr ⟨a,(Ud▸ha),rfl⟩) (aaU.mpr ⟨b,hb,rfl⟩)
    cases e1;cases e2;obtain⟨u',Mi,e3⟩:=aaU.mp hv;cases e3;exact⟨u,pv.mem_iff.mpr Mi,sl _ _ e⟩
   ·refine(Ln (λu hu=> ?_) so).imp_of_mem λ {u v} hu hv r m m' a b a' b' e e'=> ?_
    ·obtain⟨a,b,ha,hb,fu,e⟩:=it u (pv.mem_iff.mp hu)
     exact⟨_,a,b,e,Ue a (hsub a ha),Ug b hb,pb a ha b hb,by rw[kf a (hsub a ha)];exact up (Ub a (hsub a ha)),by rw[ks b hb];exact up (Uc b hb)⟩
    ·obtain⟨a1,b1,_,_,_,e1⟩:=it u (pv.mem_iff.mp hu)
     obtain⟨a2,b2,_,_,_,e2⟩:=it v (pv.mem_iff.mp hv);have f1:=sl _ _ e1;have f2:=sl _ _ e2;rw[e]at f1;rw[e']at f2;cases f1;cases f2;exact r _ _ _ _ _ _ e1 e2
inductive tW(vs:List V)(H:Hp)(Q:VK)(E:XK):Prop
 |mk(t:Addr)(bs:List Addr)(m:List (List Int))(_:vs=[.ref t])(_:Tab H t bs m)(_:aY m)(_:Bd 1000 m)(_:True)(_:∀H',ay H H'->Q (.bl (Rc (.int (aA m)) [.int 1,.int (-1)])) H')
theorem Cq(F:fZ K mg "is_basis" qm jb)(bT:dO P w K mg base dz 3 "determinant" dZ zh):dO P w K mg base dz 4 "is_basis" jb tW:=by
 refine F.ok BQ (λvs H Q E h=> ?_) (λf cdv A outer s H vs Q E hr h=> ?_)
 ·obtain⟨t,bs,m,rfl,hT,cg,hB,hP,q⟩:=h
  rfl
 obtain⟨t,bs,m,rfl,hT,cg,hB,hP,q⟩:=h;have hu:=hr.units;refine⟨_,(dQ (aU (lF GW (aN bT hr rfl aM (af (pv 0) ah)) (gz (af ak (af (AX v7 ak) ah))) (by rfl)))),?_⟩;refine⟨_,rfl,t,bs,m,rfl,hT,cg,hB,hP,λH1 s1=> ?_⟩;refine⟨_,rfl,(by show 2<=sizeLine;decide),λp hp=> ?_⟩;exact⟨p,_,rfl,.inr (nZ.of ao),rfl,rfl,q _ (s1.trans (ay.up hp))⟩
inductive Cr(T0:Addr)(vs:List V)(H:Hp)(Q:VK)(E:XK):Prop
 |mk(t:Addr)(bs:List Addr)(N:List (List Int))(_:vs=[.ref t])(_:Tab H t bs N)(_:aY N)(_:br N)(_:Bd 700 N)(_:gJ N)(_:aA N<=401)(_:H T0=some (eN T0))(_:∀(r:Addr) (rs:List Addr) (S:List (List Int)) (H':Hp),ay H H'->Tab H' r rs S->aY S->(aA S=1∨aA S= -1) ->Bd 60 S->Li N S->Q (.ref r) H')
theorem xA{aE:Addr}(F:fZ K mg "least_basis" l6 ic)(l9:dO P w K mg base dz 6 "corner_rows" g9 Cp)(jf:dO P w K mg base dz 6 "pairs_in_order" fW (Gv aE))(cI:dO P w K mg base dz 6 "pairing" gW (qx aE))(jg:dO P w K mg base dz 6 "is_basis" jb tW):dO P w K mg base dz 7 "least_basis" ic (Cr aE):=by
 refine F.ok cz (λvs H Q E h=> ?_) (λf cdv A outer s H vs Q E hr h=> ?_)
 ·obtain⟨t,bs,N,rfl,hT,cg,ev,bN,NT,dD,hP,q⟩:=h
  rfl
 obtain⟨t,bs,N,rfl,hT,cg,ev,bN,NT,dD,hP,q⟩:=h;have hu:=hr.units;refine⟨_,(nA (@az _ _ _ _ _ (iu (aN l9 hr rfl aM (af (pv 0) ah)) (jk rfl (aG (aI (i:=1) cz.nd rfl (Or.inl rfl)) (aG (aI (i:=2) cz.nd rfl (Or.inl rfl)) (aG (aI (i:=3) cz.nd rfl (Or.inl rfl)) dW)))))
  (@az _ _ _ _ _ (iu (gz (af pX (af pX ah))) (kr rfl (aG (aI (i:=4) cz.nd rfl (Or.inl rfl)) (aG (aI (i:=5) cz.nd rfl (Or.inl rfl)) dW))))
  (@az _ _ _ _ _ (iH PassesOwn.never rfl (eT (aN jf hr rfl aM (af (pv 0) (af (pv 1) (af (pv 2) ah))))) (kr rfl (aG (aI (i:=6) cz.nd rfl (Or.inl rfl)) (aG (aI (i:=7) cz.nd rfl (Or.inl rfl)) (aG (aI (i:=8) cz.nd rfl (Or.inl rfl)) dW)))) (nA (@az _ _ _ _ _ (eF (PW.pt (IV (cQ Mw (pv 4) pX (cP _)) (Fc (cQ uA (pv 6) (aO Dc (pv 4) ak (λ_ _=>rfl)) (cP _))))) (@aP _ _ _ IY) eE)
  (@aP _ _ _ (iH PassesOwn.never rfl (eT (pv 3)) (aI (i:=9) cz.nd rfl (Or.inl rfl)) (dQ (eF (iG (aN jg hr rfl aM (af (eU (af (pv 7) (af (pv 8) (af (pv 9) ah)))) ah))) (@az _ _ _ _ _ (aV (i:=10) cz.nd rfl (Or.inl rfl) (gz (af (pv 6) (af (aN cI hr rfl aM (af (pv 0) (af (pv 7) (af (pv 9) ah)))) (af (aN cI hr rfl aM (af (pv 0) (af (pv 8) (af (pv 9) ah)))) ah)))))
  (@aP _ _ _ (eF (PW.pt (uz (cQ Jf (pv 4) pX (cP _)) (pY (cQ (PB (aaL (acN _ _) hu)) (pv 10) (pv 4) (cP _))))) (@aP _ _ _ (vY (i:=4) (j:=5) rfl cz.nd rfl rfl (by decide) rfl rfl (af (pv 10) (af (eU (af (pv 7) (af (pv 8) (af (pv 9) ah)))) ah)) rfl)) eE))) eE)))))))
  (@aP _ _ _ (aU (pv 5))))))),?_⟩
 refine⟨_,rfl,t,bs,N,rfl,hT,cg,ev,bN,NT,dD,λr rs as H1 s1 er k0 k1 k2=> ?_⟩;obtain⟨e0,UT,R0,WK⟩:=k0;obtain⟨e1,UU,R1,ZQ⟩:=k1;obtain⟨e2,TU,R2,OL⟩:=k2;refine⟨r,_,rfl,aZ.of er,rfl,_,_,rfl,_,_,rfl,_,_,rfl,rfl,?_⟩;refine⟨(by show 2<=sizeLine;decide),λp0 hp0=>⟨p0,_,rfl,nZ.of ao,rfl,_,_,rfl,_,_,rfl,rfl,?_⟩⟩;have s12:=ay.up (o:= .tup [V.gF,.gF]) hp0;obtain⟨H2,Yl⟩:∃J,J=upd H1 p0 (.tup [V.gF,.gF]):=⟨_,rfl⟩;rw[<-Yl]at s12 ⊢;clear Yl hp0;have ym:=s1.trans s12;obtain⟨UT,w0⟩:=UT.same s12;obtain⟨UU,w1⟩:=UU.same s12;obtain⟨TU,w2⟩:=TU.same s12;rw[<-w0]at R0 WK;rw[<-w1]at R1;rw[<-w2]at R2;have e0:=s12 _ _ e0;have e1:=s12 _ _ e1;have e2:=s12 _ _ e2;clear w0 w1 w2 ZQ OL er;obtain⟨fl,D0,a2,gE,fX,fM,f8,fa⟩:=fC NT dD;have l1:=NT.CN;have l2:=NT.Gf;have Mj:∀b∈as 0,∀i,i<3->(aL (dR H2 b) i).natAbs<2^60:=λb hb=>(R0.small NT dD (by(clear l2 l1 fM fX e2 e1 e0 hu q hP;omega)) (by(clear l2 l1 fM fX e2 e1 e0 hu q hP;omega)) _ (nQ hb)).2;have OQ:∀b∈as 1,∀i,i<3->(aL (dR H2 b) i).natAbs<2^60:=λb hb=>(R1.small NT dD (by(clear Mj l2 fM e2 e1 e0 hu q hP;omega)) (by(clear Mj l2 fM e2 e1 e0 hu q hP;omega)) _ (nQ hb)).2;have Rn:∀b∈as 2,∀i,i<3->(aL (dR H2 b) i).natAbs<2^60:=λb hb=>(R2.small NT dD (by(clear OQ Mj e2 e1 e0 hu q hP;omega)) (by(clear OQ Mj e2 e1 e0 hu q hP;omega)) _ (nQ hb)).2;have f0:(as 0).length<=50:=by
  have:=xw NT dD (by(clear Rn OQ Mj l2 l1 fM fX e2 e1 e0 hu q hP;omega)) (by omega) R0
  rwa [show(rws H2 (as 0)).length=(as 0).length from aau _]at this
 have f1:(as 1).length<=50:=by
  have:=xw NT dD (by(clear f0 Rn OQ Mj l2 fM e2 e1 e0 hu q hP;omega)) (by omega) R1
  rwa [show(rws H2 (as 1)).length=(as 1).length from aau _]at this
 refine⟨_,rfl,_,rfl,_,rfl,t,bs,N,rs 0,as 0,rs 1,as 1,rfl,hT.same ym,cg,bN,e0,UT,Mj,e1,UU,OQ,f0,f1,ym _ _ hP,λq0 us H3 s3 fq eq items cover rise=> ?_⟩;have Es:=ym.trans s3;have Lo:∀{a},a∈(as 0).take ((as 0).length/2) ->a∈as 0:=λh=>aaH h;obtain⟨W,eW⟩:∃W:Nat->List (List Int) ->Prop,W=λi T=> ∃u∈us.take i,∃m a b c,H3 u=some (.tup [m,.ref a,.ref b])/\c∈as 2/\T=rws H2 [a,b,c]:=⟨_,rfl⟩;have fin:∀{H':Hp}{ob:Addr}{tv:V}{S:List (List Int)},ay H3 H'->(∃ot rs,tv= .ref ot/\Tab H' ot rs S/\aY S/\cy (aA S)/\Bd 60 S/\(∀i,i<3->g8 N S i i=ent N i i)/\ ∀T,W us.length T->cy (aA T) ->uK (g8 N S 0 1) (g8 N S 0 2) (g8 N S 1 2) (g8 N T 0 1) (g8 N T 0 2) (g8 N T 1 2)) ->Q tv H':=λs h=>by
  obtain⟨ot,rs',rfl,T,c,d,bd,dg,le⟩:=h;refine q ot rs' _ _ (Es.trans s) T c d bd (QD c d dg (Lk NT dD R0 WK R1 R2 λa b c ha hb hc un=> ?_));rw[show(rws H2 (as 0)).length=(as 0).length from aau _,show rws H2 (as 0)=(as 0).map (dR H2)from rfl,<-ad2]at ha;obtain⟨a0,ha0,rfl⟩:=aaU.mp ha;obtain⟨b0,hb0,rfl⟩:=aaU.mp hb;obtain⟨c0,hc0,rfl⟩:=aaU.mp hc;obtain⟨u,hu,e⟩:=cover a0 ha0 b0 hb0;exact le (rws H2 [a0,b0,c0]) (by rw[eW];exact⟨u,by rw[abE];exact hu,_,a0,b0,c0,e,hc0,rfl⟩) un
 refine⟨q0,rfl,⟨_,aZ.of eq⟩,?_⟩;refine mD (xs:=us.map V.ref) (λi σ H'=> ∃bv tv o6 o7 o8 o9 zu,σ=[some (.ref t),some (.ref (rs 0)),some (.ref (rs 1)),some (.ref (rs 2)),some bv,some tv,o6,o7,o8,o9,zu]/\ay H3 H'/\fS N (W i) H' bv tv) ⟨_,_,_,_,_,_,_,rfl,ay.refl _,.inl ⟨rfl,rfl,λT hT=>by rw[eW]at hT;obtain⟨u,hu,_⟩:=hT;simp at hu⟩⟩ (λi σ H4 hi hh=> ?_) (λi x σ H4 hx hh=> ?_) (λσ H4 hh=> ?_)
 ·obtain⟨bv,tv,o6,o7,o8,o9,zu,rfl,s4,B⟩:=hh
  exact aZ.of (s4 _ _ eq)
 ·obtain⟨bv,tv,o6,o7,o8,o9,zu,rfl,s4,B⟩:=hh
  rw[aby]at hx;obtain⟨u,eu,rfl⟩:=adz.mp hx;obtain⟨a,b,ha,hb,fu,e⟩:=items u (aaA eu);refine⟨u,_,rfl,nZ.of (s4 _ _ e),rfl,_,_,rfl,_,_,rfl,_,_,rfl,rfl,?_⟩;refine QA (λσ' H'=>σ'=[some (.ref t),some (.ref (rs 0)),some (.ref (rs 1)),some (.ref (rs 2)),some bv,some tv,some (.int (au N (aL (dR H2 a)) (aL (dR H2 b)))),some (.ref a),some (.ref b),o9,zu]/\H'=H4) (λR hR=> ?_) ?_
  ·rcases B with⟨rfl,rfl,_⟩|⟨ob,S,rfl,eb,T⟩
   ·exact⟨_,rfl,rfl,_,rfl,oB (oB (hR _ _ ⟨rfl,rfl⟩))⟩
   ·refine⟨_,rfl,rfl,_,rfl,wg ⟨_,rfl,_,rfl,ob,_,_,_,rfl,rfl,nZ.of eb,rfl,_,_,rfl,rfl,_,rfl,oh (λc=> ?_) (λc=> ?_)⟩⟩
    ·obtain⟨ot,rs',rfl,T0,c3,d,bd,dg,le⟩:=T
     refine⟨_,rfl,fin (ob:=ob) s4 ⟨ot,rs',rfl,T0,c3,d,bd,dg,λT hT uT=> ?_⟩⟩;have cc:g8 N S 0 1<au N (aL (dR H2 a)) (aL (dR H2 b)):=of_decide_eq_true c;rw[eW]at hT;obtain⟨u',Mi,m',a',b',c',e',hc',rfl⟩:=hT;rw[abE]at Mi;obtain⟨k,ek⟩:=List.mem_iff_getElem?.mp Mi;rcases acF k i with z|z
     ·exact le _ (by rw[eW];exact⟨u',ac9.mpr ⟨k,by have:=(aat.mp ek).1;(clear ek e' cc le dg hR c eb e fu hx eu fin eW Lo cover items eq fq f1 f0 Rn OQ Mj l2 l1 fa f8 fM fX gE a2 D0 fl e2 e1 e0 hu q hP dD;omega),(aat.mp ek).2⟩,m',a',b',c',e',hc',rfl⟩) uT
     ·refine .inl ?_
      obtain⟨a2,b2,_,_,_,e2⟩:=items u' Mi;rw[e']at e2;cases e2;show g8 N S 0 1<au N (aL (dR H2 a')) (aL (dR H2 b'));rcases Nat.lt_or_eq_of_le z with z|rfl
      ·obtain⟨ZR,q1⟩:=aat.mp eu
       obtain⟨ZS,q2⟩:=aat.mp ek;have:=abj.mp rise i k ZR ZS z;rw[q1,q2]at this;have:=this _ _ _ _ _ _ e e';omega
      ·rw[eu]at ek
       cases ek;have q9:=Option.some.inj (e.symm.trans e');injection q9 with q9;injection q9 with _ q9;injection q9 with q1 q9;injection q9 with q2 _;injection q1 with q1;injection q2 with q2;subst q1 q2;exact cc
    ·exact hR _ _ ⟨rfl,rfl⟩
  rintro _ _ ⟨rfl,rfl⟩;have Rk:=s3.trans s4;refine⟨_,rfl,rs 2,rfl,⟨_,aZ.of (Rk _ _ e2)⟩,?_⟩;refine mD (xs:=(as 2).map V.ref) (λj σ H'=> ∃bv tv o9 zu,σ=[some (.ref t),some (.ref (rs 0)),some (.ref (rs 1)),some (.ref (rs 2)),some bv,some tv,some (.int (au N (aL (dR H2 a)) (aL (dR H2 b)))),some (.ref a),some (.ref b),o9,zu]/\ay H3 H'/\fS N (λT=>W i T∨ ∃c∈(as 2).take j,T=rws H2 [a,b,c]) H' bv tv) ⟨_,_,_,_,rfl,s4,B.mono λT hT=>hT.elim id λ ⟨c,hc,_⟩=>by simp at hc⟩ (λj σ H5 hj hh=> ?_) (λj x σ H5 hx hh=> ?_) (λσ H5 hh=> ?_)
  ·obtain⟨bv,tv,o9,zu,rfl,s5,B⟩:=hh
   exact aZ.of (s5 _ _ (s3 _ _ e2))
  ·clear B
   obtain⟨bv,tv,o9,zu,rfl,s5,B⟩:=hh;rw[aby]at hx;obtain⟨c,ec,rfl⟩:=adz.mp hx;have hc:=aaA ec;have Ro:=s3.trans s5;have s05:=ym.trans Ro;have WL:gH H2 [a,b,c]:=λd hd=>by
    simp only[aar,aaJ,or_false]at hd;rcases hd with rfl|rfl|rfl
    ·exact UT _ (Lo ha)
    ·exact UU _ hb
    ·exact TU _ hc
   obtain⟨S,eS⟩:∃S,S=rws H2 [a,b,c]:=⟨_,rfl⟩;have S3:aY S:=by
    rw[eS];refine⟨rfl,λr hr=> ?_⟩;obtain⟨d,hd,rfl⟩:=aaU.mp hr;exact(WL d hd).2
   have SB:Bd 60 S:=λk l hk hl=>by
    rw[eS];rcases aW hk with rfl|rfl|rfl
    ·exact Mj a (Lo ha) l hl
    ·exact OQ b hb l hl
    ·exact Rn c hc l hl
   have tabS:∀{H':Hp}{L:Addr},ay H2 H'->H' L=some (.lst [.ref a,.ref b,.ref c]) ->Tab H' L [a,b,c] S:=λs e=>by
    obtain⟨o,w⟩:=WL.same s;have:=Ny (as:=[a,b,c]) e o
    rwa [w,<-eS]at this
   have tk:∀T,(W i T∨ ∃c∈(as 2).take (j+1),T=rws H2 [a,b,c]) ->(W i T∨ ∃c∈(as 2).take j,T=rws H2 [a,b,c])∨T=S:=λT hT=>by
    rcases hT with z|⟨d,hd,rfl⟩
    ·exact .inl (.inl z)
    ·rw[abz,ec]at hd
     rcases aaE.mp hd with z|z
     ·exact .inl (.inr ⟨d,z,rfl⟩)
     ·obtain rfl:d=c:=by simpa using z
      exact .inr eS.symm
   have WM:g8 N S 0 1=au N (aL (dR H2 a)) (aL (dR H2 b)):=by rw[eS];rfl
   have WN:g8 N S 0 2=au N (aL (dR H2 a)) (aL (dR H2 c)):=by rw[eS];rfl
   have WO:g8 N S 1 2=au N (aL (dR H2 b)) (aL (dR H2 c)):=by rw[eS];rfl
   have Ym:∀i,i<3->g8 N S i i=ent N i i:=λi hi=>by
    rw[eS];rcases aW hi with rfl|rfl|rfl
    ·exact xx ev (by decide) R0 (nQ (Lo ha))
    ·exact xx ev (by decide) R1 (nQ hb)
    ·exact xx ev (by decide) R2 (nQ hc)
   refine⟨_,rfl,_,rfl,_,rfl,(by show 3<=sizeLine;decide),λL hL=> ?_⟩;have sL:=ay.up (o:= .lst [V.ref a,.ref b,.ref c]) hL;refine⟨L,[a,b,c],S,rfl,tabS (Ro.trans sL) ao,S3,SB.mono (by decide),trivial,λH6 s6=>⟨_,rfl,?_⟩⟩;have QE:=sL.trans s6;refine oh (λc1=> ?_) (λc1=> ?_)
   ·have un:aA S=1∨aA S= -1:=by
     exact Oa c1
    have UW:=Ro.trans QE;have UX:=ym.trans UW;have at_:∀{d:Addr},d∈ [a,b,c] ->H6 d=some (.lst [.int (aL (dR H2 d) 0),.int (aL (dR H2 d) 1),.int (aL (dR H2 d) 2)]):=λhd=>UW _ _ (WL _ hd).1;have bt:∀{d:Addr},(∀i,i<3->(aL (dR H2 d) i).natAbs<2^60) -> ∀i,i<3->(aL (dR H2 d) i).natAbs<2^1000:=λh i hi=>aao (h i hi) (aaF (by decide) (by decide));refine⟨_,rfl,_,rfl,_,rfl,_,rfl,t,bs,N,a,c,_,_,rfl,hT.same UX,cg,bN.mono (by decide),at_ (by simp),at_ (by simp),bt (Mj a (Lo ha)),bt (Rn c hc),UX _ _ hP,λH7 s7=> ?_⟩;refine⟨_,rfl,_,rfl,_,rfl,t,bs,N,b,c,_,_,rfl,hT.same (UX.trans s7),cg,bN.mono (by decide),s7 _ _ (at_ (by simp)),s7 _ _ (at_ (by simp)),bt (OQ b hb),bt (Rn c hc),s7 _ _ (UX _ _ hP),λH8 s8=>⟨(by show 3<=sizeLine;decide),λF hF=> ?_⟩⟩;refine⟨_,rfl,rfl,_,rfl,?_⟩;rw[<-WM,<-WN,<-WO]at *;rcases B with⟨rfl,rfl,no⟩|⟨ob,S',rfl,eb,T0⟩
    ·exact wg (wg ⟨_,rfl,_,rfl,_,rfl,_,rfl,(by show 3<=sizeLine;decide),λT JH=>⟨_,_,rfl,⟨_,_,_,_,rfl,((s5.trans QE).trans (s7.trans (s8.trans (ay.up hF)))).trans (ay.up JH),Er ((ay.up JH) _ _ ao) (tabS (((UW.trans (s7.trans s8)).trans (ay.up hF)).trans (ay.up JH)) ao) S3 un SB Ym no tk⟩⟩⟩)
    ·refine oB ⟨_,rfl,_,rfl,F,ob,[_,_,_],[_,_,_],rfl,rfl,nZ.of ao,nZ.of (ay.up hF _ _ (s8 _ _ (s7 _ _ (QE _ _ eb)))),_,rfl,oh (λc9=> ?_) (λc9=> ?_)⟩
     ·obtain⟨_,_,_,_,_,_,_,_,WQ⟩:=T0
      exact⟨_,rfl,_,rfl,_,rfl,_,rfl,(by show 3<=sizeLine;decide),λT JH=>⟨_,_,rfl,⟨_,_,_,_,rfl,((s5.trans QE).trans (s7.trans (s8.trans (ay.up hF)))).trans (ay.up JH),Lm ((ay.up JH) _ _ ao) (tabS (((UW.trans (s7.trans s8)).trans (ay.up hF)).trans (ay.up JH)) ao) S3 un SB Ym WQ c9 tk⟩⟩⟩
     ·obtain⟨ZT,rs',e9,Tt,kk⟩:=T0
      have sk:=QE.trans (s7.trans (s8.trans (ay.up (o:= .tup [.int (g8 N S 0 1),.int (g8 N S 0 2),.int (g8 N S 1 2)]) hF)));exact⟨_,_,_,_,rfl,s5.trans sk,fS.keep (sk _ _ eb) ⟨ZT,rs',e9,Tt.same sk,kk⟩ c9 tk⟩
   ·refine⟨_,_,_,_,rfl,s5.trans QE,(B.same QE).skip λT hT=>(tk T hT).imp id λz=> ?_⟩
    subst z;intro u;refine c1 ?_;rcases u with z|z<;>rw[z]<;>rfl
  ·obtain⟨bv,tv,o9,zu,rfl,s5,B⟩:=hh
   refine⟨_,_,_,_,_,_,_,rfl,s5,B.mono λT hT=> ?_⟩;rw[eW]at hT ⊢;obtain⟨u',Mi,m',a',b',c',e',hc',rfl⟩:=hT;rw[abz,eu]at Mi;rcases aaE.mp Mi with h|h
   ·exact .inl ⟨u',h,m',a',b',c',e',hc',rfl⟩
   ·have:u'=u:=by simpa using h
    subst this;rw[e]at e';cases e';exact .inr ⟨c',by rw[aau,abE];exact hc',rfl⟩
 ·obtain⟨bv,tv,o6,o7,o8,o9,zu,rfl,s4,B⟩:=hh
  rw[aau]at B;rcases B with⟨rfl,rfl,no⟩|⟨ob,S,rfl,eb,T⟩
  ·exfalso
   obtain⟨m0,m1,m2⟩:=Lg R0 WK R1 R2;rw[show(rws H2 (as 0)).length=(as 0).length from aau _,show rws H2 (as 0)=(as 0).map (dR H2)from rfl,<-ad2]at m0;obtain⟨a0,ha0,r0⟩:=aaU.mp m0;obtain⟨b0,hb0,r1⟩:=aaU.mp m1;obtain⟨c0,hc0,r2⟩:=aaU.mp m2;obtain⟨u,hu,e⟩:=cover a0 ha0 b0 hb0;refine no (rws H2 [a0,b0,c0]) (by rw[eW];exact⟨u,by rw[abE];exact hu,_,a0,b0,c0,e,hc0,rfl⟩) ?_;rw[show rws H2 [a0,b0,c0]=[dR H2 a0,dR H2 b0,dR H2 c0]from rfl,r0,r1,r2];exact .inr rfl
  ·exact⟨_,rfl,fin (ob:=ob) s4 T⟩
inductive Gw(T1 T2 T3 T4 T5 T6:Addr)(vs:List V)(H:Hp)(Q:VK)(E:XK):Prop
 |mk(t:Addr)(bs:List Addr)(m:List (List Int))(_:vs=[.ref t])(_:Tab H t bs m)(_:aY m)(_:Bd 440 m)(_:br m)(_:bQ m=true)(_:aA m/2<=200)(_:H T1=some (eN T1))(_:H T2=some (eN T2))(_:H T3=some (eN T3))(_:H T4=some (eN T4))(_:H T5=some (eN T5))(_:H T6=some .AM)(_:∀(P x:Addr) (xs:List Addr) (y:Addr) (ys:List Addr) (B:List (List Int)) (H':Hp),ay H H'->H' P=some (.tup [.ref x,.ref y]) ->Tab H' x xs (aX m B) ->Tab H' y ys B->aY B->(aA B=1∨aA B= -1) ->Bd 900 B->H x=none->(∀b∈xs,H b=none) ->H y=none->(∀b∈ys,H b=none) ->y∉ys->cL m (aX m B) ->Q (.ref P) H')
theorem Lp{bK bg aJ bH aE bh:Addr}(F:fZ K mg "least" Af rG)(qE:dO P w K mg base dz 11 "half" sZ (Eg bK bg aJ))(Et:dO P w K mg base dz 11 "near" wW (KY bH aE bh))(mh:dO P w K mg base dz 11 "least_basis" ic (Cr aE))(ko:dO P w K mg base dz 11 "carried" kj (tH bH))(gx:dO P w K mg base dz 11 "product" ja (Ah bH)):dO P w K mg base dz 12 "least" rG (Gw bK bg aJ bH aE bh):=by
 refine F.ok rH (λvs H Q E h=> ?_) (λf cdv A outer s H vs Q E hr h=> ?_)
 ·obtain⟨t,bs,m,rfl,hT,cg,hB,ev,ab,hd,h1,h2,h3,h4,h5,h6,q⟩:=h
  rfl
 obtain⟨t,bs,m,rfl,hT,cg,hB,ev,ab,hd,h1,h2,h3,h4,h5,h6,q⟩:=h;have hu:=hr.units;refine⟨_,(nA (@az _ _ _ _ _ (oZ (aN qE hr rfl aM (af (pv 0) ah)))
  (@az _ _ _ _ _ (iu (aN Et hr rfl aM (af (pv 0) ah)) (kr rfl (aG (aI (i:=1) rH.nd rfl (Or.inl rfl)) (aG (aI (i:=2) rH.nd rfl (Or.inl rfl)) dW))))
  (@az _ _ _ _ _ (aV (i:=3) rH.nd rfl (Or.inl rfl) (aN mh hr rfl aM (af (pv 1) ah)))
  (@aP _ _ _ (aU (gz (af (aN ko hr rfl aM (af (pv 1) (af (pv 3) ah))) (af (aN gx hr rfl aM (af (pv 3) (af (pv 2) ah))) ah))))))))),?_⟩
 refine⟨_,rfl,t,bs,m,rfl,hT,cg,hB,ev,ab,hd,h1,h2,h3,trivial,λH1 s1=> ?_⟩;have D4:aA m<=401:=by omega
 have D0:=(gU ab).2.2;refine⟨_,rfl,t,bs,m,rfl,hT.same s1,cg,hB,ev,ab,aaL (show(aA m).natAbs<=401 by omega) (by decide),s1 _ _ h4,s1 _ _ h5,s1 _ _ h6,λu us r rs B P H2 NT un dt uO bB s2 eP Tu Tr=> ?_⟩;refine⟨P,_,rfl,nZ.of eP,rfl,_,_,rfl,_,_,rfl,rfl,?_⟩;have dN:aA (aX m B)<=401:=by rw[dt];exact D4
 have NB:=NU NT dN;have ym:=s1.trans s2;refine⟨_,rfl,u,us,aX m B,rfl,Tu,NT.uO,NT.ev,NB,NT,dN,ym _ _ h5,λo os S H3 s3 To S3 uS SB best=> ?_⟩;have Es:=ym.trans s3;refine⟨_,rfl,_,rfl,u,us,aX m B,o,os,S,rfl,Tu.same s3,To,NT.uO,S3,NB.mono (by decide),SB.mono (by decide),Es _ _ h4,λx xs H4 s4 fx Yn nx Tx=> ?_⟩;have Mk:=Es.trans s4;refine⟨_,rfl,_,rfl,o,os,S,r,rs,B,rfl,To.same s4,Tr.same (s3.trans s4),S3,uO,SB.mono (by decide),bB.mono (by decide),Mk _ _ h4,λy ys H5 s5 fy Yo ny Ty=> ?_⟩;refine⟨(by show 2<=sizeLine;decide),λR hR=> ?_⟩;have sR:=ay.up (o:= .tup [V.ref x,.ref y]) hR;have Tx:Tab H4 x xs (aX (aX m B) S):=Tx;have eC:aX (aX m B) S=aX m (fY S B):=kc m B S;rw[eC]at Tx;have uy:aA (fY S B)=1∨aA (fY S B)= -1:=by
  rw[mL];rcases uS with a|a<;>rcases un with b|b<;>rw[a,b]
  ·exact .inl rfl
  ·exact .inr rfl
  ·exact .inr rfl
  ·exact .inl rfl
 exact q R x xs y ys (fY S B) _ (Mk.trans (s5.trans sR)) ao ((Tx.same s5).same sR) (Ty.same sR) (cJ _) uy ((vI SB bB).mono (by decide)) (Es.none fx) (λb hb=>Es.none (Yn b hb)) (Mk.none fy) (λb hb=>Mk.none (Yo b hb)) ny (by rw[<-eC];exact(Lj NT best).from cg un)
end
end CV
namespace L2
theorem pL{a b c P Q R:Int}(ha:0<=a)(hba:0<=b-a)(hcb:0<=c-b)(hP:0<=P)(hQ:0<=Q)(hR:0<=R)(Gx:0<=a-2*P)(Ml:0<=a-2*Q)(Mm:0<=b-2*R):0<=a*b*c+4*(P*Q*R) -2*(a*(R*R)) -2*(b*(Q*Q)) -2*(c*(P*P)):=by
 have k0:=Rg (Rg hP hba) Gx;have k1:=Rg (Rg hP hcb) Gx;have k2:=Rg (Rg hP Gx) ha;have k3:=Rg (Rg hQ hba) Ml;have k4:=Rg (Rg hQ Ml) ha;have k5:=Rg (Rg hR Gx) Ml;have k6:=Rg (Rg hR Mm) ha;have k7:=Rg (Rg hba hba) ha;have k8:=Rg (Rg hba hcb) ha;have k9:=Rg (Rg hba Mm) ha;have ZV:=Rg (Rg hba ha) ha;have ZW:=Rg (Rg hcb Gx) ha;have ZX:=Rg (Rg hcb ha) ha;have ZY:=Rg (Rg Gx Mm) ha;have ZZ:=Rg (Rg Ml Mm) ha;have e:4*(a*b*c+4*(P*Q*R) -2*(a*(R*R)) -2*(b*(Q*Q)) -2*(c*(P*P)))=4*(P*(b-a)*(a-2*P))+4*(P*(c-b)*(a-2*P))+4*(P*(a-2*P)*a)+4*(Q*(b-a)*(a-2*Q))+4*(Q*(a-2*Q)*a)+4*(R*(a-2*P)*(a-2*Q))+4*(R*(b-2*R)*a)+2*((b-a)*(b-a)*a)+4*((b-a)*(c-b)*a)+2*((b-a)*(b-2*R)*a)+2*((b-a)*a*a)+2*((c-b)*(a-2*P)*a)+2*((c-b)*a*a)+2*((a-2*P)*(b-2*R)*a)+2*((a-2*Q)*(b-2*R)*a):=by grind
 (clear Mm Ml Gx hR hQ hP hcb hba ha;omega)
theorem pM{a b c P Q R:Int}(ha:0<=a)(hba:0<=b-a)(hcb:0<=c-b)(hP:0<=P)(hQ:0<=Q)(hR:0<=R)(Gx:0<=a-2*P)(Ml:0<=a-2*Q)(Mm:0<=b-2*R)(hw:0<=a+b-2*P-2*Q-2*R):0<=a*b*c-4*(P*Q*R) -2*(a*(R*R)) -2*(b*(Q*Q)) -2*(c*(P*P)):=by
 have k0:=Rg (Rg hP hba) Gx;have k1:=Rg (Rg hP hcb) Gx;have k2:=Rg (Rg hP Gx) ha;have k3:=Rg (Rg hP ha) hw;have k4:=Rg (Rg hQ hba) hw;have k5:=Rg (Rg hQ Ml) ha;have k6:=Rg (Rg hQ ha) hw;have k7:=Rg (Rg hR hba) ha;have k8:=Rg (Rg hR Mm) ha;have k9:=Rg (Rg hR ha) hw;have ZV:=Rg (Rg hba hba) ha;have ZW:=Rg (Rg hba hcb) ha;have ZX:=Rg (Rg hba Ml) Mm;have ZY:=Rg (Rg hba ha) ha;have ZZ:=Rg (Rg hba ha) hw;have k15:=Rg (Rg hcb Gx) ha;have k16:=Rg (Rg hcb ha) ha;have k17:=Rg (Rg Gx Ml) Mm;have k18:=Rg (Rg ha ha) hw;have e:4*(a*b*c-4*(P*Q*R) -2*(a*(R*R)) -2*(b*(Q*Q)) -2*(c*(P*P)))=4*(P*(b-a)*(a-2*P))+4*(P*(c-b)*(a-2*P))+2*(P*(a-2*P)*a)+2*(P*a*(a+b-2*P-2*Q-2*R))+4*(Q*(b-a)*(a+b-2*P-2*Q-2*R))+2*(Q*(a-2*Q)*a)+2*(Q*a*(a+b-2*P-2*Q-2*R))+2*(R*(b-a)*a)+2*(R*(b-2*R)*a)+2*(R*a*(a+b-2*P-2*Q-2*R))+1*((b-a)*(b-a)*a)+4*((b-a)*(c-b)*a)+2*((b-a)*(a-2*Q)*(b-2*R))+1*((b-a)*a*a)+1*((b-a)*a*(a+b-2*P-2*Q-2*R))+2*((c-b)*(a-2*P)*a)+2*((c-b)*a*a)+2*((a-2*P)*(a-2*Q)*(b-2*R))+1*(a*a*(a+b-2*P-2*Q-2*R)):=by grind
 (clear hw Mm Ml Gx hR hQ hP hcb hba ha;omega)
theorem Uh{a b c p q r:Int}(ha:0<=a)(ab:a<=b)(bc:b<=c)(p1: -a<=2*p)(p2:2*p<=a)(q1: -a<=2*q)(q2:2*q<=a)(r1: -b<=2*r)(r2:2*r<=b)
  (w1:0<=a+b+2*p+2*q+2*r)(w2:0<=a+b+2*p-2*q-2*r)(w3:0<=a+b-2*p+2*q-2*r)(w4:0<=a+b-2*p-2*q+2*r):
  0<=a*b*c+4*(p*q*r) -2*(a*(r*r)) -2*(b*(q*q)) -2*(c*(p*p)):=by
 have n2:∀x:Int,-x* -x=x*x:=λx=>by grind
 have m1: -p* -q*r=p*q*r:=by grind
 have m2: -p*q* -r=p*q*r:=by grind
 have m3:p* -q* -r=p*q*r:=by grind
 have m4: -p*q*r= -(p*q*r):=by grind
 have m5:p* -q*r= -(p*q*r):=by grind
 have m6:p*q* -r= -(p*q*r):=by grind
 have m7: -p* -q* -r= -(p*q*r):=by grind
 have np:=n2 p;have nq:=n2 q;have nr:=n2 r;rcases abc 0 p with hp|hp<;>rcases abc 0 q with hq|hq<;>rcases abc 0 r with hr|hr
 ·exact pL ha (by omega) (by omega) hp hq hr (by omega) (by omega) (by omega)
 ·have:=pM (P:=p) (Q:=q) (R:= -r) (a:=a) (b:=b) (c:=c) ha (by omega) (by omega) hp hq (by omega) (by omega) (by omega) (by omega) (by omega)
  rw[nr,m6]at this
  (clear hr hq hp nr nq np m1 n2 w4 w3 w2 w1 r2 r1 q2 q1 p2 p1 bc ab ha;omega)
 ·have:=pM (P:=p) (Q:= -q) (R:=r) (a:=a) (b:=b) (c:=c) ha (by omega) (by omega) hp (by omega) hr (by omega) (by omega) (by omega) (by omega)
  rw[nq,m5]at this
  (clear hr hq hp nr nq np m1 n2 w4 w3 w2 w1 r2 r1 q2 q1 p2 p1 bc ab ha;omega)
 ·have:=pL (P:=p) (Q:= -q) (R:= -r) (a:=a) (b:=b) (c:=c) ha (by omega) (by omega) hp (by omega) (by omega) (by omega) (by omega) (by omega)
  rw[nq,nr,m3]at this;omega
 ·have:=pM (P:= -p) (Q:=q) (R:=r) (a:=a) (b:=b) (c:=c) ha (by omega) (by omega) (by omega) hq hr (by omega) (by omega) (by omega) (by omega)
  rw[np,m4]at this
  (clear hr hq hp nr nq np m1 n2 w4 w3 w2 w1 r2 r1 q2 q1 p2 p1 bc ab ha;omega)
 ·have:=pL (P:= -p) (Q:=q) (R:= -r) (a:=a) (b:=b) (c:=c) ha (by omega) (by omega) (by omega) hq (by omega) (by omega) (by omega) (by omega)
  rw[np,nr,m2]at this;omega
 ·have:=pL (P:= -p) (Q:= -q) (R:=r) (a:=a) (b:=b) (c:=c) ha (by omega) (by omega) (by omega) (by omega) hr (by omega) (by omega) (by omega)
  rw[np,nq,m1]at this;omega
 ·have:=pM (P:= -p) (Q:= -q) (R:= -r) (a:=a) (b:=b) (c:=c) ha (by omega) (by omega) (by omega) (by omega) (by omega) (by omega) (by omega) (by omega) (by omega)
  rw[np,nq,nr,m7]at this
  (clear hr hq hp nr nq np m1 n2 w4 w3 w2 w1 r2 r1 q2 q1 p2 p1 bc ab ha;omega)
end L2
namespace L2
open PySem PySem.Spec PyProof.Rows
theorem QF{M:List (List Int)}(ev:br M)(E:List (List Int)){i j:Nat}(hi:i<3)(hj:j<3):ent (aX M E) i j=
  ent E i 0*(ent M 0 0*ent E j 0+ent M 0 1*ent E j 1+ent M 0 2*ent E j 2)+ent E i 1*(ent M 0 1*ent E j 0+ent M 1 1*ent E j 1+ent M 1 2*ent E j 2)+ent E i 2*(ent M 0 2*ent E j 0+ent M 1 2*ent E j 1+ent M 2 2*ent E j 2):=by
 obtain⟨Gr,Gs,Ib⟩:=ev.sym;rw[jr M E hi hj,aT,Gr,Gs,Ib]
 grind
structure tX(M:List (List Int)):Prop where
 pos:0<ent M 0 0
 CN:ent M 0 0<=ent M 1 1
 Gf:ent M 1 1<=ent M 2 2
 p: -(ent M 0 0)<=2*ent M 0 1/\2*ent M 0 1<=ent M 0 0
 q: -(ent M 0 0)<=2*ent M 0 2/\2*ent M 0 2<=ent M 0 0
 r: -(ent M 1 1)<=2*ent M 1 2/\2*ent M 1 2<=ent M 1 1
 prod:ent M 0 0*ent M 1 1*ent M 2 2<=2*aA M
noncomputable def q3(M:List (List Int))(x y z:Int):Int:=ent M 0 0*(x*x)+ent M 1 1*(y*y)+ent M 2 2*(z*z)+2*(ent M 0 1*(x*y))+2*(ent M 0 2*(x*z))+2*(ent M 1 2*(y*z))
theorem tY{M:List (List Int)}(ev:br M)(h:cL M M)(x0 x1 x2 y0 y1 y2 z0 z1 z2:Int)(un:cy (aA [[x0,x1,x2],[y0,y1,y2],[z0,z1,z2]])):
  ent M 0 0<=q3 M x0 x1 x2/\(q3 M x0 x1 x2=ent M 0 0->ent M 1 1<=q3 M y0 y1 y2/\(q3 M y0 y1 y2=ent M 1 1->ent M 2 2<=q3 M z0 z1 z2)):=by
 have k:=h.le [[x0,x1,x2],[y0,y1,y2],[z0,z1,z2]] ⟨rfl,λr hr=>by
  simp only[aar,aaJ,or_false]at hr;rcases hr with rfl|rfl|rfl<;>rfl⟩ un
 have e0:ent (aX M [[x0,x1,x2],[y0,y1,y2],[z0,z1,z2]]) 0 0=q3 M x0 x1 x2:=by
  rw[QF ev _ (by decide) (by decide)];show x0*(ent M 0 0*x0+ent M 0 1*x1+ent M 0 2*x2)+x1*(ent M 0 1*x0+ent M 1 1*x1+ent M 1 2*x2)+x2*(ent M 0 2*x0+ent M 1 2*x1+ent M 2 2*x2)=_;unfold q3
  grind
 have e1:ent (aX M [[x0,x1,x2],[y0,y1,y2],[z0,z1,z2]]) 1 1=q3 M y0 y1 y2:=by
  rw[QF ev _ (by decide) (by decide)];show y0*(ent M 0 0*y0+ent M 0 1*y1+ent M 0 2*y2)+y1*(ent M 0 1*y0+ent M 1 1*y1+ent M 1 2*y2)+y2*(ent M 0 2*y0+ent M 1 2*y1+ent M 2 2*y2)=_;unfold q3
  grind
 have e2:ent (aX M [[x0,x1,x2],[y0,y1,y2],[z0,z1,z2]]) 2 2=q3 M z0 z1 z2:=by
  rw[QF ev _ (by decide) (by decide)];show z0*(ent M 0 0*z0+ent M 0 1*z1+ent M 0 2*z2)+z1*(ent M 0 1*z0+ent M 1 1*z1+ent M 1 2*z2)+z2*(ent M 0 2*z0+ent M 1 2*z1+ent M 2 2*z2)=_;unfold q3
  grind
 unfold Rm at k;rw[e0,e1,e2]at k
 (clear e2 e1 e0;omega)
theorem QG{a b x y:Int}(h1:b<=x)(h2:b<=y){p:Int}(e1:x=a+b+2*p)(e2:y=a+b+2* -p): -a<=2*p/\2*p<=a:=by omega
theorem Ob{c x w:Int}(h:c<=x)(e:x=c+w):0<=w:=by omega
theorem rS(M:List (List Int)):q3 M 1 0 0=ent M 0 0/\q3 M 0 1 0=ent M 1 1/\q3 M 0 0 1=ent M 2 2:=by
 unfold q3;refine⟨?_,?_,?_⟩<;>grind
theorem QH{M:List (List Int)}(ev:br M)(h:cL M M)(x0 x1 x2 y0 y1 y2 z0 z1 z2:Int)(un:cy (aA [[x0,x1,x2],[y0,y1,y2],[z0,z1,z2]])):ent M 0 0<=q3 M x0 x1 x2:=(tY ev h _ _ _ _ _ _ _ _ _ un).1
theorem Eu{M:List (List Int)}(ev:br M)(h:cL M M)(y0 y1 y2 z0 z1 z2:Int)(un:cy (aA [[1,0,0],[y0,y1,y2],[z0,z1,z2]])):ent M 1 1<=q3 M y0 y1 y2:=((tY ev h _ _ _ _ _ _ _ _ _ un).2 (rS M).1).1
theorem oW{M:List (List Int)}(ev:br M)(h:cL M M)(z0 z1 z2:Int)(un:cy (aA [[1,0,0],[0,1,0],[z0,z1,z2]])):ent M 2 2<=q3 M z0 z1 z2:=((tY ev h _ _ _ _ _ _ _ _ _ un).2 (rS M).1).2 (rS M).2.1
theorem Ik{M:List (List Int)}(ev:br M):aA M=ent M 0 0*ent M 1 1*ent M 2 2+2*(ent M 0 1*ent M 0 2*ent M 1 2) -ent M 0 0*(ent M 1 2*ent M 1 2) -ent M 1 1*(ent M 0 2*ent M 0 2) -ent M 2 2*(ent M 0 1*ent M 0 1):=by
 obtain⟨Gr,Gs,Ib⟩:=ev.sym;rw[dJ,Gr,Gs,Ib]
 grind
theorem Lq{a b c p q r d:Int}(gs:0<=a*b*c+4*(p*q*r) -2*(a*(r*r)) -2*(b*(q*q)) -2*(c*(p*p)))(dt:d=a*b*c+2*(p*q*r) -a*(r*r) -b*(q*q) -c*(p*p)):a*b*c<=2*d:=by omega
theorem Cs{M:List (List Int)}(ev:br M)(ab:bQ M=true)(h:cL M M):tX M:=by
 have a0:=(gU ab).1;have dt:=Ik ev;have l1:ent M 0 0<=ent M 1 1:=(rS M).2.1▸QH ev h 0 1 0 1 0 0 0 0 1 (.inr (by decide));have l2:ent M 1 1<=ent M 2 2:=(rS M).2.2▸Eu ev h 0 0 1 0 1 0 (.inr (by decide));have hp:=QG (a:=ent M 0 0) (p:=ent M 0 1) (Eu ev h 1 1 0 0 0 1 (.inl (by decide))) (Eu ev h (-1) 1 0 0 0 1 (.inl (by decide))) (by unfold q3;grind) (by unfold q3;grind);have hq:=QG (a:=ent M 0 0) (p:=ent M 0 2) (oW ev h 1 0 1 (.inl (by decide))) (oW ev h (-1) 0 1 (.inl (by decide))) (by unfold q3;grind) (by unfold q3;grind);have hr:=QG (a:=ent M 1 1) (p:=ent M 1 2) (oW ev h 0 1 1 (.inl (by decide))) (oW ev h 0 (-1) 1 (.inl (by decide))) (by unfold q3;grind) (by unfold q3;grind);have w1:0<=ent M 0 0+ent M 1 1+2*ent M 0 1+2*ent M 0 2+2*ent M 1 2:=Ob (oW ev h 1 1 1 (.inl (by decide))) (by unfold q3;grind);have w2:0<=ent M 0 0+ent M 1 1+2*ent M 0 1-2*ent M 0 2-2*ent M 1 2:=Ob (oW ev h (-1) (-1) 1 (.inl (by decide))) (by unfold q3;grind);have w3:0<=ent M 0 0+ent M 1 1-2*ent M 0 1+2*ent M 0 2-2*ent M 1 2:=Ob (oW ev h 1 (-1) 1 (.inl (by decide))) (by unfold q3;grind);have w4:0<=ent M 0 0+ent M 1 1-2*ent M 0 1-2*ent M 0 2+2*ent M 1 2:=Ob (oW ev h (-1) 1 1 (.inl (by decide))) (by unfold q3;grind);exact⟨a0,l1,l2,hp,hq,hr,Lq (Uh (aas a0) l1 l2 hp.1 hp.2 hq.1 hq.2 hr.1 hr.2 w1 w2 w3 w4) dt⟩
theorem tX.sizes{M:List (List Int)}(h:tX M):ent M 2 2<=2*aA M:=by
 have a0:=h.pos;have l1:=h.CN;have l2:=h.Gf;have ab:1<=ent M 0 0*ent M 1 1:=by
  have:=abT a0 (show 0<ent M 1 1 by omega);omega
 have k:=aan ab (show 0<=ent M 2 2 by omega);have:=h.prod
 (clear ab l2 l1 a0;omega)
theorem tX.bd{M:List (List Int)}(ev:br M)(h:tX M)(d:aA M<=401):Bd 30 M:=λi j hi hj=>by
 have s:=h.sizes;have a0:=h.pos;have l1:=h.CN;have l2:=h.Gf;obtain⟨p1,p2⟩:=h.p;obtain⟨q1,q2⟩:=h.q;obtain⟨r1,r2⟩:=h.r;obtain⟨Gr,Gs,Ib⟩:=ev.sym;have:(ent M i j).natAbs<=802:=by
  rcases aW hi with rfl|rfl|rfl<;>rcases aW hj with rfl|rfl|rfl<;>(clear hj hi;omega)
 exact aaL this (by decide)
theorem cL.all{m M:List (List Int)}(ev:br m)(c:aY m)(ab:bQ m=true)(d:aA m<=401)(h:cL m M):tX M/\br M/\aY M/\bQ M=true/\aA M=aA m/\Bd 30 M:=by
 obtain⟨B,cB,uB,e⟩:=h.GG;have WR:=h.MY ev c;have dM:aA M=aA m:=by rw[e];exact wG uB
 have Yp:bQ M=true:=by rw[e];exact qc (fG ev c) ab cB uB
 have sm:=Cs WR Yp (h.self c);exact⟨sm,WR,h.uO,Yp,dM,sm.bd WR (by omega)⟩
noncomputable def Il(m m':List (List Int)):Prop:=∃U,aY U/\cy (aA U)/\aX m U=m'
theorem Gy{m a b:List (List Int)}(c:aY m)(ua:cy (aA a))(ub:cy (aA b)):Il (aX m a) (aX m b):=
 ⟨fY b (lI a),mZ _ _,mY ub (kY ua),by rw[<-kc,rj c ua]⟩
theorem Lr{m:List (List Int)}(c:aY m):Il m m:=⟨kI 1,cJ _,.inl rfl,by unfold aX;rw[yU,yT c,wH c]⟩
theorem Im{m m' M M':List (List Int)}(ev:br m)(c:aY m)(h:cL m M)(h':cL m' M')(k:Il m m'):M=M':=by
 obtain⟨U,_,uU,e⟩:=k;rw[<-e]at h';exact h.uniq ev c (h'.from c uU)
theorem Ls{m m' B B':List (List Int)}(c':aY m')(WI:cy (aA B'))(e:aX m B=aX m' B'):aX m (fY (lI B') B)=m':=by
 rw[<-kc,e,rj c' WI]
theorem Oc{m m' B:List (List Int)}(ev:br m)(c:aY m)(ab:bQ m=true)(hB:Bd 440 m)(Wk:Bd 440 m')(e:aX m B=m'):Bd 700 B:=λi j hi hj=>by
 refine aao (mS ev c ab hB (x:=λk=>ent B i k) ?_ hj) (aaF (by decide) (by decide));have k:=Wk i i hi hi;rw[<-e,jr m B hi hi]at k;exact aao k (aaF (by decide) (by decide))
end L2
set_option maxHeartbeats 1000000
namespace CV
open PySem L2
section
variable{P:Program}{w:World}{K:PySem.W.Frag}{mg:Str->Option Value}{base:Heap}
inductive Lu(vs:List V)(H:Hp)(Q:VK)(E:XK):Prop
 |mk(t:Addr)(bs:List Addr)(m:List (List Int))(_:vs=[.ref t])(_:Tab H t bs m)(_:aY m)(_:Bd 1000 m)(_:cy (aA m))(_:True)(_:∀r bs H',ay H H'->H r=none->(∀b∈bs,H b=none) ->r∉bs->Tab H' r bs (lI m) ->Q (.ref r) H')
theorem Od(F:fZ K mg "back" DS wV)(jg:dO P w K mg base dz 4 "is_basis" jb tW)(bT:dO P w K mg base dz 4 "determinant" dZ zh)(pH:dO P w K mg base dz 4 "cover" pG Ai):dO P w K mg base dz 5 "back" wV Lu:=by
 refine F.ok Gh (λvs H Q E h=> ?_) (λf cdv A outer s H vs Q E hr h=> ?_)
 ·obtain⟨t,bs,m,rfl,hT,cg,hB,hU,hP,q⟩:=h
  rfl
 obtain⟨t,bs,m,rfl,hT,cg,hB,hU,hP,q⟩:=h;have hu:=hr.units;refine⟨_,(nA (@az _ _ _ _ _ (eF (m9 (iG (aN jg hr rfl aM (af (pv 0) ah)))) (@aP _ _ _ vW) eE)
  (@az _ _ _ _ _ (aV (i:=1) Gh.nd rfl (Or.inr rfl) (aN bT hr rfl aM (af (pv 0) ah)))
  (@aP _ _ _ (aU (iK (N2:=["table","unit"]) (te:=(qY 1 (Fd K (bU 0)) (dP 0) (ku (rI lH λi j=> .int (i*j)) (bU 3) (bU 0)))) rfl (eT (aN pH hr rfl aM (af (pv 0) ah))) (by kernel_rfl) rfl (λ_ _ _=>by exact jE (iK (N2:=["row","table","unit"]) (te:=(ku (rI lH λi j=> .int (i*j)) (bU 3) (bU 0))) rfl (eT (pv 0)) (by kernel_rfl) rfl (λ_ _ _=>by exact jE (av aF (pv 3) (pv 0))))))))))),?_⟩
 have inU:Rc (.int (aA m)) [.int 1,.int (-1)]=true:=by
  rcases hU with z|z<;>rw[z]<;>rfl
 refine⟨_,rfl,t,bs,m,rfl,hT,cg,hB,hP,λH1 s1=>⟨_,rfl,?_⟩⟩;rw[inU];refine oB ?_;refine⟨_,rfl,t,bs,m,rfl,hT.same s1,cg,hB,trivial,λH2 s2=> ?_⟩;have s12:=s1.trans s2;refine⟨_,rfl,t,bs,m,rfl,hT.same s12,cg,hB.mono (by decide),λr rs H3 s3 fr frs nr Tr=> ?_⟩;have l1:(rs.map V.ref).length=3:=by rw[aau,<-Tr.2.length];rfl
 refine⟨r,rfl,⟨_,aZ.of Tr.1⟩,λD hD=>vJ (ji (aZ.of Tr.1)) l1 hD (λi j=>aA m*ent (iX m) i j) (λi x hi ex H4 Q4 s4 k4=> ?_) (λbs' H4 s4 fr nD JH=>q D bs' H4 (s12.trans (s3.trans s4)) (s12.none (s3.none hD)) (λb hb=>s12.none (s3.none (fr b hb))) nD JH)⟩;obtain⟨b,e1,e2,_⟩:=bC (Tr.same s4) (cJ _) hi;have ex':x= .ref b:=by
  have q1:=gS ex;rw[e1]at q1;exact(Option.some.inj q1).symm
 subst ex';refine⟨_,rfl,b,rfl,⟨_,aZ.of e2⟩,λD2 CO=>pC (ji (aZ.of e2)) rfl CO (λj=>aA m*ent (iX m) i j) (λj x hj NI H5 Q5 s5 k5=> ?_) (λH5 s5 e5=>k4 D2 H5 CO s5 e5)⟩;have ex':x= .int (ent (iX m) i j):=by
  rcases aW hj with rfl|rfl|rfl<;>exact(Option.some.inj NI).symm
 subst ex';refine⟨_,rfl,_,rfl,_,_,rfl,rfl,⟨aK (MX hB) (by decide),?_⟩,k5 H5 (ay.refl _)⟩;rw[kJ m hi hj];exact aK (nk hB j i) (by decide)
inductive Gz(T1 T2 T3 T4 T5 T6:Addr)(vs:List V)(H:Hp)(Q:VK)(E:XK):Prop
 |mk(t1:Addr)(b1:List Addr)(m1:List (List Int))(t2:Addr)(b2:List Addr)(m2:List (List Int))(_:vs=[.ref t1,.ref t2])(_:Tab H t1 b1 m1)(_:aY m1)(_:Bd 440 m1)(_:br m1)(_:bQ m1=true)(_:aA m1/2<=200)(_:Tab H t2 b2 m2)(_:aY m2)(_:Bd 440 m2)(_:br m2)(_:bQ m2=true)(_:aA m2/2<=200)(_:H T1=some (eN T1))(_:H T2=some (eN T2))(_:H T3=some (eN T3))(_:H T4=some (eN T4))(_:H T5=some (eN T5))(_:H T6=some .AM)(_:Il m1 m2-> ∀(r:Addr) (rs:List Addr) (B:List (List Int)) (H':Hp),ay H H'->Tab H' r rs B->aY B->cy (aA B) ->Bd 700 B->aX m1 B=m2->H r=none->(∀b∈rs,H b=none) ->r∉rs->Q (.ref r) H')(_:¬Il m1 m2-> ∀H':Hp,ay H H'->Q .gF H')
theorem Lv{bK bg aJ bH aE bh:Addr}(F:fZ K mg "alike" Ag rJ)(qE:dO P w K mg base dz 12 "half" sZ (Eg bK bg aJ))(vP:dO P w K mg base dz 12 "least" rG (Gw bK bg aJ bH aE bh))(Ew:dO P w K mg base dz 12 "back" wV Lu)(gx:dO P w K mg base dz 12 "product" ja (Ah bH)):dO P w K mg base dz 13 "alike" rJ (Gz bK bg aJ bH aE bh):=by
 refine F.ok oR (λvs H Q E h=> ?_) (λf cdv A outer s H vs Q E hr h=> ?_)
 ·obtain⟨t1,b1,m1,t2,b2,m2,rfl,T1,c1,d1,e1,a1,h1,T2,c2,d2,e2,a2,h2,p1,p2,p3,p4,p5,p6,qe,qn⟩:=h
  rfl
 obtain⟨t1,b1,m1,t2,b2,m2,rfl,T1,c1,d1,e1,a1,h1,T2,c2,d2,e2,a2,h2,p1,p2,p3,p4,p5,p6,qe,qn⟩:=h;have hu:=hr.units;refine⟨_,(nA (@az _ _ _ _ _ (oZ (aN qE hr rfl aM (af (pv 0) ah)))
  (@az _ _ _ _ _ (oZ (aN qE hr rfl aM (af (pv 1) ah)))
  (@az _ _ _ _ _ (iu (aN vP hr rfl aM (af (pv 0) ah)) (kr rfl (aG (aI (i:=2) oR.nd rfl (Or.inl rfl)) (aG (aI (i:=3) oR.nd rfl (Or.inl rfl)) dW))))
  (@az _ _ _ _ _ (iu (aN vP hr rfl aM (af (pv 1) ah)) (kr rfl (aG (aI (i:=4) oR.nd rfl (Or.inl rfl)) (aG (aI (i:=5) oR.nd rfl (Or.inl rfl)) dW))))
  (@az _ _ _ _ _ (eF (cQ (zK hu) (pv 2) (pv 4) (cP _)) (@aP _ _ _ (aU pX)) eE)
  (@aP _ _ _ (aU (aN gx hr rfl aM (af (aN Ew hr rfl aM (af (pv 5) ah)) (af (pv 3) ah))))))))))),?_⟩
 refine⟨_,rfl,t1,b1,m1,rfl,T1,c1,d1,e1,a1,h1,p1,p2,p3,trivial,λH1 s1=> ?_⟩;refine⟨_,rfl,t2,b2,m2,rfl,T2.same s1,c2,d2,e2,a2,h2,s1 _ _ p1,s1 _ _ p2,s1 _ _ p3,trivial,λH2 s2=> ?_⟩;have ym:=s1.trans s2;refine⟨_,rfl,t1,b1,m1,rfl,T1.same ym,c1,d1,e1,a1,h1,ym _ _ p1,ym _ _ p2,ym _ _ p3,ym _ _ p4,ym _ _ p5,ym _ _ p6,λP x xs y ys B H3 s3 eP Tx Ty B3 uB bB fx Yn fy Yo ny LO=> ?_⟩;refine⟨P,_,rfl,nZ.of eP,rfl,_,_,rfl,_,_,rfl,rfl,?_⟩;have Es:=ym.trans s3;refine⟨_,rfl,t2,b2,m2,rfl,T2.same Es,c2,d2,e2,a2,h2,Es _ _ p1,Es _ _ p2,Es _ _ p3,Es _ _ p4,Es _ _ p5,Es _ _ p6,λP2 x2 xs2 y2 ys2 B2 H4 s4 eP2 Tx2 Ty2 B32 Ui Yq fx2 aaa fy2 aab ny2 LO2=> ?_⟩;refine⟨P2,_,rfl,nZ.of eP2,rfl,_,_,rfl,_,_,rfl,rfl,?_⟩;have Mk:=Es.trans s4;refine⟨_,rfl,_,rfl,Gq (Tx.same s4) Tx2 ⟨_,rfl,?_⟩⟩
 by_cases c:aX m1 B=aX m2 B2
 ·refine wj c ?_
  refine⟨_,rfl,y2,ys2,B2,rfl,Ty2,B32,Yq.mono (by decide),Ui,trivial,λz zs H5 s5 fz fzs nz Tz=> ?_⟩;refine⟨_,rfl,z,zs,lI B2,y,ys,B,rfl,Tz,(Ty.same s4).same s5,Eo _,B3,(Ka Yq Ui).mono (by decide),bB.mono (by decide),s5 _ _ (Mk _ _ p4),λw ws H6 s6 fw Yr nw Tw=> ?_⟩;have k:=Ls c2 Ui c;exact qe ⟨_,mZ _ _,mY (kY Ui) uB,k⟩ w ws (fY (lI B2) B) H6 (Mk.trans (s5.trans s6)) Tw (mZ _ _) (mY (kY Ui) uB) (Oc e1 c1 a1 d1 d2 k) k (Mk.none (s5.none fw)) (λb hb=>Mk.none (s5.none (Yr b hb))) nw
 ·refine oh (λ_=> ?_) (λz=> ?_)
  ·exact qn (λk=>c (Im e1 c1 LO LO2 k)) _ Mk
  ·exact absurd (by simpa using c) z
end
end CV
namespace L2
open PySem PySem.Spec PyProof.Rows
section
variable{prog:Program}{w:World}{A:Around}{E:Value->Shared->Prop}{s:Shared}
end
section
variable{X:Cx}
end
section
variable{X:Cx}{pins:List (Addr×Obj)}{σ:St}{H:Hp}{s:Shared}
open Classical in
end
end L2
set_option maxHeartbeats 1000000
namespace CV
open PySem L2
section
variable{P:Program}{w:World}{K:PySem.W.Frag}{mg:Str->Option Value}{base:Heap}
inductive OR(K:PySem.W.Frag)(vs:List V)(H:Hp)(Q:VK)(E:XK):Prop
 |mk(a:Addr)(ns:List Int)(k:Int)(_:vs=[.ref a,.int k])(_:aZ K H a (ns.map V.int))(_:ns.length<=63)(_:0<=k)(_:k<1000)(_:∀B H',ay H H'->H B=none->mO H' B->Q (.ref B) H')
theorem Ct(F:fZ K mg "_law_bag" qu kQ)(ie:mg "len"=none)(rT:mg "abs"=none):dO P w K mg base dz 1 "_law_bag" kQ (OR K):=by
 refine F.ok jv (λvs H Q E h=> ?_) (λf cdv A outer s H vs Q E hr h=> ?_)
 ·obtain⟨a,ns,k,rfl,hS,h63,h0,hk,q⟩:=h
  rfl
 obtain⟨a,ns,k,rfl,hS,h63,h0,hk,q⟩:=h;have hu:=hr.units;refine⟨_,(nA (@az _ _ _ _ _ (aV (i:=2) jv.nd rfl (Or.inl rfl) ak)
  (@az _ _ _ _ _ (eF (cQ RX (pv 1) (cR gc rfl ie ab4 (af (pv 0) ah)) (cP _)) (@aP _ _ _ (aV (i:=2) jv.nd rfl (Or.inl rfl) (aO aC (pv 0) (pv 1) (λ_ _=>rfl)))) eE)
  (@az _ _ _ _ _ (aV (i:=3) jv.nd rfl (Or.inl rfl) ak)
  (@az _ _ _ _ _ (eF (cQ Je (cR v8 rfl rT acM (af (pv 2) ah)) (av Jc ak ak) (cP _)) (@aP _ _ _ (aV (i:=3) jv.nd rfl (Or.inl rfl) (cR v8 rfl rT acM (af (pv 2) ah)))) eE)
  (@aP _ _ _ (aU (eU (af (pv 3) (af (av ck (av iY (av jA (av ck (av ck (av iY (pv 2) ak) (av jA ak (pv 1))) ak) ak) ak) ak) ah)))))))))),?_⟩
 have hl:(ns.map V.int).length=ns.length:=aau _;refine⟨_,rfl,_,rfl,a,_,rfl,.inl hS,_,_,rfl,rfl,_,rfl,Kd (λσ' H'=> ∃c:Int,H'=H/\σ'=[some (.ref a),some (.int k),some (.int c),none]) ?_ (λc hK=> ?_) ⟨0,rfl,rfl⟩⟩
 rotate_left
 ·have c':k<(((ns.map V.int).length:Nat):Int):=of_decide_eq_true c
  rw[hl]at c';obtain⟨z,hz⟩:=MU h0 c';exact⟨_,rfl,_,rfl,a,_,_,_,rfl,rfl,hS,hz,hK _ _ ⟨z,rfl,rfl⟩⟩
 rintro σ' H' ⟨c,rfl,rfl⟩;refine⟨_,rfl,c,rfl,_,_,rfl,rfl,⟨by decide,by decide,by decide⟩,_,_,rfl,rfl,_,rfl,Kd (λσ' H2=> ∃g:Int,0<=g/\H2=H'/\σ'=[some (.ref a),some (.int k),some (.int c),some (.int g)]) ?_ (λ_ hK=> ?_) ⟨0,aaZ 0,rfl,rfl⟩⟩
 rotate_left
 ·exact⟨_,rfl,c,rfl,hK _ _ ⟨_,by split<;>(clear hK q hl hu hk h0 h63 rT ie;omega),rfl,rfl⟩⟩
 rintro σ' H2 ⟨g,hg,rfl,rfl⟩;refine⟨_,rfl,_,rfl,_,_,rfl,rfl,(by show(0:Int)<2147483629;decide),_,rfl,_,_,rfl,rfl,.inl ⟨by decide,by decide⟩,_,_,rfl,rfl,_,_,rfl,rfl,_,_,rfl,rfl,.inr ⟨by decide,by decide⟩,_,_,rfl,rfl,(by show(0:Int)<2147483629;decide),_,_,rfl,rfl,(by show 2<=sizeLine;decide),λB hB=> ?_⟩;exact q B _ (ay.up hB) hB ⟨g,_,ao,hg,by have:=abq ((c%2147483629+7919*k+13)*69621) (show(2147483629:Int)≠0 by decide);(clear hB q hg hl hu hk h0 h63 rT ie;omega)⟩
inductive xB(vs:List V)(H:Hp)(Q:VK)(E:XK):Prop
 |mk(B:Addr)(many:Int)(_:vs=[.ref B,.int many])(_:mO H B)(_:0<many)(_:many.natAbs.log2<9000)(_:∀(d:Int) H',0<=d->d<many->SB B H H'->Q (.int d) H')
theorem Aw(F:fZ K mg "_law_take" oS f9):dO P w K mg base dz 1 "_law_take" f9 xB:=by
 refine F.ok rK (λvs H Q E h=> ?_) (λf cdv A outer s H vs Q E hr h=> ?_)
 ·obtain⟨B,many,rfl,⟨g,s,eB,hg,hs⟩,hm,hm2,q⟩:=h
  rfl
 obtain⟨B,many,rfl,⟨g,s,eB,hg,hs⟩,hm,hm2,q⟩:=h;have hu:=hr.units;refine⟨_,(nA (@az _ _ _ _ _ (eF (cQ uA (aO aC (pv 0) ak (λ_ _=>rfl)) ak (cP _)) (@az _ _ _ _ _ (aV (i:=2) rK.nd rfl (Or.inl rfl) (av iY (aO aC (pv 0) ak (λ_ _=>rfl)) (pv 1)))
  (@az _ _ _ _ _ (iu (av oJ (aO aC (pv 0) ak (λ_ _=>rfl)) (pv 1)) (vX (pv 0) ak set_list))
  (@aP _ _ _ (aU (pv 2))))) eE)
  (@az _ _ _ _ _ (iu (av iY (av ck (av jA (aO aC (pv 0) ak (λ_ _=>rfl)) ak) ak) ak) (vX (pv 0) ak set_list))
  (@aP _ _ _ (aU (av iY (av fP (av iY (av jA (av fP (aO aC (pv 0) ak (λ_ _=>rfl)) ak) ak) ak) ak) (pv 1))))))),?_⟩
 refine⟨_,rfl,B,_,_,_,rfl,rfl,aZ.of eB,rfl,_,_,rfl,rfl,_,rfl,oh (λc=> ?_) (λc=> ?_)⟩
 ·refine⟨_,rfl,B,_,_,_,rfl,rfl,aZ.of eB,rfl,_,rfl,_,_,rfl,rfl,hm,?_⟩
  refine⟨_,rfl,B,_,_,_,rfl,rfl,aZ.of eB,rfl,_,rfl,_,_,rfl,rfl,⟨hm,hm2⟩,_,rfl,B,_,_,0,rfl,rfl,eB,rfl,?_⟩;exact⟨_,rfl,q (g%many) _ (abq _ (by omega)) (abr _ hm) (Ke (adG hg (by omega)) hs)⟩
 ·refine⟨_,rfl,B,_,_,_,rfl,rfl,aZ.of eB,rfl,_,_,rfl,rfl,.inr ⟨by decide,by decide⟩,_,_,rfl,rfl,_,_,rfl,rfl,(by show(0:Int)<2147483647;decide),_,rfl,B,_,_,1,rfl,rfl,eB,rfl,?_⟩
  have eB2:upd H B (.lst ([V.int g,.int s].set 1 (.int ((s*48271+11)%2147483647)))) B=some (.lst [.int g,.int ((s*48271+11)%2147483647)]):=ao;refine⟨_,rfl,B,_,_,_,rfl,rfl,aZ.of eB2,rfl,_,_,rfl,rfl,⟨by decide,by decide⟩,_,_,rfl,rfl,.inr ⟨by decide,by decide⟩,_,_,rfl,rfl,(by show(0:Int)<2147483629;decide),_,_,rfl,rfl,⟨by decide,by decide⟩,_,rfl,_,_,rfl,rfl,hm,?_⟩;exact q _ _ (abq _ (by omega)) (abr _ hm) (Ke hg (abq _ (by decide)))
inductive Ax(vs:List V)(H:Hp)(Q:VK)(E:XK):Prop
 |mk(t:Addr)(bs:List Addr)(m:List (List Int))(_:vs=[.ref t])(_:Tab H t bs m)(_:aY m)(_:Bd 1000 m)(_:Q (.int (aA m)) H)
theorem pP(F:fZ K mg "_law_determinant" iA dh):dO P w K mg base dz 1 "_law_determinant" dh Ax:=by
 refine F.ok g7 (λvs H Q E h=> ?_) (λf cdv A outer s H vs Q E hr h=> ?_)
 ·obtain⟨t,bs,m,rfl,hT,cg,hB,q⟩:=h
  rfl
 obtain⟨t,bs,m,rfl,hT,cg,hB,q⟩:=h;have hu:=hr.units;refine⟨_,(nA (@az _ _ _ _ _ (aV (i:=1) g7.nd rfl (Or.inl rfl) (av aF (aO aC (aO aC (pv 0) ak (λ_ _=>rfl)) ak (λ_ _=>rfl)) (av d9 (av aF (aO aC (aO aC (pv 0) ak (λ_ _=>rfl)) ak (λ_ _=>rfl)) (aO aC (aO aC (pv 0) ak (λ_ _=>rfl)) ak (λ_ _=>rfl))) (av aF (aO aC (aO aC (pv 0) ak (λ_ _=>rfl)) ak (λ_ _=>rfl)) (aO aC (aO aC (pv 0) ak (λ_ _=>rfl)) ak (λ_ _=>rfl))))))
  (@az _ _ _ _ _ (aV (i:=2) g7.nd rfl (Or.inl rfl) (av aF (aO aC (aO aC (pv 0) ak (λ_ _=>rfl)) ak (λ_ _=>rfl)) (av d9 (av aF (aO aC (aO aC (pv 0) ak (λ_ _=>rfl)) ak (λ_ _=>rfl)) (aO aC (aO aC (pv 0) ak (λ_ _=>rfl)) ak (λ_ _=>rfl))) (av aF (aO aC (aO aC (pv 0) ak (λ_ _=>rfl)) ak (λ_ _=>rfl)) (aO aC (aO aC (pv 0) ak (λ_ _=>rfl)) ak (λ_ _=>rfl))))))
  (@aP _ _ _ (aU (av ck (av d9 (pv 1) (pv 2)) (av aF (aO aC (aO aC (pv 0) ak (λ_ _=>rfl)) ak (λ_ _=>rfl)) (av d9 (av aF (aO aC (aO aC (pv 0) ak (λ_ _=>rfl)) ak (λ_ _=>rfl)) (aO aC (aO aC (pv 0) ak (λ_ _=>rfl)) ak (λ_ _=>rfl))) (av aF (aO aC (aO aC (pv 0) ak (λ_ _=>rfl)) ak (λ_ _=>rfl)) (aO aC (aO aC (pv 0) ak (λ_ _=>rfl)) ak (λ_ _=>rfl))))))))))),?_⟩
 obtain⟨c0,x1,x2,_⟩:=bC hT cg (i:=0) (by decide);obtain⟨c1,y1,y2,_⟩:=bC hT cg (i:=1) (by decide);obtain⟨c2,w1,w2,_⟩:=bC hT cg (i:=2) (by decide);refine⟨_,rfl,t,_,_,_,rfl,rfl,aZ.of hT.1,x1,c0,_,_,_,rfl,rfl,aZ.of x2,rfl,_,rfl,t,_,_,_,rfl,rfl,aZ.of hT.1,y1,c1,_,_,_,rfl,rfl,aZ.of y2,rfl,_,rfl,t,_,_,_,rfl,rfl,aZ.of hT.1,w1,c2,_,_,_,rfl,rfl,aZ.of w2,rfl,_,_,rfl,rfl,⟨aK (hB 1 1 (by decide) (by decide)) (by decide),aK (hB 2 2 (by decide) (by decide)) (by decide)⟩,_,rfl,t,_,_,_,rfl,rfl,aZ.of hT.1,y1,c1,_,_,_,rfl,rfl,aZ.of y2,rfl,_,rfl,t,_,_,_,rfl,rfl,aZ.of hT.1,w1,c2,_,_,_,rfl,rfl,aZ.of w2,rfl,_,_,rfl,rfl,⟨aK (hB 1 2 (by decide) (by decide)) (by decide),aK (hB 2 1 (by decide) (by decide)) (by decide)⟩,_,_,rfl,rfl,_,_,rfl,rfl,⟨aK (hB 0 0 (by decide) (by decide)) (by decide),aK (lS (cu (hB 1 1 (by decide) (by decide)) (hB 2 2 (by decide) (by decide))) (cu (hB 1 2 (by decide) (by decide)) (hB 2 1 (by decide) (by decide)))) (by decide)⟩,?_⟩;refine⟨_,rfl,t,_,_,_,rfl,rfl,aZ.of hT.1,x1,c0,_,_,_,rfl,rfl,aZ.of x2,rfl,_,rfl,t,_,_,_,rfl,rfl,aZ.of hT.1,y1,c1,_,_,_,rfl,rfl,aZ.of y2,rfl,_,rfl,t,_,_,_,rfl,rfl,aZ.of hT.1,w1,c2,_,_,_,rfl,rfl,aZ.of w2,rfl,_,_,rfl,rfl,⟨aK (hB 1 0 (by decide) (by decide)) (by decide),aK (hB 2 2 (by decide) (by decide)) (by decide)⟩,_,rfl,t,_,_,_,rfl,rfl,aZ.of hT.1,y1,c1,_,_,_,rfl,rfl,aZ.of y2,rfl,_,rfl,t,_,_,_,rfl,rfl,aZ.of hT.1,w1,c2,_,_,_,rfl,rfl,aZ.of w2,rfl,_,_,rfl,rfl,⟨aK (hB 1 2 (by decide) (by decide)) (by decide),aK (hB 2 0 (by decide) (by decide)) (by decide)⟩,_,_,rfl,rfl,_,_,rfl,rfl,⟨aK (hB 0 1 (by decide) (by decide)) (by decide),aK (lS (cu (hB 1 0 (by decide) (by decide)) (hB 2 2 (by decide) (by decide))) (cu (hB 1 2 (by decide) (by decide)) (hB 2 0 (by decide) (by decide)))) (by decide)⟩,?_⟩;refine⟨_,rfl,_,rfl,_,_,rfl,rfl,_,rfl,t,_,_,_,rfl,rfl,aZ.of hT.1,x1,c0,_,_,_,rfl,rfl,aZ.of x2,rfl,_,rfl,t,_,_,_,rfl,rfl,aZ.of hT.1,y1,c1,_,_,_,rfl,rfl,aZ.of y2,rfl,_,rfl,t,_,_,_,rfl,rfl,aZ.of hT.1,w1,c2,_,_,_,rfl,rfl,aZ.of w2,rfl,_,_,rfl,rfl,⟨aK (hB 1 0 (by decide) (by decide)) (by decide),aK (hB 2 1 (by decide) (by decide)) (by decide)⟩,_,rfl,t,_,_,_,rfl,rfl,aZ.of hT.1,y1,c1,_,_,_,rfl,rfl,aZ.of y2,rfl,_,rfl,t,_,_,_,rfl,rfl,aZ.of hT.1,w1,c2,_,_,_,rfl,rfl,aZ.of w2,rfl,_,_,rfl,rfl,⟨aK (hB 1 1 (by decide) (by decide)) (by decide),aK (hB 2 0 (by decide) (by decide)) (by decide)⟩,_,_,rfl,rfl,_,_,rfl,rfl,⟨aK (hB 0 2 (by decide) (by decide)) (by decide),aK (lS (cu (hB 1 0 (by decide) (by decide)) (hB 2 1 (by decide) (by decide))) (cu (hB 1 1 (by decide) (by decide)) (hB 2 0 (by decide) (by decide)))) (by decide)⟩,_,_,rfl,rfl,?_⟩;have e:ent m 0 0*(ent m 1 1*ent m 2 2-ent m 1 2*ent m 2 1) -ent m 0 1*(ent m 1 0*ent m 2 2-ent m 1 2*ent m 2 0)+ent m 0 2*(ent m 1 0*ent m 2 1-ent m 1 1*ent m 2 0)=aA m:=by
  rw[dJ]
  grind
 rw[<-e]at q;exact q
inductive vQ(vs:List V)(H:Hp)(Q:VK)(E:XK):Prop
 |mk(t:Addr)(bs:List Addr)(m:List (List Int))(a b:Addr)(x y:Nat->Int)(_:vs=[.ref t,.ref a,.ref b])(_:Tab H t bs m)(_:aY m)(_:Bd 1000 m)(_:bJ H a x)(_:bJ H b y)(_:∀i,i<3->(x i).natAbs<2^1000)(_:∀i,i<3->(y i).natAbs<2^1000)(_:Q (.int (au m x y)) H)
theorem vj(F:fZ K mg "_law_pairing" kR gO)(aB:mg "range"=none):dO P w K mg base dz 1 "_law_pairing" gO vQ:=by
 refine F.ok gn (λvs H Q E h=> ?_) (λf cdv A outer s H vs Q E hr h=> ?_)
 ·obtain⟨t,bs,m,a,b,x,y,rfl,hT,cg,hB,hx,hy,bx,bY,q⟩:=h
  rfl
 obtain⟨t,bs,m,a,b,x,y,rfl,hT,cg,hB,hx,hy,bx,bY,q⟩:=h;have hu:=hr.units;refine⟨_,(nA (@az _ _ _ _ _ (aV (i:=3) gn.nd rfl (Or.inl rfl) ak)
  (@az _ _ _ _ _ (iH PassesOwn.never rfl (dU rfl aB (af ak ah)) (aI (i:=4) gn.nd rfl (Or.inl rfl)) (dQ (iH PassesOwn.never rfl (dU rfl aB (af ak ah)) (aI (i:=5) gn.nd rfl (Or.inl rfl)) (dQ (aV (i:=3) gn.nd rfl (Or.inl rfl) (av ck (pv 3) (av aF (av aF (aO aC (pv 1) (pv 4) (λ_ _=>rfl)) (aO aC (aO aC (pv 0) (pv 4) (λ_ _=>rfl)) (pv 5) (λ_ _=>rfl))) (aO aC (pv 2) (pv 5) (λ_ _=>rfl)))))))))
  (@aP _ _ _ (aU (pv 3)))))),?_⟩
 refine⟨3,rfl,by decide,by decide,iE (n:=3) (λi σ H'=> ∃(oi oj:Option V),H=H'/\σ=[some (.ref t),some (.ref a),some (.ref b),some (.int (preSum (pairF m x y) (i*3))),oi,oj]) ⟨_,_,rfl,rfl⟩ (λi σ H' hi h=> ?_) (λσ H' h=> ?_)⟩
 ·obtain⟨oi,oj,rfl,rfl⟩:=h
  refine⟨3,rfl,by decide,by decide,iE (n:=3) (λj σ H'=> ∃(oj:Option V),H=H'/\σ=[some (.ref t),some (.ref a),some (.ref b),some (.int (preSum (pairF m x y) (i*3+j))),some (.int (0+i)),oj]) ⟨_,rfl,rfl⟩ (λj σ H' hj h=> ?_) (λσ H' h=> ?_)⟩
  ·obtain⟨oj,rfl,rfl⟩:=h
   have e1:(i*3+j)/3=i:=by omega
   have e2:(i*3+j)%3=j:=by(clear hj hi hu bY bx aB;omega)
   obtain⟨c,row,f1,f2,f3⟩:=pB hT cg hi hj;simp only[Int.zero_add];refine⟨_,rfl,_,rfl,_,rfl,a,_,_,_,rfl,rfl,aZ.of hx,zP x hi,_,rfl,_,rfl,t,_,_,_,rfl,rfl,aZ.of hT.1,f1,_,rfl,c,_,_,_,rfl,rfl,aZ.of f2,f3,_,_,rfl,rfl,⟨aK (bx i hi) (by decide),aK (hB i j hi hj) (by decide)⟩,_,rfl,_,rfl,b,_,_,_,rfl,rfl,aZ.of hy,zP y hj,_,_,rfl,rfl,⟨aK (cu (bx i hi) (hB i j hi hj)) (by decide),aK (bY j hj) (by decide)⟩,_,_,rfl,rfl,?_⟩;refine⟨some (.int j),rfl,?_⟩;have e:preSum (pairF m x y) (i*3+(j+1))=preSum (pairF m x y) (i*3+j)+x i*ent m i j*y j:=by
    show preSum (pairF m x y) (i*3+j)+pairF m x y (i*3+j)=_;unfold pairF;rw[e1,e2]
   rw[e]
   rfl
  ·obtain⟨oj,rfl,rfl⟩:=h
   exact⟨some (.int (0+i)),oj,rfl,by rw[ac5]⟩
 ·obtain⟨oi,oj,rfl,rfl⟩:=h
  exact⟨_,rfl,q⟩
inductive Lw(vs:List V)(H:Hp)(Q:VK)(E:XK):Prop
 |mk(t1:Addr)(b1:List Addr)(m1:List (List Int))(t2:Addr)(b2:List Addr)(m2:List (List Int))(_:vs=[.ref t1,.ref t2])(_:Tab H t1 b1 m1)(_:Tab H t2 b2 m2)(_:aY m1)(_:aY m2)(_:Bd 1000 m1)(_:Bd 1000 m2)(_:∀r bs H',ay H H'->H r=none->(∀b∈bs,H b=none) ->r∉bs->bs.Nodup->Tab H' r bs (aX m1 m2) ->Q (.ref r) H')
theorem vm(F:fZ K mg "_law_carried" kT gP)(kZ:dO P w K mg base dz 1 "_law_pairing" gO vQ):dO P w K mg base dz 2 "_law_carried" gP Lw:=by
 refine F.ok vg (λvs H Q E h=> ?_) (λf cdv A outer s H vs Q E hr h=> ?_)
 ·obtain⟨t1,b1,m1,t2,b2,m2,rfl,h1,h2,c1,c2,d1,d2,q⟩:=h
  rfl
 obtain⟨t1,b1,m1,t2,b2,m2,rfl,h1,h2,c1,c2,d1,d2,q⟩:=h;have hu:=hr.units;refine⟨_,(dQ (aU (iK (N2:=["_law_form","_law_by"]) (te:=(qY 1 (Fd K (bU 2)) (dP 0) (mE vQ [] E0 (cV (bU 2) (cV (bU 1) (cV (bU 0) jB)))))) rfl (eT (pv 1)) (by kernel_rfl) rfl (λ_ _ _=>by exact jE (iK (N2:=["_law_one","_law_form","_law_by"]) (te:=(mE vQ [] E0 (cV (bU 2) (cV (bU 1) (cV (bU 0) jB))))) rfl (eT (pv 2)) (by kernel_rfl) rfl (λ_ _ _=>by exact jE (aN kZ hr rfl aM (af (pv 2) (af (pv 1) (af (pv 0) ah)))))))))),?_⟩;have l2:(b2.map V.ref).length=3:=by rw[aau,<-h2.2.length,c2.1]
 have e:mk3 (λi j=>au m1 (ent m2 i) (ent m2 j))=aX m1 m2:=by
  rw[kG (show aY (aX m1 m2)from(show aY (fY (fY m2 m1) (dI m2))from cJ _))];exact fU λi j hi hj=>(jr m1 m2 hi hj).symm
 refine⟨_,rfl,t2,rfl,⟨_,aZ.of h2.1⟩,λD hD=>Kc (ji (aZ.of h2.1)) l2 hD (λi j=>au m1 (ent m2 i) (ent m2 j)) (λi x hi ex H1 Q1 s1 k1=> ?_) (λbs' H1 s1 fr nD nn hT=>q D bs' H1 s1 hD fr nD nn (by rw[<-e];exact hT))⟩;obtain⟨b,e1,e2,_⟩:=bC (h2.same s1) c2 hi;have ex':x= .ref b:=by
  have q1:=gS ex;rw[e1]at q1;exact(Option.some.inj q1).symm
 subst ex';refine⟨_,rfl,t2,rfl,⟨_,aZ.of (h2.same s1).1⟩,λD2 CO=>pC (ji (aZ.of (h2.same s1).1)) l2 CO (λj=>au m1 (ent m2 i) (ent m2 j)) (λj x hj NI H2 Q2 s2 k2=> ?_) (λH2 s2 e2=>k1 D2 H2 CO s2 e2)⟩;obtain⟨b',f1,f2,_⟩:=bC ((h2.same s1).same s2) c2 hj;have ex':x= .ref b':=by
  have q1:=gS NI;rw[f1]at q1;exact(Option.some.inj q1).symm
 subst ex';exact⟨_,rfl,_,rfl,_,rfl,t1,b1,m1,b,b',ent m2 i,ent m2 j,rfl,(h1.same s1).same s2,c1,d1,s2 _ _ e2,f2,λk hk=>d2 i k hi hk,λk hk=>d2 j k hj hk,k2 H2 (ay.refl _)⟩
noncomputable def QI(a b c p q r:Int):Prop:=0<a/\a<=b/\b<=c/\c<1000000/\ -a<=p/\p<=a/\ -a<=q/\q<=a/\ -b<=r/\r<=b
inductive Cu(vs:List V)(H:Hp)(Q:VK)(E:XK):Prop
 |mk(B:Addr)(_:vs=[.ref B])(_:mO H B)(_:∀a b c p q r t bs H',QI a b c p q r->SB B H H'->H t=none->(∀b∈bs,H b=none) ->t∉bs->bs.Nodup->Tab H' t bs (nC (2*a) (2*b) (2*c) p q r) ->Q (.ref t) H')
theorem qF(F:fZ K mg "_law_drawn_form" iP fK)(bE:dO P w K mg base dz 1 "_law_take" f9 xB):dO P w K mg base dz 2 "_law_drawn_form" fK Cu:=by
 refine F.ok dw (λvs H Q E h=> ?_) (λf cdv A outer s H vs Q E hr h=> ?_)
 ·obtain⟨B,rfl,hb,q⟩:=h
  rfl
 obtain⟨B,rfl,hb,q⟩:=h;have hu:=hr.units;refine⟨_,(nA (@az _ _ _ _ _ (aV (i:=1) dw.nd rfl (Or.inl rfl) (av ck ak (av jA ak (aN bE hr rfl aM (af (pv 0) (af ak ah))))))
  (@az _ _ _ _ _ (aV (i:=2) dw.nd rfl (Or.inl rfl) (av ck (pv 1) (av jA ak (aN bE hr rfl aM (af (pv 0) (af ak ah))))))
  (@az _ _ _ _ _ (aV (i:=3) dw.nd rfl (Or.inl rfl) (av ck (pv 2) (av jA ak (aN bE hr rfl aM (af (pv 0) (af ak ah))))))
  (@az _ _ _ _ _ (aV (i:=4) dw.nd rfl (Or.inl rfl) (av d9 (aN bE hr rfl aM (af (pv 0) (af (av ck (pv 1) ak) ah))) (av fP (pv 1) ak)))
  (@az _ _ _ _ _ (aV (i:=5) dw.nd rfl (Or.inl rfl) (av d9 (aN bE hr rfl aM (af (pv 0) (af (av ck (pv 1) ak) ah))) (av fP (pv 1) ak)))
  (@az _ _ _ _ _ (aV (i:=6) dw.nd rfl (Or.inl rfl) (av d9 (aN bE hr rfl aM (af (pv 0) (af (av ck (pv 2) ak) ah))) (av fP (pv 2) ak)))
  (@aP _ _ _ (aU (eU (af (eU (af (pv 1) (af (pv 4) (af (pv 5) ah)))) (af (eU (af (pv 4) (af (pv 2) (af (pv 6) ah)))) (af (eU (af (pv 5) (af (pv 6) (af (pv 3) ah)))) ah))))))))))))),?_⟩
 refine⟨_,rfl,B,_,rfl,hb,by decide,by decide,λd0 H1 l0 u0 s1=>⟨_,_,rfl,rfl,.inl ⟨by decide,by decide⟩,_,_,rfl,rfl,?_⟩⟩;obtain⟨a,ea,a1,a4⟩:∃a,2+2*d0=2*a/\0<a/\a<=4:=⟨1+d0,by omega,by(clear hu q;omega),by(clear hu q;omega)⟩;simp only[ea];refine⟨_,rfl,_,rfl,B,_,rfl,s1.2,by decide,by decide,λd1 H2 l1 u1 s2=>⟨_,_,rfl,rfl,.inl ⟨by decide,by decide⟩,_,_,rfl,rfl,?_⟩⟩;obtain⟨b,eb,ab,b9⟩:∃b,2*a+2*d1=2*b/\a<=b/\b<=9:=⟨a+d1,by omega,by(clear a4 a1 ea u0 l0 hu q;omega),by(clear a4 a1 hu q;omega)⟩;simp only[eb];refine⟨_,rfl,_,rfl,B,_,rfl,s2.2,by decide,by decide,λd2 H3 l2 u2 s3=>⟨_,_,rfl,rfl,.inl ⟨by decide,by decide⟩,_,_,rfl,rfl,?_⟩⟩;obtain⟨c,ec,bc,c9⟩:∃c,2*b+2*d2=2*c/\b<=c/\c<1000000:=⟨b+d2,by omega,by(clear b9 ab eb u1 l1 a4 a1 ea u0 l0 hu q;omega),by(clear ab eb u1 l1 a4 a1 ea u0 l0 hu q;omega)⟩;simp only[ec];refine⟨_,rfl,_,rfl,_,_,rfl,rfl,B,_,rfl,s3.2,by(clear c9 bc u2 l2 b9 ab u1 l1 a4 a1 hu q;omega),log2_small (by(clear c9 bc u2 l2 b9 ab u1 l1 a4 a1 hu q;omega)) (by(clear c9 bc u2 l2 b9 ab u1 l1 a4 a1 hu q;omega)),λd3 H4 l3 u3 s4=>⟨_,rfl,_,_,rfl,rfl,⟨by decide,by decide⟩,_,_,rfl,rfl,?_⟩⟩;refine⟨_,rfl,_,rfl,_,_,rfl,rfl,B,_,rfl,s4.2,by(clear u3 l3 c9 bc u2 l2 b9 ab u1 l1 a4 a1 hu q;omega),log2_small (by(clear u3 l3 c9 bc u2 l2 b9 ab u1 l1 a4 a1 hu q;omega)) (by(clear u3 l3 c9 bc u2 l2 b9 ab u1 l1 a4 a1 hu q;omega)),λd4 H5 l4 u4 s5=>⟨_,rfl,_,_,rfl,rfl,⟨by decide,by decide⟩,_,_,rfl,rfl,?_⟩⟩;refine⟨_,rfl,_,rfl,_,_,rfl,rfl,B,_,rfl,s5.2,by(clear u4 l4 u3 l3 c9 bc u2 l2 b9 u1 l1 a4 a1 hu q;omega),log2_small (by(clear u4 l4 u3 l3 c9 bc u2 l2 b9 u1 l1 a4 a1 hu q;omega)) (by(clear u4 l4 u3 l3 c9 bc u2 l2 ab eb u1 l1 a4 a1 ea u0 l0 hu q;omega)),λd5 H6 l5 u5 s6=>⟨_,rfl,_,_,rfl,rfl,⟨by decide,by decide⟩,_,_,rfl,rfl,?_⟩⟩;obtain⟨p,ep,hp,lD⟩:∃p,d3-2*a/2=p/\ -a<=p/\p<=a:=⟨_,rfl,by(clear u5 l5 u4 l4 u3 c9 bc u2 l2 b9 ab u1 l1 a4 a1 ea u0 l0 hu q;omega),by(clear u5 l5 u4 l4 l3 c9 bc u2 l2 b9 ab u1 l1 a4 a1 ea u0 l0 hu q;omega)⟩;obtain⟨qq,eq,hq,hq'⟩:∃p,d4-2*a/2=p/\ -a<=p/\p<=a:=⟨_,rfl,by(clear lD hp ep u5 l5 u4 u3 l3 c9 bc u2 l2 b9 ab u1 l1 a4 a1 ea u0 l0 hu q;omega),by(clear lD hp ep u5 l5 l4 u3 l3 c9 bc u2 l2 b9 ab u1 l1 a4 a1 ea u0 l0 hu q;omega)⟩;obtain⟨r,er,hr',WS⟩:∃p,d5-2*b/2=p/\ -b<=p/\p<=b:=⟨_,rfl,by(clear hq' hq eq lD hp ep u5 u4 l4 u3 l3 c9 bc u2 l2 b9 ab eb u1 l1 a4 a1 ea u0 l0 hu q;omega),by(clear hq' hq eq lD hp ep l5 u4 l4 u3 l3 c9 bc u2 l2 b9 ab eb u1 l1 a4 a1 ea u0 l0 hu q;omega)⟩;simp only[ep,eq,er];have CQ:=s1.trans (s2.trans (s3.trans (s4.trans (s5.trans s6))));refine⟨_,rfl,_,rfl,_,rfl,(by show 3<=sizeLine;decide),λp0 h0=>⟨_,rfl,_,rfl,_,rfl,(by show 3<=sizeLine;decide),λp1 h1=>⟨_,rfl,_,rfl,_,rfl,(by show 3<=sizeLine;decide),λp2 h2=>⟨(by show 3<=sizeLine;decide),λt ht=> ?_⟩⟩⟩⟩;have v0:=ay.up (o:= .lst [.int (2*a),.int p,.int qq]) h0;have v1:=ay.up (o:= .lst [.int p,.int (2*b),.int r]) h1;have v2:=ay.up (o:= .lst [.int qq,.int r,.int (2*c)]) h2;have v3:=ay.up (o:= .lst [.ref p0,.ref p1,.ref p2]) ht;have T:Tab _ t [p0,p1,p2] (nC (2*a) (2*b) (2*c) p qq r):=nv _ ao (v3 _ _ (v2 _ _ (v1 _ _ ao))) (v3 _ _ (v2 _ _ ao)) (v3 _ _ ao);obtain⟨f1,f2,f3⟩:=Ds h0 h1 h2 ht;exact q a b c p qq r t _ _ ⟨a1,ab,bc,c9,hp,lD,hq,hq',hr',WS⟩ (CQ.trans (SB.of CQ.2 (v0.trans (v1.trans (v2.trans v3))))) (CQ.gone f1) (λx hx=>CQ.gone (f2 x hx)) f3 (JV h0 h1 h2) T
inductive Cv(vs:List V)(H:Hp)(Q:VK)(E:XK):Prop
 |mk(t:Addr)(bs:List Addr)(m:List (List Int))(_:vs=[.ref t])(_:Tab H t bs m)(_:aY m)(_:Bd 1000 m)(_:Q (.bl (decide (ent m 0 1*ent m 0 1<ent m 0 0*ent m 1 1) && decide (0<aA m))) H)
theorem tZ(F:fZ K mg "_law_is_above" jH gp)(b7:dO P w K mg base dz 1 "_law_determinant" dh Ax):dO P w K mg base dz 2 "_law_is_above" gp Cv:=by
 refine F.ok tF (λvs H Q E h=> ?_) (λf cdv A outer s H vs Q E hr h=> ?_)
 ·obtain⟨t,bs,m,rfl,hT,cg,hB,q⟩:=h
  rfl
 obtain⟨t,bs,m,rfl,hT,cg,hB,q⟩:=h;have hu:=hr.units;refine⟨_,(dQ (aU (vU (lF uA (av aF (aO aC (aO aC (pv 0) ak (λ_ _=>rfl)) ak (λ_ _=>rfl)) (aO aC (aO aC (pv 0) ak (λ_ _=>rfl)) ak (λ_ _=>rfl))) (av aF (aO aC (aO aC (pv 0) ak (λ_ _=>rfl)) ak (λ_ _=>rfl)) (aO aC (aO aC (pv 0) ak (λ_ _=>rfl)) ak (λ_ _=>rfl))) (cP _)) (vS (lF uA (aN b7 hr rfl aM (af (pv 0) ah)) ak (cP _)))))),?_⟩;obtain⟨c0,x1,x2,_⟩:=bC hT cg (i:=0) (by decide);obtain⟨c1,y1,y2,_⟩:=bC hT cg (i:=1) (by decide);obtain⟨c2,w1,w2,_⟩:=bC hT cg (i:=2) (by decide);refine⟨_,rfl,t,_,_,_,rfl,rfl,aZ.of hT.1,x1,c0,_,_,_,rfl,rfl,aZ.of x2,rfl,_,rfl,t,_,_,_,rfl,rfl,aZ.of hT.1,y1,c1,_,_,_,rfl,rfl,aZ.of y2,rfl,_,_,rfl,rfl,⟨aK (hB 0 0 (by decide) (by decide)) (by decide),aK (hB 1 1 (by decide) (by decide)) (by decide)⟩,_,rfl,t,_,_,_,rfl,rfl,aZ.of hT.1,x1,c0,_,_,_,rfl,rfl,aZ.of x2,rfl,_,rfl,t,_,_,_,rfl,rfl,aZ.of hT.1,x1,c0,_,_,_,rfl,rfl,aZ.of x2,rfl,_,_,rfl,rfl,⟨aK (hB 0 1 (by decide) (by decide)) (by decide),aK (hB 0 1 (by decide) (by decide)) (by decide)⟩,_,_,rfl,rfl,_,rfl,oh (λd=> ?_) (λd=> ?_)⟩
 ·have d:ent m 0 1*ent m 0 1<ent m 0 0*ent m 1 1:=of_decide_eq_true d
  rw[decide_eq_true d,adl]at q;exact⟨_,rfl,t,bs,m,rfl,hT,cg,hB,_,_,rfl,rfl,q⟩
 ·have d:¬ent m 0 1*ent m 0 1<ent m 0 0*ent m 1 1:=λz=>d (decide_eq_true z)
  rw[decide_eq_false d,ac7]at q;exact q
inductive zv(vs:List V)(H:Hp)(Q:VK)(E:XK):Prop
 |mk(B:Addr)(most:Int)(_:vs=[.ref B,.int most])(_:mO H B)(_:4<=most)(_:most<=1000)(_:∀m t bs H',aY m->Bd 30 m->br m->bQ m=true->aA m/2<=most->SB B H H'->H t=none->(∀b∈bs,H b=none) ->t∉bs->bs.Nodup->Tab H' t bs m->Q (.ref t) H')
theorem vn(F:fZ K mg "_law_reduced" kU gQ)(aB:mg "range"=none)(iU:dO P w K mg base dz 2 "_law_drawn_form" fK Cu)(jO:dO P w K mg base dz 2 "_law_is_above" gp Cv)(b7:dO P w K mg base dz 2 "_law_determinant" dh Ax)(bE:dO P w K mg base dz 2 "_law_take" f9 xB):dO P w K mg base dz 3 "_law_reduced" gQ zv:=by
 refine F.ok ir (λvs H Q E h=> ?_) (λf cdv A outer s H vs Q E hr h=> ?_)
 ·obtain⟨B,most,rfl,hb,m0,m1,q⟩:=h
  rfl
 obtain⟨B,most,rfl,hb,m0,m1,q⟩:=h;have hu:=hr.units;refine⟨_,(nA (@az _ _ _ _ _ (iH PassesOwn.never rfl (dU rfl aB (af ak ah)) (aI (i:=2) ir.nd rfl (Or.inl rfl)) (nA (@az _ _ _ _ _ (aV (i:=3) ir.nd rfl (Or.inl rfl) (aN iU hr rfl aM (af (pv 0) ah)))
  (@aP _ _ _ (eF (PW.pt (IV (iG (aN jO hr rfl aM (af (pv 3) ah))) (Fc (cQ Fl (aN b7 hr rfl aM (af (pv 3) ah)) (av jA ak (pv 1)) (cP _))))) (@aP _ _ _ (aU (pv 3))) eE)))))
  (@az _ _ _ _ _ (aV (i:=4) ir.nd rfl (Or.inl rfl) (av ck ak (av jA ak (aN bE hr rfl aM (af (pv 0) (af (av fP (pv 1) ak) ah))))))
  (JU (lU (bZ (lU (bZ fm (bZ fm (bZ fm lT (by kernel_rfl)) (by kernel_rfl)) (by kernel_rfl))) (bZ (lU (bZ fm (bZ fm (bZ fm lT (by kernel_rfl)) (by kernel_rfl)) (by kernel_rfl))) (bZ (lU (bZ fm (bZ fm (bZ (fe (pv 4)) lT (by kernel_rfl)) (by kernel_rfl)) (by kernel_rfl))) lT (by kernel_rfl)) (by kernel_rfl)) (by kernel_rfl))))))),?_⟩
 refine⟨12,rfl,by decide,by decide,iE (n:=12) (λi σ H'=> ∃(o2 o3:Option V),SB B H H'/\σ=[some (.ref B),some (.int most),o2,o3,none]) ⟨_,_,SB.refl hb,rfl⟩ (λi σ H1 hi h=> ?_) (λσ H1 h=> ?_)⟩
 ·obtain⟨o2,o3,s1,rfl⟩:=h
  refine⟨_,rfl,B,rfl,s1.2,λa b c p qq r t bs H2 hD s2 ft fb nt nn T=> ?_⟩;obtain⟨i1,i2,i3,i4,i5,i6,i7,i8,i9,Rp⟩:=hD;have bM:Bd 30 (nC (2*a) (2*b) (2*c) p qq r):=FN (by(clear Rp i9 i8 i7 i6 i5 nt fb ft hi hu q m1 m0 aB;omega)) (by(clear Rp i9 i8 i7 i6 i5 nt fb ft hi hu q m1 m0 aB;omega)) (by(clear Rp i9 i8 i7 i6 i5 nt fb ft hi hu q m1 m0 aB;omega)) (by(clear Rp i9 i8 i7 i1 nt fb ft hi hu q m1 m0 aB;omega)) (by(clear Rp i9 i6 i5 i1 nt fb ft hi hu q m1 m0 aB;omega)) (by(clear i8 i7 i6 i5 i2 i1 nt fb ft hi hu q m1 m0 aB;omega));have s12:=s1.trans s2;refine⟨_,rfl,t,bs,_,rfl,T,cJ _,bM.mono (by decide),_,rfl,?_⟩;refine Qg ⟨_,_,s12,rfl⟩ (λca hE=>⟨_,rfl,t,bs,_,rfl,T,cJ _,bM.mono (by decide),_,rfl,_,_,rfl,rfl,.inl ⟨by decide,by decide⟩,_,_,rfl,rfl,_,rfl,oh (λcd=> ?_) (λ_=>hE)⟩);rw[aa5]at ca;have hd:=of_decide_eq_true ca.2;have cd:aA (nC (2*a) (2*b) (2*c) p qq r)<=2*most:=of_decide_eq_true cd;exact⟨_,rfl,q (nC (2*a) (2*b) (2*c) p qq r) t bs H2 (cJ _) bM (yP _ _ _ _ _ _) (wI i1 i2 i5 i6 hd) (by(clear hd ca Rp i9 i8 i7 i6 i5 i4 i3 i2 i1 nt fb ft hi hu q m1 m0 aB;omega)) s12 (s1.gone ft) (λx hx=>s1.gone (fb x hx)) nt nn T⟩
 ·obtain⟨o2,o3,s1,rfl⟩:=h
  refine⟨_,rfl,_,rfl,_,_,rfl,rfl,⟨by decide,by decide⟩,B,_,rfl,s1.2,by(clear hu q aB;omega),log2_small (by(clear hu q aB;omega)) (by omega),λd H2 l0 u0 s2=>⟨_,_,rfl,rfl,.inl ⟨by decide,by decide⟩,_,_,rfl,rfl,?_⟩⟩;obtain⟨c,ec,c1,c2⟩:∃c,2+2*d=2*c/\0<c/\4*c<=most:=⟨1+d,by omega,by omega,by(clear l0 hu q m1 m0 aB;omega)⟩;simp only[ec];have s12:=s1.trans s2;refine⟨(by show 3<=sizeLine;decide),λp0 h0=>⟨(by show 3<=sizeLine;decide),λp1 h1=>⟨_,rfl,(by show 3<=sizeLine;decide),λp2 h2=>⟨(by show 3<=sizeLine;decide),λt ht=> ?_⟩⟩⟩⟩;have v0:=ay.up (o:= .lst [.int (2*1),.int 0,.int 0]) h0;have v1:=ay.up (o:= .lst [.int 0,.int (2*1),.int 0]) h1;have v2:=ay.up (o:= .lst [.int 0,.int 0,.int (2*c)]) h2;have v3:=ay.up (o:= .lst [.ref p0,.ref p1,.ref p2]) ht;have T:Tab _ t [p0,p1,p2] (nC (2*1) (2*1) (2*c) 0 0 0):=nv _ ao (v3 _ _ (v2 _ _ (v1 _ _ ao))) (v3 _ _ (v2 _ _ ao)) (v3 _ _ ao);obtain⟨f1,f2,f3⟩:=Ds h0 h1 h2 ht;have ed:aA (nC (2*1) (2*1) (2*c) 0 0 0)=8*c:=by
   rw[JS];omega
  exact q (nC (2*1) (2*1) (2*c) 0 0 0) t _ _ (cJ _) (FN (by omega) (by omega) (by(clear ed f3 f2 f1 ht h2 h1 h0 c1 u0 hu q aB;omega)) (by omega) (by omega) (by omega)) (yP 1 1 c 0 0 0) (wI (by decide) (by decide) (by decide) (by decide) (by rw[ed];omega)) (by rw[ed];(clear ed f3 f2 f1 ht h2 h1 h0 c1 ec u0 l0 hu q m1 m0 aB;omega)) (s12.trans (SB.of s12.2 (v0.trans (v1.trans (v2.trans v3))))) (s12.gone f1) (λx hx=>s12.gone (f2 x hx)) f3 (JV h0 h1 h2) T
inductive Cw(vs:List V)(H:Hp)(Q:VK)(E:XK):Prop
 |mk(B:Addr)(Cy:Int)(_:vs=[.ref B,.int Cy])(_:mO H B)(_:0<=Cy)(_:Cy<=10000)(_:∀m t bs H',aY m->Bd 100 m->aA m=1->SB B H H'->H t=none->(∀b∈bs,H b=none) ->t∉bs->Tab H' t bs m->Q (.ref t) H')
theorem yo(F:fZ K mg "_law_basis" nK iQ)(aB:mg "range"=none)(jZ:mg "zip"=none)(jY:mg "int"=none)(bE:dO P w K mg base dz 1 "_law_take" f9 xB):dO P w K mg base dz 2 "_law_basis" iQ Cw:=by
 refine F.ok gw (λvs H Q E h=> ?_) (λf cdv A outer s H vs Q E hr h=> ?_)
 ·obtain⟨B,Cy,rfl,hb,f0,f1,K0⟩:=h
  rfl
 obtain⟨B,Cy,rfl,hb,f0,f1,K0⟩:=h;have hu:=hr.units;refine toF ?_;refine⟨_,(JT (i:=2) gw.nd rfl (Or.inl rfl) (lU (bZ (lU (bZ fm (bZ fm (bZ fm lT (by kernel_rfl)) (by kernel_rfl)) (by kernel_rfl))) (bZ (lU (bZ fm (bZ fm (bZ fm lT (by kernel_rfl)) (by kernel_rfl)) (by kernel_rfl))) (bZ (lU (bZ fm (bZ fm (bZ fm lT (by kernel_rfl)) (by kernel_rfl)) (by kernel_rfl))) lT (by kernel_rfl)) (by kernel_rfl)) (by kernel_rfl))) (by kernel_rfl) (by first|exact .inl rfl|exact .inr rfl)
  (@az _ _ _ _ _ (iH PassesOwn.never rfl (dU rfl aB (af (aN bE hr rfl aM (af (pv 0) (af (aO aC (eU (af ak (af ak ah))) (r8 GP rfl jY acL (af (lF uA (pv 1) ak (cP _)) ah)) (λ_ _=>rfl)) ah))) ah)) (aI (i:=3) gw.nd rfl (Or.inl rfl)) (nA (@az _ _ _ _ _ (aV (i:=4) gw.nd rfl (Or.inl rfl) (aN bE hr rfl aM (af (pv 0) (af ak ah))))
  (@az _ _ _ _ _ (aV (i:=5) gw.nd rfl (Or.inl rfl) (av iY (av ck (av ck (pv 4) ak) (aN bE hr rfl aM (af (pv 0) (af ak ah)))) ak))
  (@az _ _ _ _ _ (aV (i:=6) gw.nd rfl (Or.inr rfl) (av d9 (aN bE hr rfl aM (af (pv 0) (af (av ck (av jA ak (pv 1)) ak) ah))) (pv 1)))
  (@az _ _ _ _ _ (iu (Dq (N2:=["_law_bag_here","_law_far","_law_made","_law_turn","_law_i","_law_j","_law_times"]) (te:=(ku (GL λi j=> .int (i+j)) (bU 0) (ku (rI lH λi j=> .int (i*j)) (bU 8) (bU 1)))) rfl (Dp rfl jZ (af (aO aC (pv 2) (pv 4) (λ_ _=>rfl)) (af (aO aC (pv 2) (pv 5) (λ_ _=>rfl)) ah))) (by kernel_rfl) rfl (λ_ _ _=>by exact jE (av ck (pv 0) (av aF (pv 8) (pv 1))))) (vX (pv 2) (pv 4) set_list))
  (@aP _ _ _ (eF (cQ AY (aN bE hr rfl aM (af (pv 0) (af ak ah))) ak (cP _)) (@aP _ _ _ (iu (gz (af (aO aC (pv 2) (pv 5) (λ_ _=>rfl)) (af (iK (N2:=["_law_bag_here","_law_far","_law_made","_law_turn","_law_i","_law_j","_law_times"]) (te:=(ku (GL λi j=> .int (i-j)) (tC (.int 0)) (bU 0))) rfl (eT (aO aC (pv 2) (pv 4) (λ_ _=>rfl))) (by kernel_rfl) rfl (λ_ _ _=>by exact jE (av d9 ak (pv 0)))) ah))) (kr rfl (aG (vX (pv 2) (pv 4) set_list) (aG (vX (pv 2) (pv 5) set_list) dW))))) eE))))))))
  (@aP _ _ _ (aU (pv 2))))),?_⟩
 refine⟨(by show 3<=sizeLine;decide),λp0 g0=>⟨(by show 3<=sizeLine;decide),λp1 g1=>⟨(by show 3<=sizeLine;decide),λp2 g2=>⟨(by show 3<=sizeLine;decide),λD hD=> ?_⟩⟩⟩⟩;have u0:=ay.up (o:= .lst [.int 1,.int 0,.int 0]) g0;have u1:=ay.up (o:= .lst [.int 0,.int 1,.int 0]) g1;have u2:=ay.up (o:= .lst [.int 0,.int 0,.int 1]) g2;have u3:=ay.up (o:= .lst [.ref p0,.ref p1,.ref p2]) hD;have T:Tab _ D [p0,p1,p2] (kI 1):=nv _ ao (u3 _ _ (u2 _ _ (u1 _ _ ao))) (u3 _ _ (u2 _ _ ao)) (u3 _ _ ao);have us:=u0.trans (u1.trans (u2.trans u3));obtain⟨fD,fb,nD⟩:=Ds g0 g1 g2 hD;have GA:D≠B:=hb.ne fD;have nB:∀bs:List Addr,(∀b∈bs,H b=none) ->B∉bs:=λbs f z=>hb.ne (f B z) rfl;refine⟨_,rfl,(by show 2<=sizeLine;decide),λLx hL=> ?_⟩;have u4:=ay.up (o:= .lst [.int 6,.int 4]) hL;refine⟨_,rfl,_,_,rfl,rfl,.inr ⟨_,rfl,?_⟩⟩;obtain⟨v,hv,hv2⟩:=at2 (x:= .int 6) (y:= .int 4) (i:=if decide ((3:Int)<Cy)=true then 1 else 0) (by split<;>decide) (by split<;>decide);obtain⟨w,rfl,w0,w6⟩:∃w:Int,v= .int w/\0<w/\w<=6:=by
  rcases hv2 with rfl|rfl
  ·exact⟨_,rfl,by decide,by decide⟩
  ·exact⟨_,rfl,by decide,by decide⟩
 have Yt:=SB.of hb (us.trans u4);refine⟨Lx,_,_,_,rfl,rfl,aZ.of ao,hv,B,w,rfl,Yt.2,w0,log2_small (by omega) (by omega),λd H2 l0 d6 s2=> ?_⟩;have T2:=(T.same u4).sb s2 GA (nB _ fb);have ym:=Yt.trans s2;refine⟨_,rfl,by omega,by omega,iE (n:=d.toNat) (λk σ H'=> ∃(o3 o4 o5 o6:Option V)(bs:List Addr)(m:List (List Int)),σ=[some (.ref B),some (.int Cy),some (.ref D),o3,o4,o5,o6]/\SB B H H'/\Tab H' D bs m/\aY m/\Bd (15*k+1) m/\aA m=1/\(∀b∈bs,H b=none)/\D∉bs) ⟨_,_,_,_,_,_,rfl,ym,T2,cJ _,λi j hi hj=> ?_,rfl,fb,nD⟩ (λk σ H1 hk h=> ?_) (λσ H1 h=> ?_)⟩
 ·rw[kI,cZ _ hi hj]
  split<;>decide
 ·obtain⟨o3,o4,o5,o6,bs,m,rfl,s1,T1,uO,dm,yp,fb,nD⟩:=h
  have OS:=nB bs fb;refine⟨_,rfl,B,_,rfl,s1.2,by decide,by decide,λd1 H2 l1 u1 s2=> ?_⟩;refine⟨_,rfl,_,_,rfl,rfl,_,rfl,B,_,rfl,s2.2,by decide,by decide,λd2 H3 l2 u2 s3=>⟨_,_,rfl,rfl,_,_,rfl,rfl,(by show(0:Int)<3;decide),?_⟩⟩;refine⟨_,rfl,_,rfl,_,_,rfl,rfl,.inl ⟨by decide,by decide⟩,_,_,rfl,rfl,B,_,rfl,s3.2,by omega,log2_small (by omega) (by omega),λd3 H4 l3 u3 s4=>⟨_,rfl,_,_,rfl,rfl,?_⟩⟩;obtain⟨i,ei,hi⟩:∃i:Nat,d1=(i:Int)/\i<3:=⟨d1.toNat,by(clear u3 l3 u2 l2 OS nD fb yp hk d6 l0 w6 w0 hv2 hv hL nB GA fD hD g2 g1 g0 hu K0 f1 f0 jY jZ aB;omega),by(clear u3 l3 u2 l2 OS nD fb yp hk d6 l0 w6 w0 hv2 hv hL nB GA fD hD g2 g1 g0 hu K0 f1 f0 jY jZ aB;omega)⟩;obtain⟨j,ej,hj⟩:∃j:Nat,((i:Int)+1+d2)%3=(j:Int)/\j<3:=⟨(((i:Int)+1+d2)%3).toNat,by(clear hi ei u3 l3 u2 l2 u1 l1 OS nD fb yp hk d6 l0 w6 w0 hv2 hv hL nB GA fD hD g2 g1 g0 hu K0 f1 f0 jY jZ aB;omega),by(clear hi ei u3 l3 u2 l2 u1 l1 OS nD fb yp hk d6 l0 w6 w0 hv2 hv hL nB GA fD hD g2 g1 g0 hu K0 f1 f0 jY jZ aB;omega)⟩;have hij:i≠j:=by(clear hj hi ei u3 l3 u1 l1 OS nD fb yp hk d6 l0 w6 w0 hv2 hv hL nB GA fD hD g2 g1 g0 hu K0 f1 f0 jY jZ aB;omega)
  obtain⟨o,eo,ho⟩:∃o:Int,o=d3-Cy/\o.natAbs<2^14:=⟨_,rfl,by(clear hij hj ej hi ei u2 l2 u1 l1 OS nD fb yp hk d6 l0 w6 w0 hv2 hv hL nB GA fD hD g2 g1 g0 hu K0 jY jZ aB;omega)⟩;simp only[ei,ej,<-eo];have Rk:=s2.trans (s3.trans s4);have T4:=T1.sb Rk GA OS;have Ej:=s1.trans Rk;obtain⟨bi,x1,x2,x3⟩:=bC T4 uO hi;obtain⟨bj,y1,y2,y3⟩:=bC T4 uO hj;refine⟨_,rfl,_,rfl,D,_,_,_,rfl,rfl,aZ.of T4.1,x1,_,rfl,_,rfl,D,_,_,_,rfl,rfl,aZ.of T4.1,y1,bi,bj,_,_,rfl,aZ.of x2,aZ.of y2,λR hR=> ?_⟩;have bk:∀s,s<3->(ent m i s+o*ent m j s).natAbs<2^(15*(k+1)+1):=λs hs=>aK (kH (aK (dm i s hi hs) (show 15*k+1<=14+(15*k+1)by omega)) (cu ho (dm j s hj hs))) (by omega);have k6:k<6:=by omega
  refine Bv (aZ.of x2) (aZ.of y2) rfl (by show 3<=sizeLine;decide) hR (λu v=>match u,v with| .int i,.int j=> .int (i+o*j)|_,_=> .gF) (λn u v eu ev G Q' sm kk=> ?_) (λH5 s5 e5=> ?_)
  ·have hn:n<3:=(aat.mp eu).1
   rcases aW hn with rfl|rfl|rfl<;>cases eu<;>cases ev<;>exact⟨_,rfl,_,rfl,_,rfl,_,_,rfl,rfl,⟨aK ho (by decide),aK (dm j _ hj (by decide)) (by(clear hn bk hR y2 y1 x2 x1 ho eo hij hj ej hi ei u3 l3 u2 l2 u1 l1 OS nD fb yp hk d6 l0 w6 w0 hv2 hv hL nB GA fD hD g2 g1 g0 hu K0 f1 f0 jY jZ aB;omega))⟩,_,_,rfl,rfl,kk⟩
  have nR:R≠D:=Ne.symm (fN T4.1 hR);have l3:bs.length=3:=by rw[<-T4.2.length,uO.1]
  have fR:H R=none:=Ej.gone hR;refine⟨_,rfl,_,rfl,D,_,_,i,rfl,rfl,s5 _ _ T4.1,(by rw[aau,l3];rcases aW hi with rfl|rfl|rfl<;>rfl),?_⟩;have T5:=zR (g:=λs=>ent m i s+o*ent m j s) (T4.same s5) uO hi e5 nR nD;have NL:SB B H _:=(Ej.trans (SB.of Ej.2 s5)).Qi (o:= .lst ((bs.map V.ref).set i (.ref R))) fD GA;have Rq:∀b∈bs.set i R,H b=none:=λb hb=>by
   rcases abl hb with z|z
   ·exact fb b z
   ·rw[z];exact fR
  have Uj:D∉bs.set i R:=λhb=>by
   rcases abl hb with z|z
   ·exact nD z
   ·exact nR z.symm
  have Uk:Bd (15*(k+1)+1) (x6 m i λs=>ent m i s+o*ent m j s):=λr s hr hs=>by
   rw[cX m _ hr hs]
   split
   ·exact bk s hs
   ·exact aK (dm r s hr hs) (by omega)
  have QJ:=(Na m hi hj hij o).trans yp;have c5:aY (x6 m i λs=>ent m i s+o*ent m j s):=cJ _;generalize x6 m i (λs=>ent m i s+o*ent m j s)=M at T5 Uk QJ c5;generalize bs.set i R=bS at T5 Rq Uj;refine⟨_,rfl,B,_,rfl,NL.2,by decide,by decide,λd4 H6 l4 u4 s6=>⟨rfl,_,rfl,oh (λ_=> ?_) (λ_=> ?_)⟩⟩
  ·have T6:=T5.sb s6 GA (nB _ Rq)
   have CQ:=NL.trans s6;obtain⟨ai,q1,q2,q3⟩:=bC T6 c5 hi;obtain⟨aj,r1,r2,r3⟩:=bC T6 c5 hj;refine⟨_,rfl,_,rfl,D,_,_,_,rfl,rfl,aZ.of T6.1,r1,_,rfl,_,rfl,D,_,_,_,rfl,rfl,aZ.of T6.1,q1,ai,rfl,⟨_,aZ.of q2⟩,λR2 WT=> ?_⟩;refine pC (ji (aZ.of q2)) rfl WT (λs=>0-ent M i s) (λn y hn ey G Q' sm kk=> ?_) (λH7 s7 e7=> ?_)
   ·rcases aW hn with rfl|rfl|rfl<;>cases ey<;>exact⟨_,rfl,_,_,rfl,rfl,kk G (ay.refl _)⟩
   refine⟨(by show 2<=sizeLine;decide),λPt hP=> ?_⟩;have u8:=ay.up (o:= .tup [.ref aj,.ref R2]) hP;have WU:=s7.trans u8;have T8:=T6.same WU;have l5:bS.length=3:=by rw[<-T6.2.length,c5.1]
   have Yu:aj≠D:=λz=>Uj (by rw[<-z];exact r3);have T9:=zR (g:=λs=>ent M j s) T8 c5 hi (WU _ _ r2) Yu Uj;have Yv:D∉bS.set i aj:=λhb=>by
    rcases abl hb with z|z
    ·exact Uj z
    ·exact Yu z.symm
   have WV:R2≠D:=Ne.symm (fN T6.1 WT);have e9:upd (upd H7 Pt (.tup [.ref aj,.ref R2])) D (.lst ((bS.map V.ref).set i (.ref aj))) R2=some (.lst [.int (0-ent M i 0),.int (0-ent M i 1),.int (0-ent M i 2)]):=by rw[aH WV];exact u8 _ _ e7
   have Ta:=zR (g:=λs=>0-ent M i s) T9 (cJ _) hj e9 WV Yv;have ix:∀(r:Nat)(l:List V),r<3->l.length=3->Ox l.length (r:Int)=some r:=λr l hr hl=>by rw[hl];rcases aW hr with rfl|rfl|rfl<;>rfl
   refine⟨Pt,_,rfl,nZ.of ao,rfl,_,_,rfl,_,rfl,_,rfl,D,_,_,i,rfl,rfl,T8.1,ix i _ hi (by rw[aau,l5]),_,_,rfl,_,rfl,_,rfl,D,_,_,j,rfl,rfl,ao,ix j _ hj (by rw[List.length_set,aau,l5]),rfl,?_⟩;have sa:SB B H _:=((CQ.trans (SB.of CQ.2 WU)).Qi (o:= .lst ((bS.map V.ref).set i (.ref aj))) fD GA).Qi (o:= .lst (((bS.map V.ref).set i (.ref aj)).set j (.ref R2))) fD GA;have ea:((bS.set i aj).map V.ref).set j (.ref R2)=((bS.map V.ref).set i (.ref aj)).set j (.ref R2):=by rw[List.map_set]
   refine⟨_,_,_,_,(bS.set i aj).set j R2,x6 (x6 M i λs=>ent M j s) j λs=>0-ent M i s,rfl,sa,(by rw[<-ea];exact Ta),cJ _,λr s hr hs=> ?_,(Kf M hi hj hij).trans QJ,λb hb=> ?_,λhb=> ?_⟩
   ·rw[cX _ _ hr hs]
    split
    ·have:=Uk i s hi hs
     show(0-ent M i s).natAbs<_;rw[Int.zero_sub,Int.natAbs_neg];exact this
    ·rw[cX M _ hr hs]
     split
     ·exact Uk j s hj hs
     ·exact Uk r s hr hs
   ·rcases abl hb with z|z
    ·rcases abl z with y|y
     ·exact Rq b y
     ·rw[y];exact Rq aj r3
    ·rw[z];exact CQ.gone WT
   ·rcases abl hb with z|z
    ·exact Yv z
    ·exact WV z.symm
  ·exact⟨_,_,_,_,_,M,rfl,NL.trans s6,T5.sb s6 GA (nB _ Rq),c5,Uk,QJ,Rq,Uj⟩
 ·obtain⟨o3,o4,o5,o6,bs,m,rfl,s1,T1,uO,dm,yp,fb,nD⟩:=h
  exact⟨_,rfl,K0 m D bs H1 uO (dm.mono (by omega)) yp s1 fD fb nD T1⟩
inductive zw(vs:List V)(H:Hp)(Q:VK)(E:XK):Prop
 |mk(t:Addr)(bs:List Addr)(m:List (List Int))(_:vs=[.ref t])(_:Tab H t bs m)(_:aY m)(_:∀H',ay H H'->Q (.bl true) H')
theorem t6(F:fZ K mg "_law_is_table" jI gr)(bV:mg "isinstance"=none)(iR:mg "list"=none)(ie:mg "len"=none)(jY:mg "int"=none)(tL:mg "bool"=none):dO P w K mg base dz 1 "_law_is_table" gr zw:=by
 refine F.ok mX (λvs H Q E h=> ?_) (λf cdv A outer s H vs Q E hr h=> ?_)
 ·obtain⟨t,bs,m,rfl,hT,cg,q⟩:=h
  rfl
 obtain⟨t,bs,m,rfl,hT,cg,q⟩:=h;have hu:=hr.units;refine⟨_,(nA (@az _ _ _ _ _ (eF (PW.pt (uz (m9 (iG (cR f7 rfl bV aaT (af (pv 0) (af (lE (v:= .ty "list") rfl iR abw rfl) ah))))) (pY (cQ Fj (cR gc rfl ie ab4 (af (pv 0) ah)) ak (cP _))))) (@aP _ _ _ (aU ow)) eE)
  (@az _ _ _ _ _ (iH PassesOwn.never rfl (eT (pv 0)) (aI (i:=1) mX.nd rfl (Or.inl rfl)) (nA (@az _ _ _ _ _ (eF (PW.pt (uz (m9 (iG (cR f7 rfl bV aaT (af (pv 1) (af (lE (v:= .ty "list") rfl iR abw rfl) ah))))) (pY (cQ Fj (cR gc rfl ie ab4 (af (pv 1) ah)) ak (cP _))))) (@aP _ _ _ (aU ow)) eE)
  (@aP _ _ _ (eF (cQ (zK hu) (Nc (N2:=["_law_found","_law_row"]) (tt:=(Xf (RD (tB (Pz (FD K) (cV (bU 0) (cV (tC (.ty "int")) jB))))) (tB (Pz (FD K) (cV (bU 0) (cV (tC (.ty "bool")) jB)))))) (te:=(bU 0)) rfl (eT (pv 1)) (by kernel_rfl) rfl (λ_ _ _=>by exact Wg (PW.pt (uz (m9 (iG (cR f7 rfl bV aaT (af (pv 0) (af (lE (v:= .ty "int") rfl jY acL rfl) ah))))) (pY (iG (cR f7 rfl bV aaT (af (pv 0) (af (lE (v:= .ty "bool") rfl tL adw rfl) ah)))))))) (λ_ _ _=>by exact jE (pv 0))) (eU ah) (cP _)) (@aP _ _ _ (aU ow)) eE)))))
  (@aP _ _ _ (aU ow))))),?_⟩
 have l3:(bs.map V.ref).length=3:=by rw[aau,<-hT.2.length,cg.1]
 refine⟨_,rfl,_,_,_,_,rfl,.lst hT.1,mK K "list",_,rfl,oB ⟨_,rfl,t,_,rfl,.inl (aZ.of hT.1),rfl,_,rfl,wj (by rw[l3];rfl) ?_⟩⟩;refine⟨_,rfl,t,rfl,⟨_,aZ.of hT.1⟩,mD (xs:=bs.map V.ref) (λj σ H'=>(∃o,σ=[some (.ref t),o])/\ay H H') ⟨⟨_,rfl⟩,ay.refl _⟩ (λj σ H' _ hh=>aZ.of (hT.same hh.2).1) (λj v σ H1 ev hh=> ?_) (λσ H1 hh=> ?_)⟩
 ·obtain⟨⟨o,rfl⟩,s1⟩:=hh
  have hj:j<3:=by have:=(aat.mp ev).1;rw[l3]at this;exact this
  obtain⟨b,x1,x2,_⟩:=bC (hT.same s1) cg hj;have ev':v= .ref b:=by
   have q1:=gS ev;rw[x1]at q1;exact(Option.some.inj q1).symm
  subst ev';refine⟨_,rfl,_,_,_,_,rfl,.lst x2,mK K "list",_,rfl,oB ⟨_,rfl,b,_,rfl,.inl (aZ.of x2),rfl,_,rfl,wj rfl ?_⟩⟩;refine⟨_,rfl,b,rfl,⟨_,aZ.of x2⟩,λD hD=>BC (ji (aZ.of x2)) (by show 3<=sizeLine;decide) hD (λ_=>false) id (λy hy Ha R sa kk=> ?_) (λy hy px=>absurd px (by decide)) (λHa sa ea=> ?_)⟩
  ·obtain⟨z,rfl⟩:∃z,y= .int z:=by
    simp only[aar,aaJ,or_false]at hy;rcases hy with rfl|rfl|rfl<;>exact⟨_,rfl⟩
   exact⟨_,rfl,_,_,_,_,rfl,.int _,mK K "int",_,rfl,oB ⟨_,rfl,_,_,_,_,rfl,.int _,q8 K,_,rfl,kk Ha (ay.refl _)⟩⟩
  refine⟨(by show 0<=sizeLine;decide),λE hE=> ?_⟩;have uE:=ay.up (o:= .lst []) hE;refine Qj (xs:=[]) (ys:=[]) (aZ.of (uE _ _ ea)) (aZ.of ao) ⟨_,rfl,wj rfl ?_⟩;exact⟨⟨_,rfl⟩,s1.trans (sa.trans uE)⟩
 ·obtain⟨⟨o,rfl⟩,s1⟩:=hh
  exact q H1 s1
inductive GB(vs:List V)(H:Hp)(Q:VK)(E:XK):Prop
 |mk(t:Addr)(bs:List Addr)(m:List (List Int))(_:vs=[.ref t])(_:Tab H t bs m)(_:aY m)(_:Bd 1000 m)(_:aA m=1∨aA m= -1)(_:∀H',ay H H'->Q (.bl true) H')
theorem t7(F:fZ K mg "_law_is_basis" jJ gu)(rT:mg "abs"=none)(jP:dO P w K mg base dz 1 "_law_is_table" gr zw)(b7:dO P w K mg base dz 1 "_law_determinant" dh Ax):dO P w K mg base dz 2 "_law_is_basis" gu GB:=by
 refine F.ok tG (λvs H Q E h=> ?_) (λf cdv A outer s H vs Q E hr h=> ?_)
 ·obtain⟨t,bs,m,rfl,hT,cg,hB,u,q⟩:=h
  rfl
 obtain⟨t,bs,m,rfl,hT,cg,hB,u,q⟩:=h;have hu:=hr.units;refine⟨_,(dQ (aU (vU (aN jP hr rfl aM (af (pv 0) ah)) (vS (lF AY (cR v8 rfl rT acM (af (aN b7 hr rfl aM (af (pv 0) ah)) ah)) ak (cP _)))))),?_⟩;refine⟨_,rfl,t,bs,m,rfl,hT,cg,λH1 s1=>⟨_,rfl,wg ?_⟩⟩;refine⟨_,rfl,t,bs,m,rfl,hT.same s1,cg,hB,?_⟩;have e:aA m=1∨aA m= -1:=u;rcases e with e|e<;>rw[e]<;>exact⟨_,rfl,rfl,q H1 s1⟩
noncomputable def GC(K:PySem.W.Frag)(tabs iw:List Addr):Sp:=λvs H Q _=> ∃(a:Addr)(ns:List Int),vs=[.ref a]/\aZ K H a (ns.map V.int)/\ns.length<=63/\(∀T∈tabs,H T=some (eN T))/\(∀T∈iw,H T=some .AM)/\ ∀H',ay H H'->Q (.bl true) H'
theorem QK{f:Addr}{fd:FuncData}{bK bg aJ bH aE bh:Addr}{tabs iw:List Addr}(Io:bK∈tabs)(Cz:bg∈tabs)(t8:aJ∈tabs)(Ex:bH∈tabs)(Ey:aE∈tabs)(CA:bh∈iw)(F:OA K "law" "law" rL f fd)(aB:mg "range"=none)(ie:mg "len"=none)(Ly:mg "min"=none)(Lz:mg "max"=none)(iR:mg "list"=none)(qG:dO P w K mg base dz 14 "_law_bag" kQ (OR K))(bE:dO P w K mg base dz 14 "_law_take" f9 xB)(lq:dO P w K mg base dz 14 "_law_reduced" gQ zv)(j8:dO P w K mg base dz 14 "_law_basis" iQ Cw)(gR:dO P w K mg base dz 14 "_law_carried" gP Lw)(Ay:dO P w K mg base dz 14 "alike" rJ (Gz bK bg aJ bH aE bh))(jQ:dO P w K mg base dz 14 "_law_is_basis" gu GB):qW P w K mg base dz 15 f fd ["_law_script"] (GC K tabs iw):=by
 refine F.ok jK (λvs H Q E h=> ?_) (λcdv A outer s H vs Q E hr h=> ?_)
 ·obtain⟨a,ns,rfl,hS,h63,hT,hC,q⟩:=h
  rfl
 obtain⟨a,ns,rfl,hS,h63,hT,hC,q⟩:=h;have hu:=hr.units;refine⟨_,(nA (@az _ _ _ _ _ (iH PassesOwn.never rfl (dU rfl aB (af (cR (GN rfl) rfl Lz PyProof.Rows.boot_max (af ak (af (cR (GO rfl) rfl Ly PyProof.Rows.boot_min (af ak (af (cR gc rfl ie ab4 (af (pv 0) ah)) ah))) ah))) ah)) (aI (i:=1) jK.nd rfl (Or.inl rfl)) (nA (@az _ _ _ _ _ (aV (i:=2) jK.nd rfl (Or.inl rfl) (aN qG hr rfl aM (af (pv 0) (af (pv 1) ah))))
  (@az _ _ _ _ _ (aV (i:=3) jK.nd rfl (Or.inl rfl) (aN lq hr rfl aM (af (pv 2) (af ak ah))))
  (JT (i:=4) jK.nd rfl (Or.inl rfl) (SO aC (lU (bZ fm (bZ fm (bZ fm (bZ (fe (av Jc ak ak)) lT (by kernel_rfl)) (by kernel_rfl)) (by kernel_rfl)) (by kernel_rfl))) (aN bE hr rfl aM (af (pv 2) (af ak ah))) (λ_ _=>rfl)) (by kernel_rfl) (by first|exact .inl rfl|exact .inr rfl)
  (@az _ _ _ _ _ (aV (i:=5) jK.nd rfl (Or.inl rfl) (aN gR hr rfl aM (af (pv 3) (af (aN j8 hr rfl aM (af (pv 2) (af (pv 4) ah))) ah))))
  (@az _ _ _ _ _ (aV (i:=6) jK.nd rfl (Or.inl rfl) (aN gR hr rfl aM (af (pv 3) (af (aN j8 hr rfl aM (af (pv 2) (af (pv 4) ah))) ah))))
  (@aP _ _ _ (@iH _ _ _ _ _ _ _ _ PassesOwn.never rfl (@eT _ _ _ _ (@eU _ _ _ _ (@af _ _ _ _ _ (gz (af (pv 5) (af (pv 6) ah))) (@af _ _ _ _ _ (gz (af (pv 6) (af (pv 5) ah))) (@af _ _ _ _ _ (gz (af (pv 5) (af (pv 5) ah))) ah (by rfl)) (by rfl)) (by rfl)))) (kr rfl (aG (aI (i:=7) jK.nd rfl (Or.inl rfl)) (aG (aI (i:=8) jK.nd rfl (Or.inl rfl)) dW))) (nA (@az _ _ _ _ _ (aV (i:=9) jK.nd rfl (Or.inl rfl) (gz (af (iK (N2:=["_law_script","_law_k","_law_bag_here","_law_form","_law_far","_law_one","_law_other","_law_first","_law_second","_law_handed","_law_turn","_law_basis_here"]) (te:=(Pz (zN K) (cV (bU 0) jB))) rfl (eT (pv 7)) (by kernel_rfl) rfl (λ_ _ _=>by exact jE (r8 qX rfl iR abw (af (pv 0) ah)))) (af (iK (N2:=["_law_script","_law_k","_law_bag_here","_law_form","_law_far","_law_one","_law_other","_law_first","_law_second","_law_handed","_law_turn","_law_basis_here"]) (te:=(Pz (zN K) (cV (bU 0) jB))) rfl (eT (pv 8)) (by kernel_rfl) rfl (λ_ _ _=>by exact jE (r8 qX rfl iR abw (af (pv 0) ah)))) ah))))
  (@aP _ _ _ (iH PassesOwn.never rfl (dU rfl aB (af ak ah)) (aI (i:=10) jK.nd rfl (Or.inl rfl)) (nA (@az _ _ _ _ _ (aV (i:=11) jK.nd rfl (Or.inl rfl) (aN Ay hr rfl aM (af (aO Dc (pv 9) ak (λ_ _=>rfl)) (af (aO Dc (pv 9) ak (λ_ _=>rfl)) ah))))
  (@az _ _ _ _ _ (eF (PW.pt (uz (m9 (iG (aN jQ hr rfl aM (af (pv 11) ah)))) (uz (cQ (zK hu) (aN gR hr rfl aM (af (pv 7) (af (pv 11) ah))) (pv 8) (cP _)) (pY (cQ (zK hu) (pv 9) (gz (af (pv 7) (af (pv 8) ah))) (cP _)))))) (@aP _ _ _ (aU ow)) eE)
  (@aP _ _ _ (oZ (Jl acy PySem.F.slot_list_clear PySem.F.type_list_clear Jm (aO aC (pv 11) ak (λ_ _=>rfl)))))))))))) (by intro _;rfl))))))))))
  (@aP _ _ _ (aU ow)))),?_⟩
 have hl:(ns.map V.int).length=ns.length:=aau _;refine⟨_,rfl,a,_,rfl,.inl hS,_,_,rfl,_,_,rfl,_,rfl,?_⟩;obtain⟨mx,emx,mx0,mx3⟩:∃mx:Int,(if(if((ns.map V.int).length:Int)<3 then((ns.map V.int).length:Int)else 3)>1 then(if((ns.map V.int).length:Int)<3 then((ns.map V.int).length:Int)else 3)else 1)=mx/\0<=mx/\mx<=3:=⟨_,rfl,by split<;>split<;>omega,by split<;>split<;>omega⟩;rw[emx];refine⟨by omega,by omega,?_⟩;refine iE (λi σ H'=> ∃o1 o2 o3 o4 o5 o6 o7 o8 o9 oa ob,σ=[some (.ref a),o1,o2,o3,o4,o5,o6,o7,o8,o9,oa,ob]/\ay H H') ⟨_,_,_,_,_,_,_,_,_,_,_,rfl,ay.refl _⟩ (λi σ H1 hi hh=> ?_) (λσ H1 hh=> ?_)
 ·obtain⟨o1,o2,o3,o4,o5,o6,o7,o8,o9,oa,ob,rfl,s1⟩:=hh
  refine⟨_,rfl,_,rfl,a,ns,_,rfl,s1.seq hS,h63,by omega,by omega,λB H2 s2 fB hb=> ?_⟩;refine⟨_,rfl,B,_,rfl,hb,by decide,by decide,λm t bs H3 uO dm ev ab le s3 ft fb nt nn T=> ?_⟩;have ym:=s1.trans s2;have fB0:H B=none:=s1.none fB;have out:∀{H':Hp},SB B H2 H'->ay H H':=λs b o e=>s.1 b o (λz=>by rw[z,fB0]at e;cases e) (ym _ _ e);have UY:t≠B:=hb.ne ft;have UZ:B∉bs:=λz=>hb.ne (fb B z) rfl;refine gN ?_;refine⟨_,_,rfl,rfl,⟨by decide,by decide,by decide⟩,(by show 4<=sizeLine;decide),λp hp=> ?_⟩;have sp:=ay.up (o:= .lst [V.int 3,.int 3,.int 3,.int (10^(4:Int).toNat)]) hp;have npB:p≠B:=s3.ne hp;have Yw:=s3.trans (SB.of s3.2 sp);refine⟨_,rfl,B,_,rfl,Yw.2,by decide,by decide,λd H5 d0 d4 s5=> ?_⟩;obtain⟨Cy,hv,f0,f1⟩:∃Cy:Int,AQ [V.int 3,.int 3,.int 3,.int (10^(4:Int).toNat)] d=some (.int Cy)/\0<=Cy/\Cy<=10000:=by
   have:d=0∨d=1∨d=2∨d=3:=by omega
   rcases this with rfl|rfl|rfl|rfl<;>exact⟨_,rfl,by decide,by decide⟩
  have Ro:=Yw.trans s5;refine⟨p,_,_,_,rfl,rfl,aZ.of (s5.1 p _ npB ao),hv,?_⟩;have T5:=T.sb ((SB.of s3.2 sp).trans s5) UY UZ;refine gN ?_;refine⟨_,rfl,_,rfl,_,rfl,B,Cy,rfl,Ro.2,f0,f1,λUl tbx WW Hx8 Yx Yy LA Va aac aad aae Yz=> ?_⟩;have Vb:=Ro.trans Va;refine⟨t,bs,m,tbx,WW,Ul,rfl,T5.sb Va UY UZ,Yz,uO,Yx,dm.mono (by decide),Yy.mono (by decide),λux YA Hx9 YB fux WX nux aaf Rt=> ?_⟩;have Rt:Tab Hx9 ux YA (aX m Ul):=Rt;have YC:=Vb.trans (SB.of Vb.2 YB);refine gN ?_;have T6:=T5.sb (Va.trans (SB.of Va.2 YB)) UY UZ;refine⟨_,rfl,_,rfl,_,rfl,B,Cy,rfl,YC.2,f0,f1,λUm tby WY Hy8 YD YE LB Vc aag aah aai YF=> ?_⟩;have YG:=YC.trans Vc;refine⟨t,bs,m,tby,WY,Um,rfl,T6.sb Vc UY UZ,YF,uO,YD,dm.mono (by decide),YE.mono (by decide),λuy usy WZ YH fuy aaj nuy aak Vd=> ?_⟩;have Vd:Tab WZ uy usy (aX m Um):=Vd;have syb:=YG.trans (SB.of YG.2 YH);refine gN ?_;have Xa:ux≠B:=Vb.ne fux;have Uo:B∉YA:=λz=>Vb.ne (WX B z) rfl;have Rt:=Rt.sb (Vc.trans (SB.of Vc.2 YH)) Xa Uo;have FA:∀{b:List (List Int)},aY b->Bd 100 b->aA b=1->aY (aX m b)/\Bd 440 (aX m b)/\br (aX m b)/\bQ (aX m b)=true/\aA (aX m b)/2<=200:=λc d u=>
   ⟨tV m _,(vI (vI d dm) (Br d)).mono (by decide),r9 ev uO c,qc (fG ev uO) ab c (.inl u),by rw[wG (.inl u)];exact le⟩
  have FX:=FA Yx Yy LA;have FY:=FA YD YE LB;have Ve:=Gy uO (.inl LA:cy (aA Ul)) (.inl LB:cy (aA Um));have Vf:=Gy uO (.inl LB:cy (aA Um)) (.inl LA:cy (aA Ul));have Xb:=Lr FX.1;have s09:=out syb;clear FA YF Yz T T5 T6 hp sp;generalize aX m Ul=CX at Rt FX Ve Vf Xb;generalize aX m Um=CY at Vd FY Ve Vf;refine⟨_,rfl,_,rfl,(by show 2<=sizeLine;decide),λq1 hq1=>⟨_,rfl,_,rfl,(by show 2<=sizeLine;decide),λq2 hq2=>⟨_,rfl,_,rfl,(by show 2<=sizeLine;decide),λq3 YI=>⟨(by show 3<=sizeLine;decide),λL hL=> ?_⟩⟩⟩⟩;have v1:=ay.up (o:= .tup [V.ref ux,.ref uy]) hq1;have v2:=ay.up (o:= .tup [V.ref uy,.ref ux]) hq2;have v3:=ay.up (o:= .tup [V.ref ux,.ref ux]) YI;have v4:=ay.up (o:= .lst [V.ref q1,.ref q2,.ref q3]) hL;obtain⟨J,eJ⟩:∃J,J=upd (upd (upd (upd WZ q1 (.tup [V.ref ux,.ref uy])) q2 (.tup [V.ref uy,.ref ux])) q3 (.tup [V.ref ux,.ref ux])) L (.lst [V.ref q1,.ref q2,.ref q3]):=⟨_,rfl⟩;have eL:J L=some (.lst [V.ref q1,.ref q2,.ref q3]):=by rw[eJ];exact ao
  have eq3:J q3=some (.tup [V.ref ux,.ref ux]):=by rw[eJ];exact v4 _ _ ao
  have eq2:J q2=some (.tup [V.ref uy,.ref ux]):=by rw[eJ];exact v4 _ _ (v3 _ _ ao)
  have eq1:J q1=some (.tup [V.ref ux,.ref uy]):=by rw[eJ];exact v4 _ _ (v3 _ _ (v2 _ _ ao))
  have sJ:ay WZ J:=by rw[eJ];exact v1.trans (v2.trans (v3.trans v4))
  rw[<-eJ];clear eJ v1 v2 v3 v4 hq1 hq2 YI hL;have TX:=Rt.same sJ;have TY:=Vd.same sJ;have YJ:=s09.trans sJ;refine⟨L,rfl,⟨_,aZ.of eL⟩,?_⟩;refine mD (xs:=[V.ref q1,.ref q2,.ref q3]) (λj σ H'=> ∃o7 o8 o9 oa ob,σ=[some (.ref a),some (.int (0+(i:Int))),some (.ref B),some (.ref t),some (.int Cy),some (.ref ux),some (.ref uy),o7,o8,o9,oa,ob]/\ay J H') ⟨_,_,_,_,_,rfl,ay.refl _⟩ (λj σ K1 hj hh=> ?_) (λj v σ K1 hv hh=> ?_) (λσ K1 hh=> ?_)
  ·obtain⟨o7,o8,o9,oa,ob,rfl,sK⟩:=hh
   exact aZ.of (sK _ _ eL)
  ·obtain⟨o7,o8,o9,oa,ob,rfl,sK⟩:=hh
   obtain⟨q0,f,Xc,F,s',YK,S,rfl,e0,Tf,Ts,FF,FS,GG⟩:∃q0 f Xc F s' YK S,v=V.ref q0/\J q0=some (.tup [.ref f,.ref s'])/\Tab J f Xc F/\Tab J s' YK S/\(aY F/\Bd 440 F/\br F/\bQ F=true/\aA F/2<=200)/\(aY S/\Bd 440 S/\br S/\bQ S=true/\aA S/2<=200)/\Il F S:=by
    have hm:=aaA hv;simp only[aar,aaJ,or_false]at hm;rcases hm with rfl|rfl|rfl
    ·exact⟨_,_,_,_,_,_,_,rfl,eq1,TX,TY,FX,FY,Ve⟩
    ·exact⟨_,_,_,_,_,_,_,rfl,eq2,TY,TX,FY,FX,Vf⟩
    ·exact⟨_,_,_,_,_,_,_,rfl,eq3,TX,TX,FX,FX,Xb⟩
   clear hv Ve Vf Xb FX FY;obtain⟨cF,dF,evF,abF,leF⟩:=FF;obtain⟨cS,dS,evS,abS,WQ⟩:=FS;refine⟨q0,_,rfl,nZ.of (sK _ _ e0),rfl,_,_,rfl,_,_,rfl,rfl,?_⟩;refine⟨_,rfl,f,rfl,⟨_,aZ.of (Tf.same sK).1⟩,λD hD=>Bx (Tf.same sK) (by rw[cF.1];decide) hD λhb1 G1 g1 f1 n1 nd1 Vg=> ?_⟩;refine⟨_,rfl,s',rfl,⟨_,aZ.of ((Ts.same sK).same g1).1⟩,λD2 CO=>Bx ((Ts.same sK).same g1) (by rw[cS.1];decide) CO λhb2 G2 g2 f2 n2 nd2 Vh=> ?_⟩;refine⟨(by show 2<=sizeLine;decide),λh hh=> ?_⟩;have u1:=ay.up (o:= .tup [V.ref D,.ref D2]) hh;obtain⟨G,eG⟩:∃G,G=upd G2 h (.tup [V.ref D,.ref D2]):=⟨_,rfl⟩;have eh:G h=some (.tup [V.ref D,.ref D2]):=by rw[eG];exact ao
   rw[<-eG]at u1;refine gN ?_;rw[<-eG];have Ru:=sK.trans (g1.trans (g2.trans u1));have Vg:=Vg.same (g2.trans u1);have Vh:=Vh.same u1;clear eG hh;refine⟨2,rfl,by decide,by decide,iE (n:=2) (λj σ H'=> ∃oa ob,σ=[some (.ref a),some (.int (0+(i:Int))),some (.ref B),some (.ref t),some (.int Cy),some (.ref ux),some (.ref uy),some (.ref f),some (.ref s'),some (.ref h),oa,ob]/\ay G H') ⟨_,_,rfl,ay.refl _⟩ (λj σ K2 hj hh=> ?_) (λσ K2 hh=> ?_)⟩
   ·obtain⟨oa,ob,rfl,sG⟩:=hh
    refine⟨_,rfl,h,_,_,_,rfl,rfl,nZ.of (sG _ _ eh),rfl,_,rfl,h,_,_,_,rfl,rfl,nZ.of (sG _ _ eh),rfl,?_⟩;have Rv:=YJ.trans (Ru.trans sG);refine⟨D,hb1,F,D2,hb2,S,rfl,Vg.same sG,cF,dF,evF,abF,leF,Vh.same sG,cS,dS,evS,abS,WQ,(Rv) _ _ (hT _ Io),(Rv) _ _ (hT _ Cz),(Rv) _ _ (hT _ t8),(Rv) _ _ (hT _ Ex),(Rv) _ _ (hT _ Ey),(Rv) _ _ (hC _ CA),λ_ r rs BB G3 g3 Tr B3 uB bB eB fr frs nr=> ?_,λz=>absurd GG z⟩;refine gN ?_;refine⟨_,rfl,r,rs,BB,rfl,Tr,B3,bB.mono (by decide),uB,λG4 g4=>⟨_,rfl,oB ?_⟩⟩;have YL:=sG.trans (g3.trans g4);refine⟨_,rfl,_,rfl,f,Xc,F,r,rs,BB,rfl,Tf.same (Ru.trans YL),Tr.same g4,cF,B3,dF.mono (by decide),bB.mono (by decide),λw ws G5 g5 fw Yr nw nnw Tw=> ?_⟩;have Tw:Tab G5 w ws (aX F BB):=Tw;rw[eB]at Tw;have YM:=YL.trans g5;refine⟨_,rfl,Gq Tw (Ts.same (Ru.trans YM)) ⟨_,rfl,wj rfl ?_⟩⟩;refine⟨_,rfl,_,rfl,_,rfl,(by show 2<=sizeLine;decide),λkp hkp=> ?_⟩;have uk:=ay.up (o:= .tup [V.ref f,.ref s']) hkp;have Up:=YM.trans uk;refine MW _ (FH (Up _ _ eh) (Vg.same Up) (Vh.same Up)) (FH ao (Tf.same (Ru.trans Up)) (Ts.same (Ru.trans Up))) (zO _ _) ⟨_,rfl,oB ?_⟩;have YN:=Tr.same (g4.trans (g5.trans uk));obtain⟨c2,z1,z2,zm⟩:=bC YN B3 (i:=0) (by decide);refine⟨_,rfl,r,_,_,_,rfl,rfl,aZ.of YN.1,z1,?_⟩;refine⟨.inl ⟨rfl,_,aZ.of z2⟩,c2,_,rfl,rfl,z2,?_⟩;exact⟨_,_,rfl,sG.trans (Ld (g3.trans (g4.trans (g5.trans uk))) (frs c2 zm))⟩
   ·obtain⟨oa,ob,rfl,sG⟩:=hh
    exact⟨_,_,_,_,_,rfl,Ru.trans sG⟩
  ·obtain⟨o7,o8,o9,oa,ob,rfl,sK⟩:=hh
   exact⟨_,_,_,_,_,_,_,_,_,_,_,rfl,YJ.trans sK⟩
 ·obtain⟨o1,o2,o3,o4,o5,o6,o7,o8,o9,oa,ob,rfl,s1⟩:=hh
  exact q _ s1
end
theorem all_mk{l:PySem.W.OpenLaw}{q:Program}{loose:List Str}{mean:ExcName->Option Value}{w:World}{K:PySem.W.Frag}{h:Heap}{mg mb:Str->Option Value}{fa zx yq xC yr Oe Ip Iq Ez CB xD n9 Ir QL zy Of Az Iu AA xE EA AB QM QN LC CC yt t9 EB yu Og QO Oh EC CD qH xF xG rV vp xH AD vq vt LD:Addr}(X:K.In h)(Tp:PyProof.Rows.Top q loose mean mg mb h)(hfa:mg "law"=some (.ref fa))
  (uc:FnAt K "product" sQ zx)
  (mj:FnAt K "turned_over" lW yq)
  (lu:FnAt K "signed_minor" kO xC)
  (mq:FnAt K "determinant" lX yr)
  (AE:FnAt K "cover" Ac Oe)
  (ud:FnAt K "carried" sU Ip)
  (uf:FnAt K "low_row" sY Iq)
  (qI:FnAt K "is_whole" qk Ez)
  (xJ:FnAt K "is_row" wR CB)
  (qJ:FnAt K "is_table" ql xD)
  (jR:FnAt K "is_even_table" jG n9)
  (ug:FnAt K "is_form" sW Ir)
  (ED:FnAt K "half" DW QL)
  (uh:FnAt K "pairing" sX zy)
  (AF:FnAt K "worth" Ad Of)
  (nT:FnAt K "less_times" nH Az)
  (um:FnAt K "nearest" tD Iu)
  (nU:FnAt K "least_pair" nI AA)
  (qK:FnAt K "in_order" qp xE)
  (qL:FnAt K "drawn_in" qt EA)
  (nV:FnAt K "near_basis" nJ AB)
  (EE:FnAt K "near" DY QM)
  (EF:FnAt K "root" DZ QN)
  (xK:FnAt K "slices" wX LC)
  (oX:FnAt K "near_rows" oQ CC)
  (mw:FnAt K "corner_rows" lZ yt)
  (jh:FnAt K "pairs_in_order" jd t9)
  (qM:FnAt K "is_basis" qm EB)
  (mC:FnAt K "least_basis" l6 yu)
  (AG:FnAt K "least" Af Og)
  (EG:FnAt K "back" DS QO)
  (AH:FnAt K "alike" Ag Oh)
  (qN:FnAt K "_law_bag" qu EC)
  (oY:FnAt K "_law_take" oS CD)
  (iD:FnAt K "_law_determinant" iA qH)
  (ly:FnAt K "_law_pairing" kR xF)
  (lz:FnAt K "_law_carried" kT xG)
  (iV:FnAt K "_law_drawn_form" iP rV)
  (jS:FnAt K "_law_is_above" jH vp)
  (lC:FnAt K "_law_reduced" kU xH)
  (nW:FnAt K "_law_basis" nK AD)
  (jT:FnAt K "_law_is_table" jI vq)
  (jU:FnAt K "_law_is_basis" jJ vt)
  {QS LF:Option Addr}{QT:Array (Option Value)}{QU LG LH LJ EH LK:Value}(GD:aa9 K mainGlobals "law"=some (some (.ref LD)))(LL:K.lookup LD=some ⟨QU,QS,.func (abm "law" "law" (ig rL) (fQ rL) (aD rL) .none LG LH LJ LF EH LK),QT⟩)(LM:abA K EH "law"=true)(LN:abR K (.ref LD)=true)
  {Iv:DefRec}(uo:(abM q).find? (λe=>e.name==("product":Str))=some Iv)
  {LP:DefRec}(xM:(abM q).find? (λe=>e.name==("is_row":Str))=some LP)
  {EI:DefRec}(qO:(abM q).find? (λe=>e.name==("is_table":Str))=some EI)
  {vz:DefRec}(jV:(abM q).find? (λe=>e.name==("is_even_table":Str))=some vz)
  {Iw:DefRec}(uq:(abM q).find? (λe=>e.name==("pairing":Str))=some Iw)
  {EJ:DefRec}(qP:(abM q).find? (λe=>e.name==("in_order":Str))=some EJ)
  (LQ:aa9 K mainGlobals "sum"=some none)
  (pJ:aa9 K mainGlobals "range"=some none)
  (nX:aa9 K mainGlobals "isinstance"=some none)
  (LR:aa9 K mainGlobals "int"=some none)
  (y_bool:aa9 K mainGlobals "bool"=some none)
  (EK:aa9 K mainGlobals "list"=some none)
  (LS:aa9 K mainGlobals "len"=some none)
  (LU:aa9 K mainGlobals "all"=some none)
  {jM:_}(jW:aa9 K mainGlobals "GREATEST_HALF"=some (some (Value.int 200 jM)))
  (LV:aa9 K mainGlobals "zip"=some none)
  (xN:aa9 K mainGlobals "sorted"=some none)
  (LW:aa9 K mainGlobals "abs"=some none)
  (LX:aa9 K mainGlobals "min"=some none)
  (LY:aa9 K mainGlobals "max"=some none)
  (ap:JI K [zx,CB,xD,n9,zy] [xE]=true)
  :∃(fd:FuncData)(tabs iw:List Addr),(∀(s:Shared)(v:Value),BindsTo s fd ⟨[v],[]⟩ [("_law_script",v)])/\(∀T∈tabs++iw,isCodeTable h T/\h.get? T=some {cls:= .none,data:= .fields #[]})/\(∀T∈tabs,T∉iw)/\ ∀base:Heap,K.In base->base.Ns mainGlobals mg->BM mg base->qW l.prog w K mg base dz 40 fa fd ["_law_script"] (GC K tabs iw):=by
 have G:=Tp.g;have e:=hfa.symm.trans (acP X G GD);cases e;have YO:=acP X G GD;obtain⟨bH,Iz,EL,EM,EN⟩:=uc.HN (ps:=ja) Tp X uo (λ_ _ _ _ _ _ us hl=>match us,hl with| [_,_],_=>rfl);have yv:=mj.fun (ps:=gv) Tp X (λ_ _ _ _ _ _ us hl=>match us,hl with| [_],_=>rfl);have xO:=lu.fun (ps:=gK) Tp X (λ_ _ _ _ _ _ us hl=>match us,hl with| [_,_,_],_=>rfl);have yw:=mq.fun (ps:=dZ) Tp X (λ_ _ _ _ _ _ us hl=>match us,hl with| [_],_=>rfl);have Oi:=AE.fun (ps:=pG) Tp X (λ_ _ _ _ _ _ us hl=>match us,hl with| [_],_=>rfl);have IA:=ud.fun (ps:=kj) Tp X (λ_ _ _ _ _ _ us hl=>match us,hl with| [_,_],_=>rfl);have ID:=uf.fun (ps:=mV) Tp X (λ_ _ _ _ _ _ us hl=>match us,hl with| [_],_=>rfl);have EO:=qI.fun (ps:=kM) Tp X (λ_ _ _ _ _ _ us hl=>match us,hl with| [_],_=>rfl);obtain⟨bK,LZ,IE,IF,II⟩:=xJ.HN (ps:=oN) Tp X xM (λ_ _ _ _ _ _ us hl=>match us,hl with| [_],_=>rfl);obtain⟨bg,ER,CF,CG,CH⟩:=qJ.HN (ps:=kN) Tp X qO (λ_ _ _ _ _ _ us hl=>match us,hl with| [_],_=>rfl);obtain⟨aJ,vB,ur,uu,uv⟩:=jR.HN (ps:=gm) Tp X jV (λ_ _ _ _ _ _ us hl=>match us,hl with| [_],_=>rfl);have IJ:=ug.fun (ps:=mU) Tp X (λ_ _ _ _ _ _ us hl=>match us,hl with| [_],_=>rfl);have QV:=ED.fun (ps:=sZ) Tp X (λ_ _ _ _ _ _ us hl=>match us,hl with| [_],_=>rfl);obtain⟨aE,IK,ES,ET,EU⟩:=uh.HN (ps:=gW) Tp X uq (λ_ _ _ _ _ _ us hl=>match us,hl with| [_,_,_],_=>rfl);have Oj:=AF.fun (ps:=nG) Tp X (λ_ _ _ _ _ _ us hl=>match us,hl with| [_,_],_=>rfl);have AI:=nT.fun (ps:=gX) Tp X (λ_ _ _ _ _ _ us hl=>match us,hl with| [_,_,_],_=>rfl);have IL:=um.fun (ps:=mW) Tp X (λ_ _ _ _ _ _ us hl=>match us,hl with| [_,_],_=>rfl);have AJ:=nU.fun (ps:=iN) Tp X (λ_ _ _ _ _ _ us hl=>match us,hl with| [_,_,_],_=>rfl);obtain⟨bh,EV,CI,CJ,jz⟩:=qK.HN (ps:=jc) Tp X qP (λ_ _ _ _ _ _ us hl=>match us,hl with| [_,_],_=>rfl);have EW:=qL.fun (ps:=kP) Tp X (λ_ _ _ _ _ _ us hl=>match us,hl with| [_,_,_,_],_=>rfl);have AK:=nV.fun (ps:=iO) Tp X (λ_ _ _ _ _ _ us hl=>match us,hl with| [_],_=>rfl);have QW:=EE.fun (ps:=wW) Tp X (λ_ _ _ _ _ _ us hl=>match us,hl with| [_],_=>rfl);have QX:=EF.fun (ps:=tE) Tp X (λ_ _ _ _ _ _ us hl=>match us,hl with| [_],_=>rfl);have Ma:=xK.fun (ps:=oO) Tp X (λ_ _ _ _ _ _ us hl=>match us,hl with| [_,_],_=>rfl);have CK:=oX.fun (ps:=ju) Tp X (λ_ _ _ _ _ _ us hl=>match us,hl with| [_,_],_=>rfl);have yx:=mw.fun (ps:=g9) Tp X (λ_ _ _ _ _ _ us hl=>match us,hl with| [_],_=>rfl);have uw:=jh.fun (ps:=fW) Tp X (λ_ _ _ _ _ _ us hl=>match us,hl with| [_,_,_],_=>rfl);have EX:=qM.fun (ps:=jb) Tp X (λ_ _ _ _ _ _ us hl=>match us,hl with| [_],_=>rfl);have yy:=mC.fun (ps:=ic) Tp X (λ_ _ _ _ _ _ us hl=>match us,hl with| [_],_=>rfl);have Ol:=AG.fun (ps:=rG) Tp X (λ_ _ _ _ _ _ us hl=>match us,hl with| [_],_=>rfl);have QY:=EG.fun (ps:=wV) Tp X (λ_ _ _ _ _ _ us hl=>match us,hl with| [_],_=>rfl);have Om:=AH.fun (ps:=rJ) Tp X (λ_ _ _ _ _ _ us hl=>match us,hl with| [_,_],_=>rfl);have EY:=qN.fun (ps:=kQ) Tp X (λ_ _ _ _ _ _ us hl=>match us,hl with| [_,_],_=>rfl);have CL:=oY.fun (ps:=f9) Tp X (λ_ _ _ _ _ _ us hl=>match us,hl with| [_,_],_=>rfl);have qQ:=iD.fun (ps:=dh) Tp X (λ_ _ _ _ _ _ us hl=>match us,hl with| [_],_=>rfl);have xP:=ly.fun (ps:=gO) Tp X (λ_ _ _ _ _ _ us hl=>match us,hl with| [_,_,_],_=>rfl);have xQ:=lz.fun (ps:=gP) Tp X (λ_ _ _ _ _ _ us hl=>match us,hl with| [_,_],_=>rfl);have rW:=iV.fun (ps:=fK) Tp X (λ_ _ _ _ _ _ us hl=>match us,hl with| [_],_=>rfl);have vC:=jS.fun (ps:=gp) Tp X (λ_ _ _ _ _ _ us hl=>match us,hl with| [_],_=>rfl);have xR:=lC.fun (ps:=gQ) Tp X (λ_ _ _ _ _ _ us hl=>match us,hl with| [_,_],_=>rfl);have AL:=nW.fun (ps:=iQ) Tp X (λ_ _ _ _ _ _ us hl=>match us,hl with| [_,_],_=>rfl);have vD:=jT.fun (ps:=gr) Tp X (λ_ _ _ _ _ _ us hl=>match us,hl with| [_],_=>rfl);have vE:=jU.fun (ps:=gu) Tp X (λ_ _ _ _ _ _ us hl=>match us,hl with| [_],_=>rfl);have Uq:=Jo (st:=rL) LL LM LN;have zg:=aaY X G LQ;have aB:=aaY X G pJ;have bV:=aaY X G nX;have jY:=aaY X G LR;have tL:=aaY X G y_bool;have iR:=aaY X G EK;have ie:=aaY X G LS;have pV:=aaY X G LU;have jN:=acP X G jW;have jZ:=aaY X G LV;have fL:=aaY X G xN;have rT:=aaY X G LW;have Ly:=aaY X G LX;have Lz:=aaY X G LY;refine⟨abm "law" "law" (ig rL) (fQ rL) (aD rL) .none LG LH LJ LF EH LK,[bH,bK,bg,aJ,aE],[bh],λs v=> .of_eq rfl,λT hT=> ?_,λT hT hC=> ?_,λbase GG _ bm=> ?_⟩
 ·simp only[aaE,aar,aaJ,or_false,or_assoc]at hT
  rcases hT with rfl|rfl|rfl|rfl|rfl|rfl
  ·exact⟨EL,EM⟩
  ·exact⟨IE,IF⟩
  ·exact⟨CF,CG⟩
  ·exact⟨ur,uu⟩
  ·exact⟨ES,ET⟩
  ·exact⟨CI,CJ⟩
 ·simp only[aar,aaJ,or_false]at hT hC
  rcases hT with e|e|e|e|e
  ·exact oG ap (by simp) (by simp) EN jz (e.symm.trans hC)
  ·exact oG ap (by simp) (by simp) II jz (e.symm.trans hC)
  ·exact oG ap (by simp) (by simp) CH jz (e.symm.trans hC)
  ·exact oG ap (by simp) (by simp) uv jz (e.symm.trans hC)
  ·exact oG ap (by simp) (by simp) EU jz (e.symm.trans hC)
 have gx:=Ea (P:=l.prog) (w:=w) (mg:=mg) (base:=base) Iz bm zg aB;have gy:=wZ (P:=l.prog) (w:=w) (mg:=mg) (base:=base) yv aB;have kW:=vh (P:=l.prog) (w:=w) (mg:=mg) (base:=base) xO;have bT:=w9 (P:=l.prog) (w:=w) (mg:=mg) (base:=base) yw;have pH:=KS (P:=l.prog) (w:=w) (mg:=mg) (base:=base) Oi aB kW.mono;have ko:=Ec (P:=l.prog) (w:=w) (mg:=mg) (base:=base) IA gx.mono gy.mono;have tO:=Ed (P:=l.prog) (w:=w) (mg:=mg) (base:=base) ID bT.mono pH.mono;have qv:=BS (P:=l.prog) (w:=w) (mg:=mg) (base:=base) EO bV jY tL;have xg:=HQ (P:=l.prog) (w:=w) (mg:=mg) (base:=base) LZ bm bV iR ie pV qv.mono;have qw:=BU (P:=l.prog) (w:=w) (mg:=mg) (base:=base) ER bm bV iR ie pV xg.mono;have jL:=tM (P:=l.prog) (w:=w) (mg:=mg) (base:=base) vB bm pV aB qw.mono gy.mono;have tP:=Ef (P:=l.prog) (w:=w) (mg:=mg) (base:=base) IJ jL.mono tO.mono;have qE:=NJ (P:=l.prog) (w:=w) (mg:=mg) (base:=base) QV jN tP.mono bT.mono;have cI:=Eh (P:=l.prog) (w:=w) (mg:=mg) (base:=base) IK bm zg jZ;have iS:=KU (P:=l.prog) (w:=w) (mg:=mg) (base:=base) Oj cI.mono;have gf:=yd (P:=l.prog) (w:=w) (mg:=mg) (base:=base) AI jZ;have tQ:=Ei (P:=l.prog) (w:=w) (mg:=mg) (base:=base) IL;have nL:=ye (P:=l.prog) (w:=w) (mg:=mg) (base:=base) AJ gf.mono tQ.mono cI.mono iS.mono;have iB:=BY (P:=l.prog) (w:=w) (mg:=mg) (base:=base) EV bm fL iS.mono;have qy:=BZ (P:=l.prog) (w:=w) (mg:=mg) (base:=base) EW cI.mono gf.mono iB.mono;have nM:=yf (P:=l.prog) (w:=w) (mg:=mg) (base:=base) AK iB.mono nL.mono qy.mono iS.mono;have Et:=NN (P:=l.prog) (w:=w) (mg:=mg) (base:=base) QW nM.mono ko.mono;have qz:=NP (P:=l.prog) (w:=w) (mg:=mg) (base:=base) QX;have xu:=HX (P:=l.prog) (w:=w) (mg:=mg) (base:=base) Ma aB bT.mono qz.mono;have oV:=Aq (P:=l.prog) (w:=w) (mg:=mg) (base:=base) CK fL xu.mono qz.mono;have l9:=xy (P:=l.prog) (w:=w) (mg:=mg) (base:=base) yx aB oV.mono;have jf:=rR (P:=l.prog) (w:=w) (mg:=mg) (base:=base) uw ie fL cI.mono;have jg:=Cq (P:=l.prog) (w:=w) (mg:=mg) (base:=base) EX bT.mono;have mh:=xA (P:=l.prog) (w:=w) (mg:=mg) (base:=base) yy l9.mono jf.mono cI.mono jg.mono;have vP:=Lp (P:=l.prog) (w:=w) (mg:=mg) (base:=base) Ol qE.mono Et.mono mh.mono ko.mono gx.mono;have Ew:=Od (P:=l.prog) (w:=w) (mg:=mg) (base:=base) QY jg.mono bT.mono pH.mono;have Ay:=Lv (P:=l.prog) (w:=w) (mg:=mg) (base:=base) Om qE.mono vP.mono Ew.mono gx.mono;have qG:=Ct (P:=l.prog) (w:=w) (mg:=mg) (base:=base) EY ie rT;have bE:=Aw (P:=l.prog) (w:=w) (mg:=mg) (base:=base) CL;have b7:=pP (P:=l.prog) (w:=w) (mg:=mg) (base:=base) qQ;have kZ:=vj (P:=l.prog) (w:=w) (mg:=mg) (base:=base) xP aB;have gR:=vm (P:=l.prog) (w:=w) (mg:=mg) (base:=base) xQ kZ.mono;have iU:=qF (P:=l.prog) (w:=w) (mg:=mg) (base:=base) rW bE.mono;have jO:=tZ (P:=l.prog) (w:=w) (mg:=mg) (base:=base) vC b7.mono;have lq:=vn (P:=l.prog) (w:=w) (mg:=mg) (base:=base) xR aB iU.mono jO.mono b7.mono bE.mono;have j8:=yo (P:=l.prog) (w:=w) (mg:=mg) (base:=base) AL aB jZ jY bE.mono;have jP:=t6 (P:=l.prog) (w:=w) (mg:=mg) (base:=base) vD bV iR ie jY tL;have jQ:=t7 (P:=l.prog) (w:=w) (mg:=mg) (base:=base) vE rT jP.mono b7.mono;exact(QK (P:=l.prog) (w:=w) (mg:=mg) (base:=base) (tabs:=[bH,bK,bg,aJ,aE]) (iw:=[bh]) (bK:=bK) (by simp) (bg:=bg) (by simp) (aJ:=aJ) (by simp) (bH:=bH) (by simp) (aE:=aE) (by simp) (bh:=bh) (by simp) Uq aB ie Ly Lz iR qG.mono bE.mono lq.mono j8.mono gR.mono Ay.mono jQ.mono).mono (by decide)
theorem walk{l:PySem.W.OpenLaw}{q:Program}{loose:List Str}{XP:(Str->Option Value) ->Heap->Prop}{YP:World->Heap->Prop}{d:DefRec}{K:Params->PySem.W.Frag}(hn:l.most=some 63)(hdf:d.params.defaults=[])
  (hY:∀(w:World)(h:Heap),YP w h->(K w.params).In h)(hcl:∀(w:World),ac2 (K w.params)=true)
  (F:∀(w:World)(mg mb:Str->Option Value)(mean:ExcName->Option Value)(fa:Addr)(h:Heap),(K w.params).In h->PyProof.Rows.Top q (PySem.W.looseW q loose) mean mg mb h->mg d.name=some (.ref fa) ->
   ∃(fd:FuncData)(tabs iw:List Addr),(∀(s:Shared)(u:Value),BindsTo s fd ⟨[u],[]⟩ [("_law_script",u)])/\(∀T∈tabs++iw,isCodeTable h T/\h.get? T=some {cls:= .none,data:= .fields #[]})/\(∀T∈tabs,T∉iw)/\
    ∀base:Heap,(K w.params).In base->base.Ns mainGlobals mg->BM mg base->qW l.prog w (K w.params) mg base dz 40 fa fd ["_law_script"] (GC (K w.params) tabs iw)):
  PySem.W.WalkO q loose XP YP l.row.toRowW d [] (λf vs=>PySem.call f vs):=
 L2.JJ (n:=63) (k:=40) (x:= "_law_script") (sp:=GC) hn (by decide) hdf ⟨rfl,by decide,by decide⟩ hY hcl F (λ_ tabs iw H a ns hl hT hC hS Q hQ=>⟨a,ns,rfl,hS,hl,hT,hC,hQ⟩)
theorem ws:PySem.W.OpenLaw.wellSaid PySem.Challenge.rw_conekin_k29_alike_forms=true:=by kernel_rfl
end CV
namespace PySem.W.Fast
theorem tw17213353253417169740:True:=⟨⟩
theorem tw10961934892431765915:True:=⟨⟩
theorem tw14218000686558904174:True:=⟨⟩
theorem tw8556962016763468124:True:=⟨⟩
theorem tw5142104443083851213:True:=⟨⟩
theorem tw14659917902426077101:True:=⟨⟩
theorem tw15259831309027622078:True:=⟨⟩
theorem tw8179097728691360227:True:=⟨⟩
theorem tw5096022110306763302:True:=⟨⟩
theorem tw8549728023325077934:True:=⟨⟩
theorem tw5180423106816554024:True:=⟨⟩
theorem tw5951158033444085090:True:=⟨⟩
theorem tw3425499598938417039:True:=⟨⟩
theorem tw16790970120724118142:True:=⟨⟩
theorem tw11038399991854233757:True:=⟨⟩
theorem tw12539741834296810039:True:=⟨⟩
theorem tw7169735239814592554:True:=⟨⟩
theorem tw18167872774568677970:True:=⟨⟩
theorem tw17892083310088423425:True:=⟨⟩
theorem tw16487325544992896823:True:=⟨⟩
theorem tw7006265206566114370:True:=⟨⟩
theorem tw2731071262650220658:True:=⟨⟩
theorem tw17469547687614777953:True:=⟨⟩
theorem tw9404725887456884756:True:=⟨⟩
theorem tw121826147883740817:True:=⟨⟩
theorem tw5365851210943079456:True:=⟨⟩
theorem tw10035718798022626818:True:=⟨⟩
theorem tw7053173308012523392:True:=⟨⟩
theorem tw14263013399646567339:True:=⟨⟩
theorem tw7246106474226787328:True:=⟨⟩
theorem tw3621762761322267544:True:=⟨⟩
theorem tw11130204501971302274:True:=⟨⟩
theorem tw14639023061934305049:True:=⟨⟩
theorem tw3975025195472434130:True:=⟨⟩
theorem tw16313529113356411144:True:=⟨⟩
theorem tw16083304612934473179:True:=⟨⟩
theorem tw18375874595694112592:True:=⟨⟩
theorem tw338581536552661510:True:=⟨⟩
theorem tw2760075130352810594:True:=⟨⟩
theorem tw17495824075502394237:True:=⟨⟩
theorem tw16006057155228621275:True:=⟨⟩
theorem tw248714103340372293:True:=⟨⟩
theorem tw10387030991826876128:True:=⟨⟩
theorem tw1993240174876089787:True:=⟨⟩
theorem tw2354240518157270867:True:=⟨⟩
theorem tw16988399100269338705:True:=⟨⟩
theorem tw3420261177380804994:True:=⟨⟩
theorem tw11732703154694693623:True:=⟨⟩
theorem tw1764081701030344579:True:=⟨⟩
theorem tw14622950674456316417:True:=⟨⟩
theorem tw11758840391717123278:True:=⟨⟩
theorem tw2293982587482845618:True:=⟨⟩
theorem tw4064257243345030536:True:=⟨⟩
theorem tw12099065339047706574:True:=⟨⟩
theorem tw1882022750096039680:True:=⟨⟩
theorem tw17585008397158919256:True:=⟨⟩
theorem tw8803274269923590074:True:=⟨⟩
theorem tw7538594344563334958:True:=⟨⟩
theorem tw3281495892622034967:True:=⟨⟩
theorem tw6979803017401933529:True:=⟨⟩
theorem tw12121799983514574437:True:=⟨⟩
theorem tw4741006191609875278:True:=⟨⟩
theorem tw4610539173689121414:True:=⟨⟩
theorem tw953989697606419479:True:=⟨⟩
theorem tw1264255909967480521:True:=⟨⟩
theorem tw2193166322781573353:True:=⟨⟩
theorem tw16972734782594749362:True:=⟨⟩
theorem tw17187811027415165046:True:=⟨⟩
theorem tw13682992776321647533:True:=⟨⟩
theorem tw2013394332188149248:True:=⟨⟩
theorem tw15228854002910699369:True:=⟨⟩
theorem tw5352816399416311128:True:=⟨⟩
theorem tw3029542090738589891:True:=⟨⟩
theorem tw10555109557784994321:True:=⟨⟩
theorem tw16784295178731812578:True:=⟨⟩
theorem tw3609073190141701546:True:=⟨⟩
theorem tw14173062734339219717:True:=⟨⟩
theorem tw13581420987757235500:True:=⟨⟩
theorem tw9688507387757186846:True:=⟨⟩
theorem tw14266200357620104416:True:=⟨⟩
theorem tw18164582797755655052:True:=⟨⟩
theorem tw40976010753926976:True:=⟨⟩
theorem tw1430539062451252353:True:=⟨⟩
theorem tw3027983031292950944:True:=⟨⟩
theorem tw14092208043017681308:True:=⟨⟩
theorem tw10368770077763257236:True:=⟨⟩
theorem tw3679753017662664529:True:=⟨⟩
theorem tw1735793016465514164:True:=⟨⟩
theorem tw4284101551502124597:True:=⟨⟩
theorem tw9341348881586717476:True:=⟨⟩
theorem tw10246037053244053920:True:=⟨⟩
theorem tw4680310745117381448:True:=⟨⟩
theorem tw5006314077243859475:True:=⟨⟩
theorem tw2869036708705988510:True:=⟨⟩
theorem tw14763943008798735817:True:=⟨⟩
theorem tw7614849566834843091:True:=⟨⟩
theorem tw4196580717185480777:True:=⟨⟩
theorem tw14773707321062625688:True:=⟨⟩
theorem tw14537646276649479579:True:=⟨⟩
theorem tw9322517214238903816:True:=⟨⟩
theorem tw6397103339856113739:True:=⟨⟩
theorem tw17867926162594248100:True:=⟨⟩
theorem tw2882820084590843284:True:=⟨⟩
theorem tw2952195757409975077:True:=⟨⟩
theorem tw13835756489370360287:True:=⟨⟩
theorem tw3905587059842360487:True:=⟨⟩
theorem tw5329921161303139518:True:=⟨⟩
theorem tw10437454410716002396:True:=⟨⟩
theorem tw11696886341013447325:True:=⟨⟩
theorem tw4119980043539480386:True:=⟨⟩
theorem tw570500992217613041:True:=⟨⟩
theorem tw5799356036954522956:True:=⟨⟩
theorem tw7334115210388969943:True:=⟨⟩
theorem tw3398148021078808122:True:=⟨⟩
theorem tw8306354258470206936:True:=⟨⟩
theorem tw11725593365496454471:True:=⟨⟩
theorem tw5748187865038214514:True:=⟨⟩
theorem tw1628224780148016206:True:=⟨⟩
theorem tw7554663864349617930:True:=⟨⟩
theorem tw14317676521007187277:True:=⟨⟩
theorem tw15685950856585822173:True:=⟨⟩
theorem tw11657523262062088759:True:=⟨⟩
theorem tw2191553200757801473:True:=⟨⟩
theorem tw569223040070344880:True:=⟨⟩
theorem tw11232132727654172240:True:=⟨⟩
theorem tw1922106481642821845:True:=⟨⟩
theorem tw9122802978734088166:True:=⟨⟩
theorem tw16362715825223202422:True:=⟨⟩
theorem tw5120223386914361614:True:=⟨⟩
theorem tw13730961169100589230:True:=⟨⟩
theorem tw13773359186669977336:True:=⟨⟩
theorem tw4811016371063088737:True:=⟨⟩
theorem tw8104999376151200722:True:=⟨⟩
theorem tw17047810121392900244:True:=⟨⟩
theorem tw13034249713000886103:True:=⟨⟩
theorem tw4303554406389135303:True:=⟨⟩
theorem tw5158337222666485561:True:=⟨⟩
theorem tw14969082737161294867:True:=⟨⟩
theorem tw14963838389071434205:True:=⟨⟩
theorem tw15279618860341870234:True:=⟨⟩
theorem tw7568483238740267776:True:=⟨⟩
theorem tw17706092702877625985:True:=⟨⟩
theorem tw11467960948645906789:True:=⟨⟩
theorem tw5448785051126364710:True:=⟨⟩
theorem tw7030256177243075337:True:=⟨⟩
theorem tw5721597287876834636:True:=⟨⟩
theorem tw8839842542185959685:True:=⟨⟩
theorem tw10673986441719624955:True:=⟨⟩
theorem tw8705585031480695493:True:=⟨⟩
theorem tw12262572728491892701:True:=⟨⟩
theorem tw11018990956555988881:True:=⟨⟩
theorem tw15180131175630490297:True:=⟨⟩
theorem tw10510583901537278255:True:=⟨⟩
theorem tw16213333394626435768:True:=⟨⟩
theorem tw17421930664026673562:True:=⟨⟩
theorem tw16086669807718053753:True:=⟨⟩
theorem tw8690304851845743766:True:=⟨⟩
theorem tw15893454014588298607:True:=⟨⟩
theorem tw4492166687723709913:True:=⟨⟩
theorem tw7225050145605134921:True:=⟨⟩
theorem tw5076480895141550859:True:=⟨⟩
theorem tw9805339881293698536:True:=⟨⟩
theorem tw5518499272445273333:True:=⟨⟩
theorem tw5206370395565088334:True:=⟨⟩
theorem tw2958820133102806030:True:=⟨⟩
theorem tw1667552310567920177:True:=⟨⟩
theorem tw8615246277698768222:True:=⟨⟩
theorem tw13200551396473393483:True:=⟨⟩
theorem tw4036232782513618014:True:=⟨⟩
theorem tw4388413268417620584:True:=⟨⟩
theorem tw3386637190880400308:True:=⟨⟩
theorem tw2307954425990422109:True:=⟨⟩
theorem tw12096160080255123015:True:=⟨⟩
theorem tw10905423894800994362:True:=⟨⟩
theorem tw17072654273058795727:True:=⟨⟩
theorem tw15979441151998960927:True:=⟨⟩
theorem tw14710290677130617040:True:=⟨⟩
theorem tw11362142990178421544:True:=⟨⟩
theorem tw6503817314782766622:True:=⟨⟩
theorem tw10734947381690919394:True:=⟨⟩
theorem tw13298396145367443121:True:=⟨⟩
theorem tw5437861353205388399:True:=⟨⟩
theorem tw6338243882321720340:True:=⟨⟩
theorem tw15103969028832630193:True:=⟨⟩
theorem tw13611596636862274918:True:=⟨⟩
theorem tw2902914254450853239:True:=⟨⟩
theorem tw7584965012541775185:True:=⟨⟩
theorem tw3566727346952888538:True:=⟨⟩
theorem tw17249759783303644411:True:=⟨⟩
theorem tw15057934600890083938:True:=⟨⟩
theorem tw17131754589807180225:True:=⟨⟩
theorem tw14539302484400282853:True:=⟨⟩
theorem tw716952659421655403:True:=⟨⟩
theorem tw7158023118356738559:True:=⟨⟩
theorem tw3415671851933573040:True:=⟨⟩
theorem tw14842821441843268862:True:=⟨⟩
theorem tw2591095724536177404:True:=⟨⟩
theorem tw7452279191224419707:True:=⟨⟩
theorem tw17350425991597506136:True:=⟨⟩
theorem tw3376868915995156409:True:=⟨⟩
theorem tw3307250553019864739:True:=⟨⟩
theorem tw17808165043248231054:True:=⟨⟩
theorem tw13681514969037948155:True:=⟨⟩
theorem tw12630234753813022171:True:=⟨⟩
theorem tw10117588620370124217:True:=⟨⟩
theorem tw17001233481610083854:True:=⟨⟩
theorem tw2366744606203592258:True:=⟨⟩
theorem tw17908556363298685663:True:=⟨⟩
theorem tw14707539563221584925:True:=⟨⟩
theorem tw1134054317986871523:True:=⟨⟩
theorem tw9191310826459936188:True:=⟨⟩
theorem tw8834903702598100865:True:=⟨⟩
theorem tw5943998888535437206:True:=⟨⟩
theorem tw4107897397881352672:True:=⟨⟩
theorem tw12435787345699132372:True:=⟨⟩
theorem tw4933141820399281617:True:=⟨⟩
theorem tw1113663317957288340:True:=⟨⟩
theorem tw8299407617743535266:True:=⟨⟩
theorem tw3019599807189312474:True:=⟨⟩
theorem tw17485089227782206121:True:=⟨⟩
theorem tw15575638774910455090:True:=⟨⟩
theorem tw1552547051053875202:True:=⟨⟩
theorem tw14459846938757568270:True:=⟨⟩
theorem tw1380972183145403384:True:=⟨⟩
theorem tw13259319603070968544:True:=⟨⟩
theorem tw8128756813162484863:True:=⟨⟩
theorem tw5660352493084338783:True:=⟨⟩
theorem tw7678593836618153629:True:=⟨⟩
theorem tw7423635713380242321:True:=⟨⟩
theorem tw563818357215784253:True:=⟨⟩
theorem tw3258987133505862248:True:=⟨⟩
theorem tw11116344888992885301:True:=⟨⟩
theorem tw7546919447768609620:True:=⟨⟩
theorem tw2715243216191293582:True:=⟨⟩
theorem tw2339266674935888459:True:=⟨⟩
theorem tw1314178211900801303:True:=⟨⟩
theorem tw88552001595574585:True:=⟨⟩
theorem tw5249472591248544936:True:=⟨⟩
theorem tw18059619751773197115:True:=⟨⟩
theorem tw13959179789343484009:True:=⟨⟩
theorem tw12994128530978808176:True:=⟨⟩
theorem tw1806930085637865493:True:=⟨⟩
theorem tw13500169852133857814:True:=⟨⟩
theorem tw12155966654770657161:True:=⟨⟩
theorem tw9787350140156930486:True:=⟨⟩
theorem tw9427994773812034545:True:=⟨⟩
theorem tw9395900333097638743:True:=⟨⟩
theorem tw9271986039051307550:True:=⟨⟩
theorem tw8637146236278197257:True:=⟨⟩
theorem tw8531251455164806741:True:=⟨⟩
theorem tw8517486147133184950:True:=⟨⟩
theorem tw839683660559727884:True:=⟨⟩
theorem tw8372523978626099251:True:=⟨⟩
theorem tw832421082073603297:True:=⟨⟩
theorem tw8253705835756012475:True:=⟨⟩
theorem tw8067119085781559844:True:=⟨⟩
theorem tw762757604174557723:True:=⟨⟩
theorem tw712645523201573016:True:=⟨⟩
theorem tw7027212561246667091:True:=⟨⟩
theorem tw6766242744951402876:True:=⟨⟩
theorem tw6475319137899094537:True:=⟨⟩
theorem tw6253107959509904657:True:=⟨⟩
theorem tw6205104097679164026:True:=⟨⟩
theorem tw6181721874825359015:True:=⟨⟩
theorem tw5944372150869327904:True:=⟨⟩
theorem tw5851229945582421774:True:=⟨⟩
theorem tw5823300524607729136:True:=⟨⟩
theorem tw5783187851136597141:True:=⟨⟩
theorem tw5778350060643566916:True:=⟨⟩
theorem tw5573432614177759103:True:=⟨⟩
theorem tw4587763822349308448:True:=⟨⟩
theorem tw4455936082977300538:True:=⟨⟩
theorem tw443980242803574103:True:=⟨⟩
theorem tw394341632074490127:True:=⟨⟩
theorem tw3878924463138275282:True:=⟨⟩
theorem tw370992201119312803:True:=⟨⟩
theorem tw3613431543440993368:True:=⟨⟩
theorem tw3148625232514111668:True:=⟨⟩
theorem tw289057704613549324:True:=⟨⟩
theorem tw2687695700618529793:True:=⟨⟩
theorem tw2662699117367164578:True:=⟨⟩
theorem tw2648871451050576931:True:=⟨⟩
theorem tw2642074735658487370:True:=⟨⟩
theorem tw2339334798776386992:True:=⟨⟩
theorem tw2011577639597698480:True:=⟨⟩
theorem tw18015021995743578647:True:=⟨⟩
theorem tw17967118879449238180:True:=⟨⟩
theorem tw17903107675982336289:True:=⟨⟩
theorem tw17863988596625456372:True:=⟨⟩
theorem tw17794123398688097621:True:=⟨⟩
theorem tw17757089079119120788:True:=⟨⟩
theorem tw17739085030836846161:True:=⟨⟩
theorem tw1764274864543935834:True:=⟨⟩
theorem tw17512700563201548884:True:=⟨⟩
theorem tw17429763744121630206:True:=⟨⟩
theorem tw16828078632560881448:True:=⟨⟩
theorem tw16750460642384702289:True:=⟨⟩
theorem tw16687197956473955589:True:=⟨⟩
theorem tw16559277929007655009:True:=⟨⟩
theorem tw16417650960972577952:True:=⟨⟩
theorem tw16180533119715255573:True:=⟨⟩
theorem tw16044709960430513128:True:=⟨⟩
theorem tw15756482031269740217:True:=⟨⟩
theorem tw15202593997591921874:True:=⟨⟩
theorem tw15120389785356754229:True:=⟨⟩
theorem tw14957768475694829874:True:=⟨⟩
theorem tw14887659766504199051:True:=⟨⟩
theorem tw14749120817842556644:True:=⟨⟩
theorem tw14445159158900462765:True:=⟨⟩
theorem tw1426148422692375720:True:=⟨⟩
theorem tw1413341091281885139:True:=⟨⟩
theorem tw13980840108138211374:True:=⟨⟩
theorem tw13926888347570339219:True:=⟨⟩
theorem tw13760307650377486861:True:=⟨⟩
theorem tw13506227695321429443:True:=⟨⟩
theorem tw12954600415166679983:True:=⟨⟩
theorem tw12810156776694911609:True:=⟨⟩
theorem tw12543251781257891619:True:=⟨⟩
theorem tw12522508945702626813:True:=⟨⟩
theorem tw12438543779716560463:True:=⟨⟩
theorem tw12320891703179741920:True:=⟨⟩
theorem tw11691803937584932476:True:=⟨⟩
theorem tw11562409406687038744:True:=⟨⟩
theorem tw11163331611125859583:True:=⟨⟩
theorem tw10907001440523703763:True:=⟨⟩
theorem tw1032752974652293865:True:=⟨⟩
theorem tw10005246301850020859:True:=⟨⟩
end PySem.W.Fast
end
open PySem PySem.W PyProof.Rows
set_option maxRecDepth 100000 in
set_option maxHeartbeats 0 in
theorem PySem.Challenge.cw_conekin_k29_alike_forms_holds : PySem.Challenge.rw_conekin_k29_alike_forms.Holds := by
 w_on;refine PySem.W.holds_law CV.ws λsaid=> ?_;k_head;(case hw=>w_witness2)
 k_fill
 refine CV.walk (l:=PySem.Challenge.rw_conekin_k29_alike_forms) rfl rfl (λw h Y=>by first|exact PySem.W.kIn_of Y|exact PySem.W.km_in_of Y) ?cl ?F
 case cl=>
  intro w
  first|kernel_rfl|(trace_state;k_is)
 case F=>
  intro w mg mb mean fa h KX Tp hmg
  refine' CV.all_mk KX Tp hmg ?uc ?mj ?lu ?mq ?AE ?ud ?uf ?qI ?xJ ?qJ ?jR ?ug ?ED ?uh ?AF ?nT ?um ?nU ?qK ?qL ?nV ?EE ?EF ?xK ?oX ?mw ?jh ?qM ?mC ?AG ?EG ?AH ?qN ?oY ?iD ?ly ?lz ?iV ?jS ?lC ?nW ?jT ?jU ?GD ?LL ?LM ?LN ?uo ?xM ?qO ?jV ?uq ?qP ?LQ ?pJ ?nX ?LR ?y_bool ?EK ?LS ?LU ?jW ?LV ?xN ?LW ?LX ?LY ?ap
  (case uc=>exact L2.fnAt)
  (case mj=>exact L2.fnAt)
  (case lu=>exact L2.fnAt)
  (case mq=>exact L2.fnAt)
  (case AE=>exact L2.fnAt)
  (case ud=>exact L2.fnAt)
  (case uf=>exact L2.fnAt)
  (case qI=>exact L2.fnAt)
  (case xJ=>exact L2.fnAt)
  (case qJ=>exact L2.fnAt)
  (case jR=>exact L2.fnAt)
  (case ug=>exact L2.fnAt)
  (case ED=>exact L2.fnAt)
  (case uh=>exact L2.fnAt)
  (case AF=>exact L2.fnAt)
  (case nT=>exact L2.fnAt)
  (case um=>exact L2.fnAt)
  (case nU=>exact L2.fnAt)
  (case qK=>exact L2.fnAt)
  (case qL=>exact L2.fnAt)
  (case nV=>exact L2.fnAt)
  (case EE=>exact L2.fnAt)
  (case EF=>exact L2.fnAt)
  (case xK=>exact L2.fnAt)
  (case oX=>exact L2.fnAt)
  (case mw=>exact L2.fnAt)
  (case jh=>exact L2.fnAt)
  (case qM=>exact L2.fnAt)
  (case mC=>exact L2.fnAt)
  (case AG=>exact L2.fnAt)
  (case EG=>exact L2.fnAt)
  (case AH=>exact L2.fnAt)
  (case qN=>exact L2.fnAt)
  (case oY=>exact L2.fnAt)
  (case iD=>exact L2.fnAt)
  (case ly=>exact L2.fnAt)
  (case lz=>exact L2.fnAt)
  (case iV=>exact L2.fnAt)
  (case jS=>exact L2.fnAt)
  (case lC=>exact L2.fnAt)
  (case nW=>exact L2.fnAt)
  (case jT=>exact L2.fnAt)
  (case jU=>exact L2.fnAt)
  (case GD=>k_is);(case LL=>k_is);(case LM=>k_is);(case LN=>k_is)
  (case uo=>rfl)
  (case xM=>rfl)
  (case qO=>rfl)
  (case jV=>rfl)
  (case uq=>rfl)
  (case qP=>rfl)
  (case LQ=>k_is)
  (case pJ=>k_is)
  (case nX=>k_is)
  (case LR=>k_is)
  (case y_bool=>k_is)
  (case EK=>k_is)
  (case LS=>k_is)
  (case LU=>k_is)
  (case jW=>k_is)
  (case LV=>k_is)
  (case xN=>k_is)
  (case LW=>k_is)
  (case LX=>k_is)
  (case LY=>k_is)
  (case ap=>kernel_rfl)
