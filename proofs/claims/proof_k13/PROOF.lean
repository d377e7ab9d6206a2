import PyProof.Rows.All
import Wide.All
import OpenK.AllK
import Wide.FinOn
import PyProof.EqAt
import PyProof.EqKinds
import PyProof.TupleCall
import PyProof.ExcBaseAll.ValueError
import PyProof.ExcArgsOwn
import PyProof.ExcInit
import PyProof.InstStoreFacts
import Lean
import PySem.Challenge.RW_figurewheel_k13_no_words
set_option linter.all false
set_option Elab.async false
set_option maxRecDepth 100000
set_option maxHeartbeats 4000000
set_option bootstrap.genMatcherCode false
namespace L2
open PySem PySem.Spec PyProof.Rows
noncomputable abbrev Key:=Sum Int Str
noncomputable def keyIs:Key→Value→Bool
 | .inl k,v=>Value.isInt k v
 | .inr x,v=>Value.isStrOf x v
noncomputable def keyH(w:World):Key→Int
 | .inl k=>hashInt k
 | .inr x=>hashStr w x
theorem keyIs_shape:∀ {k:Key} {v:Value},keyIs k v=true→(∃ i t,k=Sum.inl i∧v=Value.int i t)∨(∃ x t,k=Sum.inr x∧v=Value.str x t)
 | .inl i,v,h=>by
  obtain⟨t,e⟩:=Value.isInt_shape (k:=i) (v:=v) h
  exact .inl ⟨i,t,rfl,e⟩
 | .inr x,v,h=>by
  obtain⟨t,e⟩:=Value.isStrOf_shape (x:=x) (v:=v) h
  exact .inr ⟨x,t,rfl,e⟩
theorem keyIs_int(i:Int)(t:Tok):keyIs (.inl i) (.int i t)=true:=by simp[keyIs,Value.isInt]
theorem keyIs_str(x:Str)(t:Tok):keyIs (.inr x) (.str x t)=true:=by simp[keyIs,Value.isStrOf]
theorem key_ll(a b:Int):decide ((Sum.inl a:Key)=Sum.inl b)=(a == b):=by
 by_cases e:a=b
 ·subst e;simp
 ·have h:¬ (Sum.inl a:Key)=Sum.inl b:=fun q=>e (Sum.inl.inj q)
  rw[decide_eq_false h]
  exact (beq_eq_false_iff_ne.mpr e).symm
theorem key_rr(a b:Str):decide ((Sum.inr a:Key)=Sum.inr b)=decide (a=b):=by
 by_cases e:a=b
 ·subst e;simp
 ·have h:¬ (Sum.inr a:Key)=Sum.inr b:=fun q=>e (Sum.inr.inj q)
  rw[decide_eq_false h,decide_eq_false e]
theorem key_lr(a:Int)(b:Str):decide ((Sum.inl a:Key)=Sum.inr b)=false:=decide_eq_false (fun q=>nomatch q)
theorem key_rl(a:Str)(b:Int):decide ((Sum.inr a:Key)=Sum.inl b)=false:=decide_eq_false (fun q=>nomatch q)
noncomputable def mixKind(prog:Program)(w:World):PySem.KeyKind prog w Key where
 is:=keyIs
 hash:=keyH w
 inj:=fun v a b ha hb=>by
  rcases keyIs_shape ha with⟨i,t,rfl,rfl⟩|⟨x,t,rfl,rfl⟩
  ·rcases keyIs_shape hb with⟨j,u,rfl,e⟩|⟨y,u,rfl,e⟩
   ·injection e with e1 _;rw[e1]
   ·exact nomatch e
  ·rcases keyIs_shape hb with⟨j,u,rfl,e⟩|⟨y,u,rfl,e⟩
   ·exact nomatch e
   ·injection e with e1 _;rw[e1]
 byValue:=fun k v h=>by
  rcases keyIs_shape h with⟨i,t,rfl,rfl⟩|⟨x,t,rfl,rfl⟩<;>rfl
 pyHash:=fun hv h=>by
  rcases keyIs_shape hv with⟨i,t,rfl,rfl⟩|⟨x,t,rfl,rfl⟩
  ·exact wpAny_pyHash_int h
  ·exact wpAny_pyHash_str h
 eqBool:=fun hu hv h=>by
  rcases keyIs_shape hu with⟨i,t,rfl,rfl⟩|⟨x,t,rfl,rfl⟩
  ·rcases keyIs_shape hv with⟨j,u,rfl,rfl⟩|⟨y,u,rfl,rfl⟩
   ·rw[key_ll] at h;exact wpAny_eqBool_int h
   ·rw[key_lr] at h;exact SeqAt.EqAt.int_str i t y u _ _ _ _ h
  ·rcases keyIs_shape hv with⟨j,u,rfl,rfl⟩|⟨y,u,rfl,rfl⟩
   ·rw[key_rl] at h;exact SeqAt.EqAt.str_int x t j u _ _ _ _ h
   ·rw[key_rr] at h;exact wpAny_eqBool_str h
 «strs»:=fun k x t v h=>by
  rcases keyIs_shape h with⟨i,u,rfl,e⟩|⟨y,u,rfl,e⟩
  ·exact nomatch e
  ·injection e with e1 _
   subst e1
   cases v<;>rfl
theorem mixKind_int(prog:Program)(w:World)(i:Int)(t:Tok):(mixKind prog w).is (.inl i) (.int i t)=true:=keyIs_int i t
theorem mixKind_str(prog:Program)(w:World)(x:Str)(t:Tok):(mixKind prog w).is (.inr x) (.str x t)=true:=keyIs_str x t
end L2
namespace PySem
section
variable{prog:Program}{w:World}{KT:Type}[DecidableEq KT](kd:KeyKind prog w KT)
noncomputable def PairAt(h:Heap)(z:KT×List KT)(a:Addr):Prop :=
 ∃ (ob:Obj) (its:Array Value) (c:Nat) (u:Value) (b:Addr),h.get? a=some ob∧ob.cls=.type "tuple" ∧ ob.data=.seq its c∧its.toList=[u,.ref b]∧kd.is z.1 u=true∧IsTupleKey kd h z.2 b
noncomputable def pairHash(z:KT×List KT):Int:=reduceHash (Builtin.Tuple.tupleHashOf [kd.hash z.1,tupleKeyHash kd z.2])
variable{kd}
theorem PairAt.tp{s:Shared}{z:KT×List KT}{a:Addr}(x:PairAt kd s.heap z a):s.TypeIs (.ref a) "tuple" :=
 let ⟨ob,_,_,_,_,e,hc,_⟩:=x;⟨ob,e,hc⟩
theorem PairAt.one{h:Heap}{a:Addr}{y z:KT×List KT}(hy:PairAt kd h y a)(hz:PairAt kd h z a):y=z:=by
 obtain⟨o1,i1,c1,u1,b1,e1,_,d1,l1,f1,g1⟩:=hy
 obtain⟨o2,i2,c2,u2,b2,e2,_,d2,l2,f2,g2⟩:=hz
 rw[e1] at e2
 cases e2
 rw[d1] at d2
 cases d2
 rw[l1] at l2
 cases l2
 exact Prod.ext (kd.inj _ _ _ f1 f2) (g1.inj g2)
theorem PairAt.stay{h h':Heap}{z:KT×List KT}{a d:Addr}{ob:Obj}{es ep}(x:PairAt kd h z a)(hd:h.get? d=some ob)(hx:ob.data=.dict es ep)(hs:Heap.SameBut d h h'):PairAt kd h' z a:=by
 obtain⟨o1,i1,c1,u1,b1,e1,k1,d1,l1,f1,g1⟩:=x
 have ne:a≠d:=fun q=>by
  subst q
  rw[e1] at hd
  cases hd
  rw[d1] at hx
  cases hx
 exact⟨o1,i1,c1,u1,b1,(hs.2 a ne).trans e1,k1,d1,l1,f1,g1.keeps hd hx hs⟩
variable{A:Around}{E:Value→Shared→Prop}{s:Shared}
theorem pair_hash{z:KT×List KT}{a:Addr}{Q:Int→Shared→Prop}(hv:A.units<cLine∧A.in1.units<cLine)(hz:PairAt kd s.heap z a)(q:Q (pairHash kd z) { s with toks:=s.toks+(z.2.length+3) }) :
  wpAny (model prog w) A (pyHash (.ref a)) Q E s:=by
 have tp:=hz.tp
 obtain⟨ob,its,c,u,b,e1,_,d1,l1,f1,g1⟩:=hz
 unfold pyHash
 unfold pyHashByItsType
 refine wpAny_bind (wpAny_cRoomFor_or (.inr hv.1) ?_)
 refine wpAny_bind (wpAny_specialOf tp F.slot_tuple_hash.lookup ?_)
 show wpAny _ A (if (some (Value.builtin "tuple.__hash__") == some Value.none)=true then _ else _) Q E s
 rw[if_neg (by rw[beq_builtin_none];exact Bool.false_ne_true)]
 refine wpAny_bind (wpAny_specialOf tp F.slot_tuple_hash.lookup ?_)
 show wpAny _ A (callSpecialIfBoundUnlessNone? (.ref a) "__hash__" _ >>= _) Q E s
 refine wpAny_bind (wpAny_callSpecialIfBoundUnlessNone?_slot tp F.slot_tuple_hash (wpAny_call_entry F.slot_tuple_hash tp F.entry_tuple_hash ?_ (F.args_tuple_hash_1 _)))
 show wpAny _ _ (Builtin.Tuple.tupleItemsOf (.ref a) >>= _) _ _ s
 refine wpAny_bind (wpAny_tupleItemsOf e1 d1 ?_)
 refine wpAny_bind ?_
 rw[← Array.forIn_toList,l1]
 refine wpAny_forIn_list _
  (fun rest (acc:Array Int) s'=>(rest=[u,.ref b]∧acc.toList=[]∧s'=s)∨(rest=[.ref b]∧acc.toList=[kd.hash z.1]∧s'={ s with toks:=s.toks+1 })∨(rest=[]∧acc.toList=[kd.hash z.1,tupleKeyHash kd z.2]∧s'={ s with toks:=s.toks+(z.2.length+2) }))
  _ ?_ ?_ _ _ (.inl ⟨rfl,rfl,rfl⟩)
 ·rintro x rest acc s' (⟨r1,r2,rfl⟩|⟨r1,r2,rfl⟩|⟨r1,_⟩)
  ·cases r1
   refine wpAny_bind (kd.pyHash f1 ?_)
   first
    | exact wpAny_pure (.inr (.inl ⟨rfl,by simp[r2],rfl⟩))
    | exact wpAny_bind (wpAny_pure (wpAny_pure (.inr (.inl ⟨rfl,by simp[r2],rfl⟩))))
  ·cases r1
   refine wpAny_bind (wpAny_pyHash_tuple hv.2 g1 ?_)
   first
    | exact wpAny_pure (.inr (.inr ⟨rfl,by simp[r2],by simp;omega⟩))
    | exact wpAny_bind (wpAny_pure (wpAny_pure (.inr (.inr ⟨rfl,by simp[r2],by simp;omega⟩))))
  ·cases r1
 ·rintro acc s' (⟨r1,_⟩|⟨r1,_⟩|⟨_,r2,rfl⟩)
  ·cases r1
  ·cases r1
  show wpAny _ _ (retInt (Builtin.Tuple.tupleHashOf acc.toList)) _ _ _
  rw[r2]
  refine wpAny_ret_mkInt ?_
  unfold pairHash reduceHash at q
  generalize Builtin.Tuple.tupleHashOf [kd.hash z.1,tupleKeyHash kd z.2]=hh at q
  show wpAny _ A (if (decide (-(2:Int) ^ 63≤hh) && decide (hh<2 ^ 63))=true then _ else _) Q E _
  split at q<;>rename_i hr
  ·rw[if_pos hr]
   exact wpAny_pure (by simpa [Nat.add_assoc] using q)
  ·rw[if_neg hr]
   exact wpAny_bind (wpAny_rule (wpAny_pure (by simpa [Nat.add_assoc] using q)))
theorem pair_eq_tree{y z:KT×List KT}{a b:Addr}{R:Fin→Shared→Prop}(hu:A.units<cLine)(hy:PairAt kd s.heap y a)(hz:PairAt kd s.heap z b)(q:R (.done (.ret (.bool (decide (y=z))))) s) :
  wpAny (model prog w) A (Builtin.«tuple.__eq__» ⟨[.ref a,.ref b],[]⟩) R E s:=by
 have tb:=hz.tp
 obtain⟨o1,i1,c1,u1,b1,e1,k1,d1,l1,f1,g1⟩:=hy
 obtain⟨o2,i2,c2,u2,b2,e2,k2,d2,l2,f2,g2⟩:=hz
 show wpAny _ A (isInstance (.ref b) (.type "tuple") >>= _) _ _ s
 refine wpAny_bind (wpAny_isInstance tb isSubtype_tuple_tuple ?_)
 simp only[Bool.not_true,Bool.false_eq_true,if_false]
 refine wpAny_bind (wpAny_tupleItemsOf e1 d1 ?_)
 refine wpAny_bind (wpAny_tupleItemsOf e2 d2 ?_)
 have zz:(i1.size == i2.size)=true:=by
  have a1:=congrArg List.length l1
  have a2:=congrArg List.length l2
  rw[Array.length_toList] at a1 a2
  rw[a1,a2];rfl
 refine wpAny_bind ?_
 rw[l1,l2]
 refine wpAny_forIn_list _
  (fun rest r s'=>r.1=none∧s'=s∧(rest=[(u1,u2),(.ref b1,.ref b2)]∨(rest=[(.ref b1,.ref b2)]∧y.1=z.1)∨(rest=[]∧y=z)))
  _ ?_ ?_ _ _ ⟨rfl,rfl,.inl rfl⟩
 ·rintro x rest r s' ⟨hr,rfl,r1|⟨r1,ey⟩|⟨r1,_⟩⟩
  ·cases r1
   refine wpAny_bind (kd.eqBool (a:=y.1) (b:=z.1) f1 f2 ?_)
   by_cases hk:y.1=z.1
   ·rw[decide_eq_true hk]
    simp only[Bool.not_true,Bool.false_eq_true,if_false]
    exact wpAny_pure ⟨rfl,rfl,.inr (.inl ⟨by trivial,hk⟩)⟩
   ·rw[decide_eq_false hk]
    simp only[Bool.not_false,if_true]
    rw[decide_eq_false (fun e=>hk (by rw[e]))] at q
    exact wpAny_bind (wpAny_pure (wpAny_pure (wpAny_pure q)))
  ·cases r1
   refine wpAny_bind (wpAny_eqBool_tuple hu g1 g2 ?_)
   by_cases hk:y.2=z.2
   ·rw[decide_eq_true hk]
    simp only[Bool.not_true,Bool.false_eq_true,if_false]
    exact wpAny_pure ⟨rfl,rfl,.inr (.inr ⟨by trivial,Prod.ext ey hk⟩)⟩
   ·rw[decide_eq_false hk]
    simp only[Bool.not_false,if_true]
    rw[decide_eq_false (fun e=>hk (by rw[e]))] at q
    exact wpAny_bind (wpAny_pure (wpAny_pure (wpAny_pure q)))
  ·cases r1
 ·rintro⟨r1,r2⟩ s' ⟨hr,rfl,z1|⟨z1,_⟩|⟨_,ey⟩⟩
  ·cases z1
  ·cases z1
  simp only at hr
  subst hr
  refine wpAny_pure ?_
  show R (.done (.ret (.bool (i1.size == i2.size)))) s'
  rw[zz]
  rw[decide_eq_true ey] at q
  exact q
theorem pair_eq{y z:KT×List KT}{a b:Addr}{Q:Bool→Shared→Prop}(hv:A.units<cLine∧A.in1.units<cLine)(hy:PairAt kd s.heap y a)(hz:PairAt kd s.heap z b)(q:Q (decide (y=z)) s) :
  wpAny (model prog w) A (eqBool (.ref a) (.ref b)) Q E s:=by
 unfold eqBool
 try with_reducible refine wpAny_holding ?_
 show wpAny _ A (if (Value.ref a == Value.ref b)=true then _ else _) Q E s
 by_cases ab:(Value.ref a == Value.ref b)=true
 ·rw[if_pos ab]
  have e:a=b:=by have:=eq_of_beq ab;injection this
  subst e
  have e2:=hy.one hz
  subst e2
  exact wpAny_bind (wpAny_rule (wpAny_pure (by simpa using q)))
 ·rw[if_neg ab]
  exact wpAny_bind (wpAny_richCompare_same_room (op:=.Eq) hy.tp hz.tp F.slot_tuple_eq (wpAny_call_entry F.slot_tuple_eq hy.tp F.entry_tuple_eq (pair_eq_tree hv.2 hy hz ⟨_,rfl,(fun e=>nomatch e),wpAny_truthy_bool q⟩) (F.args_tuple_eq_2 _ _)) hv.1)
theorem quiet_flat{ks:List KT}{a:Addr}{m:Nat}{Q:Bool→Shared→Prop}(hk:IsTupleKey kd s.heap ks a)(q:Q true s):wpAny (model prog w) A (eqIsQuiet (m+1) (.ref a)) Q E s:=by
 have tp:=hk.typeIs
 obtain⟨o1,i1,c1,e1,_,d1,g1⟩:=hk
 unfold eqIsQuiet
 refine wpAny_bind (wpAny_specialOf tp F.slot_tuple_eq.lookup ?_)
 show wpAny _ A (isInstance (.ref a) (.type "tuple") >>= _) _ _ s
 refine wpAny_bind (wpAny_isInstance tp isSubtype_tuple_tuple ?_)
 simp only[Bool.not_true,Bool.false_eq_true,if_false]
 refine wpAny_bind (wpAny_seqItems e1 d1 ?_)
 refine wpAny_bind ?_
 show wpAny _ A (forIn i1 _ _) _ _ s
 rw[← Array.forIn_toList]
 refine wpAny_forIn_list _ (fun rest r s'=>r.1=none∧s'=s∧∀ v∈rest,carriedByValue v=true) _ ?_ ?_ _ _ ⟨rfl,rfl,g1.byValue⟩
 ·rintro x rest r s' ⟨hr,rfl,al⟩
  rw[eqIsQuiet_byValue _ (al x (.head _))]
  refine wpAny_bind (wpAny_pure ?_)
  simp only[Bool.not_true,Bool.false_eq_true,if_false]
  exact wpAny_pure ⟨rfl,rfl,fun v hv=>al v (.tail _ hv)⟩
 ·rintro⟨r1,r2⟩ s' ⟨hr,rfl,_⟩
  simp only at hr
  subst hr
  exact wpAny_pure q
theorem pair_quiet{z:KT×List KT}{a:Addr}{Q:Bool→Shared→Prop}(hz:PairAt kd s.heap z a)(q:Q true s):wpAny (model prog w) A (eqIsQuiet 8 (.ref a)) Q E s:=by
 have tp:=hz.tp
 obtain⟨o1,i1,c1,u1,b1,e1,_,d1,l1,f1,g1⟩:=hz
 unfold eqIsQuiet
 refine wpAny_bind (wpAny_specialOf tp F.slot_tuple_eq.lookup ?_)
 show wpAny _ A (isInstance (.ref a) (.type "tuple") >>= _) _ _ s
 refine wpAny_bind (wpAny_isInstance tp isSubtype_tuple_tuple ?_)
 simp only[Bool.not_true,Bool.false_eq_true,if_false]
 refine wpAny_bind (wpAny_seqItems e1 d1 ?_)
 refine wpAny_bind ?_
 show wpAny _ A (forIn i1 _ _) _ _ s
 rw[← Array.forIn_toList,l1]
 refine wpAny_forIn_list _ (fun rest r s'=>r.1=none∧s'=s∧(rest=[u1,.ref b1]∨rest=[.ref b1]∨rest=[])) _ ?_ ?_ _ _ ⟨rfl,rfl,.inl rfl⟩
 ·rintro x rest r s' ⟨hr,rfl,r1|r1|r1⟩
  ·cases r1
   rw[eqIsQuiet_byValue _ (kd.byValue _ _ f1)]
   refine wpAny_bind (wpAny_pure ?_)
   simp only[Bool.not_true,Bool.false_eq_true,if_false]
   refine wpAny_pure ⟨rfl,rfl,?_⟩
   exact .inr (.inl (by trivial))
  ·cases r1
   refine wpAny_bind (quiet_flat g1 ?_)
   simp only[Bool.not_true,Bool.false_eq_true,if_false]
   refine wpAny_pure ⟨rfl,rfl,?_⟩
   exact .inr (.inr (by trivial))
  ·cases r1
 ·rintro⟨r1,r2⟩ s' ⟨hr,rfl,_⟩
  simp only at hr
  subst hr
  exact wpAny_pure q
end
noncomputable def pairKind{prog:Program}{w:World}{KT:Type}[DecidableEq KT](kd:KeyKind prog w KT):HeapKind prog w (KT×List KT) where
 is:=PairAt kd
 hash:=pairHash kd
 draws:=fun z=>z.2.length+3
 room:=fun A=>A.units<cLine∧A.in1.units<cLine
 inj:=PairAt.one
 keeps:=PairAt.stay
 pyHash:=pair_hash
 eqBool:=pair_eq
 quiet:=pair_quiet
end PySem
namespace L2
open PySem PySem.Spec PyProof.Rows
inductive V where
 | non|bl (b:Bool)|int (i:Int)|str (x:Str)|byt (b:Array UInt8)|flt (b:UInt64)|ref (a:Addr)|ty (n:String)
 deriving DecidableEq
noncomputable def RelV:V→Value→Prop
 | .non,u=>u=Value.none
 | .bl b,u=>u=Value.bool b
 | .int i,u=>∃ t,u=Value.int i t
 | .str x,u=>∃ t,u=Value.str x t
 | .byt b,u=>∃ t,u=Value.bytes b t
 | .flt b,u=>∃ t,u=Value.float b t
 | .ref a,u=>u=Value.ref a
 | .ty n,u=>u=Value.type n
noncomputable abbrev Vals:List V→List Value→Prop:=Paired RelV
theorem Vals.length{xs:List V}{us:List Value}(r:Vals xs us):xs.length=us.length:=Paired.length r
theorem Vals.get:∀ {xs:List V} {us:List Value} {i:Nat} {x:V},Vals xs us→xs[i]?=some x→∃ u,us[i]?=some u∧RelV x u
 | _,_,_,_,.nil,e=>by simp at e
 | _,_,0,_,.cons r _,e=>by simp at e;subst e;exact⟨_,rfl,r⟩
 | _,_,i+1,x,.cons _ t,e=>by
  obtain⟨u,h1,h2⟩:=Vals.get (i:=i) (x:=x) t (by simpa using e)
  exact⟨u,by simpa using h1,h2⟩
theorem Vals.set{x:V}{u:Value}(r:RelV x u):∀ {xs:List V} {us:List Value} (i:Nat),Vals xs us→Vals (xs.set i x) (us.set i u)
 | _,_,_,.nil=>.nil
 | _,_,0,.cons _ t=>.cons r t
 | _,_,i+1,.cons q t=>.cons q (Vals.set r i t)
theorem Vals.append:∀ {xs ys:List V} {us ws:List Value},Vals xs us→Vals ys ws→Vals (xs++ys) (us++ws)
 | _,_,_,_,.nil,s=>s
 | _,_,_,_,.cons r t,s=>.cons r (Vals.append t s)
theorem Vals.take:∀ {xs:List V} {us:List Value} (n:Nat),Vals xs us→Vals (xs.take n) (us.take n)
 | _,_,0,_=>.nil
 | _,_,_+1,.nil=>.nil
 | _,_,n+1,.cons r t=>.cons r (Vals.take n t)
theorem Vals.drop:∀ {xs:List V} {us:List Value} (n:Nat),Vals xs us→Vals (xs.drop n) (us.drop n)
 | _,_,0,r=>r
 | _,_,_+1,.nil=>.nil
 | _,_,n+1,.cons _ t=>Vals.drop n t
noncomputable def RelO:Option V→Option Value→Prop
 | some v,some u=>RelV v u
 | none,none=>True
 | _,_=>False
noncomputable def KV{κ:Type}:List (κ×V)→List (κ×Value)→Prop:=Paired fun (p:κ×V) (q:κ×Value)=>p.1=q.1∧RelV p.2 q.2
noncomputable def kV:Key→V
 | .inl i=>.int i
 | .inr x=>.str x
inductive HO where
 | lst (xs:List V)
 | tup (xs:List V)
 | dK (kvs:List (Key×V))|dT (kvs:List (List Key×V))
 | dN (kvs:List ((Key×List Key)×V))
 | set (S:Int→Bool) (n:Nat)
 | ins (C dx:Addr) (fs:List (Str×V))
 | own (x:Addr)
 | xd (fs:List (Str×V))
 | met (f x:Addr)
 | rng (lo hi:Int)
 | frz (o:Obj) (u:HO)
 | tbl (ps:Array Value)
 | tbq (q:Nat→Nat→Str)
 | ext (φ:Heap→Prop)
noncomputable abbrev Hp:=Addr→Option HO
noncomputable def CodeO(o:Obj)(q:Str):Prop:=∃ vs t,o.data=.fields vs∧vs[1]?=some (.str q t)
noncomputable def upd(H:Hp)(a:Addr)(o:HO):Hp:=fun b=>if b=a then some o else H b
theorem upd_same{H:Hp}{a:Addr}{o:HO}:upd H a o a=some o:=by unfold upd;rw[if_pos rfl]
theorem upd_ne{H:Hp}{a b:Addr}{o:HO}(h:b≠a):upd H a o b=H b:=by unfold upd;rw[if_neg h]
theorem upd_upd{H:Hp}{a:Addr}{o u:HO}:upd (upd H a o) a u=upd H a u:=by
 funext b;unfold upd;split<;>rfl
theorem ne_of{H:Hp}{a b:Addr}{o u:HO}(h:H a=some o)(h':H b=some u)(d:o≠u):a≠b:=by
 intro e;subst e;rw[h] at h';exact d (Option.some.inj h')
theorem ne_of_none{H:Hp}{a b:Addr}{o:HO}(h:H a=some o)(h':H b=none):a≠b:=by
 intro e;subst e;rw[h] at h';cases h'
section
variable(P:Program)(w:World)
noncomputable def ObjOk(H:Hp)(h:Heap)(a:Addr):HO→Prop
 | .lst xs=>xs.length≤sizeLine∧∃ (its:List Value) (n:Nat),Vals xs its∧h.get? a=some { cls:=.type "list",data:=.seq its.toArray n }
 | .tup xs=>xs.length≤sizeLine∧∃ its:List Value,Vals xs its∧IsTup h a its.toArray
 | .dK kvs=>kvs.length≤sizeLine∧(a == sysModules)=false∧∃ vs,KV kvs vs∧h.DictOf (mixKind P w) a vs
 | .dT kvs=>kvs.length≤sizeLine∧(a == sysModules)=false∧∃ xs:List (List Key×Addr×Value),
   Paired (fun (p:List Key×V) (q:List Key×Addr×Value)=>p.1=q.1∧H q.2.1=some (.tup (p.1.map kV))∧RelV p.2 q.2.2) kvs xs ∧
   ∃ o es ep,h.get? a=some o∧o.ExactDict∧o.data=.dict es ep∧es.toList=xs.map (entryOfKey (tupleKind (mixKind P w)))∧(xs.map (·.1)).Nodup
 | .dN kvs=>kvs.length≤sizeLine∧(a == sysModules)=false∧∃ xs:List ((Key×List Key)×Addr×Value),
   Paired (fun (p:(Key×List Key)×V) (q:(Key×List Key)×Addr×Value)=>p.1=q.1∧(∃ b,H q.2.1=some (.tup [kV p.1.1,.ref b])∧H b=some (.tup (p.1.2.map kV)))∧RelV p.2 q.2.2) kvs xs ∧
   ∃ o es ep,h.get? a=some o∧o.ExactDict∧o.data=.dict es ep∧es.toList=xs.map (entryOfKey (pairKind (mixKind P w)))∧(xs.map (·.1)).Nodup
 | .set S n=>h.SetOf (intKind P w) a S n
 | .ins C dx fs=>H dx=some (.own a)∧fs.length≤1000∧dx≠a∧h.get? a=some (PySem.W.instObj C dx) ∧
   ∃ mA,h.Ns1 dx mA∧(∀ f,RelO (fs.lookup f) (mA f))∧PySem.Within mA (fs.map (·.1))
 | .own _=>∃ o,h.get? a=some o
 | .xd fs=>∃ mA,h.Ns1 a mA∧∀ f,RelO (fs.lookup f) (mA f)
 | .rng lo hi=>∃ t u v,h.get? a=some { cls:=.type "range",data:=.fields #[.int lo t,.int hi u,.int 1 v] }
 | .frz o u=>h.get? a=some o∧ObjOk H h a u
 | .tbl ps=>h.get? a=some { cls:=.none,data:=.fields ps }
 | .tbq q=>∃ ps,h.get? a=some { cls:=.none,data:=.fields ps }∧TriplesOk ps.toList∧∀ pos cv,codeAmong pos ps.toList=some cv→∃ c o,cv=.ref c∧H c=some (.frz o (.own a))∧CodeO o (q pos.line pos.col)
 | .met f x=>h.get? a=some (PySem.W.methodObj (.ref f) (.ref x))
 | .ext φ=>φ h∧(∃ o,h.get? a=some o)∧∀ h1 h2:Heap,φ h1→(∀ o,h1.get? a=some o→h2.get? a=some o)→φ h2
noncomputable def HOk(H:Hp)(h:Heap):Prop:=∀ a o,H a=some o→ObjOk P w H h a o
end
section
variable{P:Program}{w:World}{H H':Hp}{h h':Heap}{a:Addr}{o:HO}
theorem ObjOk.lt(x:ObjOk P w H h a o):a<h.objs.size:=by
 cases o with
 | lst xs=>obtain⟨_,_,_,_,e⟩:=x;exact Heap.lt_size e
 | tup xs=>obtain⟨_,_,_,p⟩:=x;exact p.lt
 | dK kvs=>obtain⟨_,_,_,_,o,_,_,e,_⟩:=x;exact Heap.lt_size e
 | dT kvs=>obtain⟨_,_,_,_,o,_,_,e,_⟩:=x;exact Heap.lt_size e
 | dN kvs=>obtain⟨_,_,_,_,o,_,_,e,_⟩:=x;exact Heap.lt_size e
 | set S n=>obtain⟨o,_,_,_,e,_⟩:=x;exact Heap.lt_size e
 | ins C dx fs=>obtain⟨_,_,_,e,_⟩:=x;exact Heap.lt_size e
 | own y=>obtain⟨_,e⟩:=x;exact Heap.lt_size e
 | xd fs=>obtain⟨_,⟨_,_,_,e,_⟩,_⟩:=x;exact Heap.lt_size e
 | rng lo hi=>obtain⟨_,_,_,e⟩:=x;exact Heap.lt_size e
 | frz ob u=>obtain⟨e,_⟩:=x;exact Heap.lt_size e
 | tbl ps=>exact Heap.lt_size (show h.get? a=some _ from x)
 | tbq q=>obtain⟨_,e,_⟩:=x;exact Heap.lt_size e
 | met f y=>exact Heap.lt_size (show h.get? a=some _ from x)
 | ext φ=>obtain⟨_,⟨_,e⟩,_⟩:=x;exact Heap.lt_size e
theorem Paired.mapP{α β:Type}{F G:α→β→Prop}:∀ {l₁:List α} {l₂:List β},Paired F l₁ l₂→(∀ a b,F a b→G a b)→Paired G l₁ l₂
 | _,_,.nil,_=>.nil
 | _,_,.cons r t,f=>.cons (f _ _ r) (Paired.mapP t f)
theorem ObjOk.stay(x:ObjOk P w H h a o)(k:∀ b u,(b=a∨H b=some (.own a))→h.get? b=some u→h'.get? b=some u)
  (ho:∀ b,H b=some (.own a)→H' b=some (.own a)) (ht:∀ b xs,H b=some (.tup xs)→H' b=some (.tup xs))
  (hf:∀ b o,H b=some (.frz o (.own a))→H' b=some (.frz o (.own a)):=by first|exact fun _ _ q=>q|(intro b o q;rw[upd_ne (ne_of_none q (by assumption))];exact q)):ObjOk P w H' h' a o:=by
 induction o with
 | lst xs=>obtain⟨z,its,n,r,e⟩:=x;exact⟨z,its,n,r,k _ _ (.inl rfl) e⟩
 | tup xs=>obtain⟨z,its,r,ob,e,c⟩:=x;exact⟨z,its,r,ob,k _ _ (.inl rfl) e,c⟩
 | dK kvs=>obtain⟨z,y,vs,r,ob,es,ep,e,c⟩:=x;exact⟨z,y,vs,r,ob,es,ep,k _ _ (.inl rfl) e,c⟩
 | dT kvs =>
  obtain⟨z,y,xs,r,ob,es,ep,e,c⟩:=x
  exact⟨z,y,xs,Paired.mapP r fun p q z=>⟨z.1,ht _ _ z.2.1,z.2.2⟩,ob,es,ep,k _ _ (.inl rfl) e,c⟩
 | dN kvs =>
  obtain⟨z,y,xs,r,ob,es,ep,e,c⟩:=x
  exact⟨z,y,xs,Paired.mapP r fun p q z=>⟨z.1,let ⟨b,z1,z2⟩:=z.2.1;⟨b,ht _ _ z1,ht _ _ z2⟩,z.2.2⟩,ob,es,ep,k _ _ (.inl rfl) e,c⟩
 | set S n=>obtain⟨ob,es,ep,t,e,c⟩:=x;exact⟨ob,es,ep,t,k _ _ (.inl rfl) e,c⟩
 | ins C dx fs =>
  obtain⟨d,z,ne,e,mA,⟨od,es,ep,e2,c⟩,r⟩:=x
  exact⟨ho _ d,z,ne,k _ _ (.inl rfl) e,mA,⟨od,es,ep,k _ _ (.inr d) e2,c⟩,r⟩
 | own y=>obtain⟨ob,e⟩:=x;exact⟨ob,k _ _ (.inl rfl) e⟩
 | xd fs=>obtain⟨mA,⟨od,es,ep,e,c⟩,r⟩:=x;exact⟨mA,⟨od,es,ep,k _ _ (.inl rfl) e,c⟩,r⟩
 | rng lo hi=>obtain⟨t,u,v,e⟩:=x;exact⟨t,u,v,k _ _ (.inl rfl) e⟩
 | frz ob u ih=>obtain⟨e,q⟩:=x;exact⟨k _ _ (.inl rfl) e,ih q⟩
 | tbq q =>
  obtain⟨ps,e,t,r⟩:=x
  exact⟨ps,k _ _ (.inl rfl) e,t,fun pos cv z=>let ⟨c,o,e1,e2,e3⟩:=r pos cv z;⟨c,o,e1,hf _ _ e2,e3⟩⟩
 | tbl ps =>
  have e:h.get? a=some { cls:=.none,data:=.fields ps }:=x
  show h'.get? a=some { cls:=.none,data:=.fields ps }
  exact k a _ (.inl rfl) e
 | met f y =>
  have e:h.get? a=some (PySem.W.methodObj (.ref f) (.ref y)):=x
  show h'.get? a=some (PySem.W.methodObj (.ref f) (.ref y))
  exact k a _ (.inl rfl) e
 | ext φ=>obtain⟨p,⟨o,e⟩,st⟩:=x;exact⟨st _ _ p fun o q=>k _ _ (.inl rfl) q,⟨o,k _ _ (.inl rfl) e⟩,st⟩
theorem HOk.lt(x:HOk P w H h)(e:H a=some o):a<h.objs.size:=(x a o e).lt
theorem HOk.fresh(x:HOk P w H h)(e:h.objs.size≤a):H a=none:=by
 cases q:H a with
 | none=>rfl
 | some u=>exact absurd (Nat.lt_of_lt_of_le (x.lt q) e) (Nat.lt_irrefl _)
theorem HOk.kept(x:HOk P w H h)(k:∀ b u,h.get? b=some u→h'.get? b=some u):HOk P w H h':=fun a o e =>
 (x a o e).stay (fun b u _ q=>k b u q) (fun _ q=>q) fun _ _ q=>q
theorem HOk.laid(x:HOk P w H h)(k:∀ b u,h.get? b=some u→h'.get? b=some u)(hp:h.objs.size≤a)(new:ObjOk P w (upd H a o) h' a o):HOk P w (upd H a o) h':=fun b u e=>by
 have hn:=x.fresh hp
 by_cases hb:b=a
 ·subst hb;rw[upd_same] at e;cases e;exact new
 ·rw[upd_ne hb] at e
  exact (x b u e).stay (fun c v _ q=>k c v q) (fun c q=>by rw[upd_ne (ne_of_none q hn)];exact q) fun c xs q=>by rw[upd_ne (ne_of_none q hn)];exact q
end
noncomputable def Rd(H:Hp)(a:Addr)(u:HO):Prop:=H a=some u∨∃ o,H a=some (.frz o u)
theorem Rd.ok{P:Program}{w:World}{H:Hp}{h:Heap}{a:Addr}{u:HO}(r:Rd H a u)(x:HOk P w H h):ObjOk P w H h a u:=by
 rcases r with r|⟨o,r⟩
 ·exact x a u r
 ·obtain⟨_,q⟩:=x a _ r
  exact q
noncomputable def Mut:Option HO→Prop
 | some (.lst _)=>True
 | some (.dK _)=>True
 | some (.dT _)=>True
 | some (.dN _)=>True
 | some (.set _ _)=>True
 | some (.ins _ _ _)=>True
 | some (.ext _)=>True
 | _=>False
section
variable{P:Program}{w:World}{H:Hp}{h h':Heap}{x e:Addr}{o':HO}
theorem HOk.write(ok:HOk P w H h)(mu:Mut (H x))(he:e=x∨H e=some (.own x))(k:∀ b u,b≠e→h.get? b=some u→h'.get? b=some u)(heo:∃ u,h'.get? e=some u)
  (new:ObjOk P w (upd H x o') h' x o'):HOk P w (upd H x o') h':=fun b u q=>by
 have nown:∀ c y,H c=some (.own y)→c≠x:=fun c y r z=>by subst z;rw[r] at mu;exact mu
 have ntup:∀ c xs,H c=some (.tup xs)→c≠x:=fun c xs r z=>by subst z;rw[r] at mu;exact mu
 by_cases hb:b=x
 ·subst hb;rw[upd_same] at q;cases q;exact new
 ·rw[upd_ne hb] at q
  by_cases hbe:b=e
  ·have q':H b=some (.own x):=by
    rcases he with z|z
    ·exact absurd (hbe.trans z) hb
    ·rw[hbe];exact z
   rw[q] at q';cases q'
   obtain⟨v,hv⟩:=heo
   exact⟨v,by rw[hbe];exact hv⟩
  ·refine (ok b u q).stay (fun c v hc r=>k c v ?_ r) (fun c r=>by rw[upd_ne (nown c b r)];exact r) (fun c xs r=>by rw[upd_ne (ntup c xs r)];exact r) (fun c o r=>by rw[upd_ne (fun z=>by subst z;rw[r] at mu;exact mu)];exact r)
   rcases hc with rfl|hc
   ·exact hbe
   ·rintro rfl
    rcases he with z|z
    ·exact nown c b hc z
    ·rw[hc] at z;cases z;exact hb rfl
end
structure Un(fs ex:List Addr)(H H':Hp)(h h':Heap):Prop where
 keep:∀ b o,h.get? b=some o→H b=none→b∉fs→b∉ex→h'.get? b=some o
 slot:∀ b o,h.get? b=some o→H b=none→b∈fs→b∉ex→∃ sl,h'.get? b=some { o with slots:=sl }
 free:∀ b o,h.get? b=some o→H b=none→b∉ex→H' b=none
 there:∀ b o,h.get? b=some o→b∉ex→∃ o',h'.get? b=some o'
 tups:∀ b xs,H b=some (.tup xs)→H' b=some (.tup xs)
 frzs:∀ b o u,H b=some (.frz o u)→H' b=some (.frz o u)
 tbls:∀ b ps,H b=some (.tbl ps)→∃ more,H' b=some (.tbl (ps++more))
section
variable{fs fs' ex ex':List Addr}{H H1 H2:Hp}{h h1 h2 h':Heap}{a x e:Addr}{o:HO}
theorem Un.any(u:Un fs ex H H1 h h1){b:Addr}{ob:Obj}(q:h.get? b=some ob)(n:H b=none)(hx:b∉ex):∃ sl,h1.get? b=some { ob with slots:=sl }:=by
 by_cases hb:b∈fs
 ·exact u.slot b ob q n hb hx
 ·exact⟨ob.slots,u.keep b ob q n hb hx⟩
theorem Un.kept(k:∀ b u,h.get? b=some u→h'.get? b=some u):Un fs ex H H h h' :=
 ⟨fun b ob q _ _ _=>k b ob q,fun b ob q _ _ _=>⟨ob.slots,k b ob q⟩,fun _ _ _ n _=>n,fun b ob q _=>⟨ob,k b ob q⟩,fun _ _ q=>q,fun _ _ _ q=>q,fun _ ps q=>⟨#[],by rw[q];simp⟩⟩
theorem Un.refl:Un fs ex H H h h:=Un.kept fun _ _ q=>q
theorem Un.laid(k:∀ b u,h.get? b=some u→h'.get? b=some u)(hp:h.objs.size≤a)(hn:H a=none):Un fs ex H (upd H a o) h h' where
 keep:=fun b u q _ _ _=>k b u q
 slot:=fun b u q _ _ _=>⟨u.slots,k b u q⟩
 free:=fun b u q n _=>by rw[upd_ne (Nat.ne_of_lt (Nat.lt_of_lt_of_le (Heap.lt_size q) hp))];exact n
 there:=fun b u q _=>⟨u,k b u q⟩
 tups:=fun b xs q=>by rw[upd_ne (ne_of_none q hn)];exact q
 frzs:=fun b u xs q=>by rw[upd_ne (ne_of_none q hn)];exact q
 tbls:=fun b ps q=>⟨#[],by rw[upd_ne (ne_of_none q hn),q];simp⟩
theorem Un.write(mu:Mut (H x))(he:e=x∨H e=some (.own x))(k:∀ b u,b≠e→h.get? b=some u→h'.get? b=some u)(heo:∃ u,h'.get? e=some u):Un fs ex H (upd H x o) h h':=by
 have hx:∀ b,H b=none→b≠x:=fun b n z=>by subst z;rw[n] at mu;exact mu
 have hb:∀ b,H b=none→b≠e:=fun b n z=>by
  subst z
  rcases he with r|r
  ·exact hx b n r
  ·rw[n] at r;cases r
 have hm:∀ b u,H b=some u→¬ Mut (some u)→b≠x:=fun b u q nm z=>by subst z;rw[q] at mu;exact nm mu
 refine⟨fun b u q n _ _=>k b u (hb b n) q,fun b u q n _ _=>⟨u.slots,k b u (hb b n) q⟩,fun b u q n _=>by rw[upd_ne (hx b n)];exact n,fun b u q _=>?_,
  fun b xs q=>by rw[upd_ne (hm b _ q fun z=>z)];exact q,fun b u xs q=>by rw[upd_ne (hm b _ q fun z=>z)];exact q,fun b ps q=>⟨#[],by rw[upd_ne (hm b _ q fun z=>z),q];simp⟩⟩
 by_cases hbe:b=e
 ·subst hbe;exact heo
 ·exact⟨u,k b u hbe q⟩
end
noncomputable def trk(h:Heap)(H:Hp):List Addr:=(List.range h.objs.size).filter fun a=>(H a).isSome
noncomputable def hidT(h:Heap)(H:Hp):Heap:=PySem.W.hideAll h (trk h H)
theorem hidT_size(h:Heap)(H:Hp):(hidT h H).objs.size=h.objs.size:=PySem.W.hideAll_size _ _
theorem hidT_get{h:Heap}{H:Hp}{b:Addr}{o:Obj}(e:h.get? b=some o)(n:H b=none):(hidT h H).get? b=some o :=
 PySem.W.hideAll_get _ e fun hm=>by
  have q:(H b).isSome=true:=(List.mem_filter.mp hm).2
  rw[n] at q;simp at q
theorem of_hidT{h:Heap}{H:Hp}{b:Addr}{o:Obj}(e:(hidT h H).get? b=some o):h.get? b=some o∧H b=none:=by
 have e':h.get? b=some o:=PySem.W.of_hideAll (trk h H) e
 refine⟨e',?_⟩
 cases q:H b with
 | none=>rfl
 | some x =>
  have hm:b∈trk h H:=List.mem_filter.mpr ⟨List.mem_range.mpr (Heap.lt_size e'),by simp[q]⟩
  have z:(hidT h H).get? b=none:=PySem.W.hideAll_none (trk h H) hm
  rw[z] at e;cases e
end L2
namespace L2
open PySem PySem.Spec PyProof.Rows
structure Mod(K:W.Frag)(mg:Str→Option Value)(base:Heap):Prop where
 kin:K.In base
 glob:base.Ns mainGlobals mg
 blt:∃ mb,base.Ns builtinsNs mb∧∀ x:Str,x ≠ "__name__" → mb x=bootBuiltins x
 nolimit:base.NoLimit
structure Cx where
 prog:Program
 w:World
 K:W.Frag
 mg:Str→Option Value
 base:Heap
 A:Around
 N:List Str
 s₀:Shared
 H₀:Hp
 env:Env
 outer:List Env
 stack:List Env
 ex:List Addr
 fn:Str→Bool
 calm:Bool
 pn:List (Addr×Obj)
 xe:Value→Shared→Prop
noncomputable def frs(l:List Env):List Addr:=l.filterMap (·.frame)
noncomputable abbrev Cx.fs(X:Cx):List Addr:=frs X.outer
noncomputable def Vis(sc:Scope)(x:Str):Prop:=sc.names.lookup x=some .local∨sc.names.lookup x=some .cell∨sc.names.lookup x=some .free
noncomputable def Loc(sc:Scope)(x:Str):Prop:=sc.names.lookup x=some .local∨sc.names.lookup x=some .cell
noncomputable def Look(env:Env)(h:Heap)(m:Str→Option Value)(x:Str)(u:Value):Prop :=
 (env.kindOf x=some .local∧m x=some u)∨((env.kindOf x=some .cell∨env.kindOf x=some .free)∧∃ c,env.cells.lookup x=some c∧h.IsCell c (some u))
structure Cx.Ok(X:Cx):Prop where
 mod:Mod X.K X.mg X.base
 kind:X.env.scope.kind=.function
 glob:X.env.globals=mainGlobals
 blt:X.env.builtins=builtinsNs
 above:X.s₀.heap.objs.size≤X.env.locals
 inj:∀ x y c,X.env.cells.lookup x=some c→X.env.cells.lookup y=some c→x=y
 has:∀ x,(X.env.kindOf x=some .cell∨X.env.kindOf x=some .free)→∃ c,X.env.cells.lookup x=some c
 cab:∀ x c,X.fn x=true→X.env.cells.lookup x=some c→X.s₀.heap.objs.size≤c
 hd:X.calm=true→X.A.handled=none
 frames:X.A.frames=some X.stack
 stk:X.stack=X.outer∨(X.stack=X.env::X.outer∧X.env.frame=some X.env.locals)
 exf:∀ b∈X.ex,b≠X.env.locals∧∀ x c,X.env.cells.lookup x=some c→c≠b
 bs:∀ b o,X.base.get? b=some o→X.s₀.heap.get? b=some o∧X.H₀ b=none
 bsz:X.base.objs.size≤X.s₀.heap.objs.size
 noex:∀ b o,X.base.get? b=some o→b∉X.ex
 exfs:∀ b∈X.ex,b∉X.fs
 funs:X.s₀.heap.FunFrames X.base X.outer
 frf:∀ b∈X.fs,X.H₀ b=none
structure Inv(X:Cx)(pins:List (Addr×Obj))(σ:List (Option V))(H:Hp)(s:Shared):Prop where
 ok:X.Ok
 os:s.os=X.s₀.os
 bare:AllBare s.gens
 base:Un X.fs X.ex X.H₀ H X.s₀.heap s.heap
 loc:∃ m,s.heap.Ns X.env.locals m∧∀ (i:Nat) (x:Str) (v:V),X.N[i]?=some x→σ[i]?=some (some v)→Vis X.env.scope x→∃ u,RelV v u∧Look X.env s.heap m x u
 cell:∀ x c,X.env.cells.lookup x=some c→∃ v,s.heap.IsCell c v
 free:H X.env.locals=none
 freeC:∀ x c,X.env.cells.lookup x=some c→H c=none
 pin:∀ p∈X.pn++pins,s.heap.get? p.1=some p.2∧H p.1=none∧p.1≠X.env.locals∧p.1∉X.fs∧∀ v,p.2.data≠.cell v
 hok:HOk X.prog X.w H s.heap
 len:σ.length=X.N.length
section
variable{X:Cx}{pins:List (Addr×Obj)}{σ:List (Option V)}{H H':Hp}{s:Shared}{h':Heap}
theorem Cx.Ok.nofr(ok:X.Ok){b:Addr}{o:Obj}(e:X.base.get? b=some o):b∉X.fs:=fun hb=>by
 have:=(ok.funs.mem hb).1
 rw[e] at this;cases this
theorem Inv.bs(I:Inv X pins σ H s):∀ b o,X.base.get? b=some o→s.heap.get? b=some o∧H b=none:=fun b o e =>
 ⟨I.base.keep b o (I.ok.bs b o e).1 (I.ok.bs b o e).2 (I.ok.nofr e) (I.ok.noex b o e),I.base.free b o (I.ok.bs b o e).1 (I.ok.bs b o e).2 (I.ok.noex b o e)⟩
theorem Inv.bk(I:Inv X pins σ H s):∀ b o,X.base.get? b=some o→s.heap.get? b=some o:=fun b o e=>(I.bs b o e).1
theorem Inv.mod(I:Inv X pins σ H s):Mod X.K X.mg X.base:=I.ok.mod
theorem Inv.kIn(I:Inv X pins σ H s):X.K.In s.heap:=I.ok.mod.kin.keeps I.bk
theorem Inv.nolimit(I:Inv X pins σ H s):s.heap.NoLimit:=I.ok.mod.nolimit.keeps I.bk
theorem Inv.lt(I:Inv X pins σ H s):X.env.locals<s.heap.objs.size:=let ⟨_,hn,_⟩:=I.loc;hn.lt
theorem Inv.sz(I:Inv X pins σ H s):X.s₀.heap.objs.size≤s.heap.objs.size:=Nat.le_trans I.ok.above (Nat.le_of_lt I.lt)
theorem Inv.nofs(I:Inv X pins σ H s){a:Addr}(h:s.heap.objs.size≤a):a∉X.fs:=fun hb=>by
 obtain⟨_,o,ho,_⟩:=I.ok.funs.mem hb
 exact absurd (Nat.lt_of_lt_of_le (Heap.lt_size ho) (Nat.le_trans I.sz h)) (Nat.lt_irrefl _)
theorem Inv.cne(I:Inv X pins σ H s):∀ x c,X.env.cells.lookup x=some c→c≠X.env.locals:=fun x c e z=>by
 obtain⟨v,o,ho,hd⟩:=I.cell x c e
 obtain⟨m,⟨o',es,ep,ho',hd',_⟩,_⟩:=I.loc
 rw[z,ho'] at ho;cases ho;rw[hd'] at hd;cases hd
theorem Inv.funs(I:Inv X pins σ H s):s.heap.FunFrames X.base X.outer:=by
 have all:∀ (l:List Env),(∀ b∈frs l,b∈X.fs)→X.s₀.heap.FunFrames X.base l→s.heap.FunFrames X.base l:=by
  intro l
  induction l with
  | nil=>intro _ _;trivial
  | cons env r ih =>
   intro hs hl
   obtain⟨hk,⟨L,o,hf,hn,ho,hd⟩,hr⟩:=hl
   have hL:L∈X.fs:=hs L (by unfold frs;rw[List.filterMap_cons,hf];exact List.mem_cons_self)
   obtain⟨sl,e⟩:=I.base.slot L o ho (I.ok.frf L hL) hL fun z=>I.ok.exfs L z hL
   exact⟨hk,⟨L,_,hf,hn,e,hd⟩,ih (fun b hb=>hs b (by unfold frs;rw[List.filterMap_cons,hf];exact List.mem_cons_of_mem _ hb)) hr⟩
 exact all X.outer (fun _ hb=>hb) I.ok.funs
theorem Inv.stack(I:Inv X pins σ H s):s.heap.FunFrames X.base X.stack:=by
 rcases I.ok.stk with e|⟨e,hf⟩
 ·rw[e];exact I.funs
 ·rw[e]
  obtain⟨m,hn,_⟩:=I.loc
  refine .cons (by rw[I.ok.kind];decide) hf hn ?_ I.funs
  exact Heap.get?_none_of_le (Nat.le_trans I.ok.bsz I.ok.above)
theorem Inv.stkSub(I:Inv X pins σ H s):∀ b∈frs X.stack,b∈X.env.locals::X.fs:=fun b hb=>by
 rcases I.ok.stk with e|⟨e,hf⟩
 ·rw[e] at hb;exact List.mem_cons_of_mem _ hb
 ·rw[e] at hb
  unfold frs at hb
  rw[List.filterMap_cons,hf] at hb
  exact hb
theorem Inv.stkFree(I:Inv X pins σ H s):∀ b∈frs X.stack,H b=none:=fun b hb=>by
 rcases List.mem_cons.mp (I.stkSub b hb) with e|hb
 ·rw[e];exact I.free
 ·obtain⟨_,o,ho,_⟩:=I.ok.funs.mem hb
  exact I.base.free b o ho (I.ok.frf b hb) fun z=>I.ok.exfs b z hb
theorem Inv.step{g':Array GenState}{t':Nat}{d':Drawn}{ch:List Addr}(I:Inv X pins σ H s)
  (hch:∀ b∈ch,(b∈X.ex∨X.s₀.heap.objs.size≤b)∧b≠X.env.locals∧(∀ x c,X.env.cells.lookup x=some c→c≠b)∧∀ p∈X.pn++pins,p.1≠b)
  (keep:∀ b o,b≠X.env.locals→b∉X.fs→b∉ch→s.heap.get? b=some o→H b=none→h'.get? b=some o)
  (slot:∀ b o,b≠X.env.locals→b∈X.fs→b∉ch→s.heap.get? b=some o→H b=none→∃ sl,h'.get? b=some { o with slots:=sl }) (free:∀ b o,b∉ch→s.heap.get? b=some o→H b=none→H' b=none)
  (there:∀ b o,b∉ch→s.heap.get? b=some o→∃ o',h'.get? b=some o')
  (tups:∀ b xs,H b=some (.tup xs)→H' b=some (.tup xs)) (frzs:∀ b o u,H b=some (.frz o u)→H' b=some (.frz o u)) (tbls:∀ b ps,H b=some (.tbl ps)→∃ more,H' b=some (.tbl (ps++more)))
  (ns:∀ m,s.heap.Ns X.env.locals m→h'.Ns X.env.locals m) (hok:HOk X.prog X.w H' h') (hg:AllBare g') :
  Inv X pins σ H' { s with heap:=h',gens:=g',drawn:=d',toks:=t' }:=by
 have neL:∀ b o,X.s₀.heap.get? b=some o→b≠X.env.locals:=fun b o e=>Nat.ne_of_lt (Nat.lt_of_lt_of_le (Heap.lt_size e) I.ok.above)
 have neC:∀ b o,X.s₀.heap.get? b=some o→b∉X.ex→b∉ch:=fun b o e hx hb=>by
  rcases (hch b hb).1 with z|z
  ·exact hx z
  ·exact absurd (Nat.lt_of_lt_of_le (Heap.lt_size e) z) (Nat.lt_irrefl _)
 have cellK:∀ x c,X.env.cells.lookup x=some c→∀ v,s.heap.IsCell c v→h'.IsCell c v:=fun x c e v ⟨o,ho,hd⟩=>by
  have nch:c∉ch:=fun z=>(hch c z).2.2.1 x c e rfl
  by_cases hc:c∈X.fs
  ·obtain⟨sl,q⟩:=slot c o (I.cne x c e) hc nch ho (I.freeC x c e)
   exact⟨_,q,hd⟩
  ·exact⟨o,keep c o (I.cne x c e) hc nch ho (I.freeC x c e),hd⟩
 refine⟨I.ok,I.os,hg,⟨fun b o e n hb hx=>?_,fun b o e n hb hx=>?_,fun b o e n hx=>?_,fun b o e hx=>?_,fun b xs e=>tups b xs (I.base.tups b xs e),fun b o xs e=>frzs b o xs (I.base.frzs b o xs e),fun b ps e=>?_⟩,?_,fun x c e=>?_,?_,fun x c e=>?_,fun p hp=>?_,hok,I.len⟩
 ·exact keep b o (neL b o e) hb (neC b o e hx) (I.base.keep b o e n hb hx) (I.base.free b o e n hx)
 ·obtain⟨sl,e1⟩:=I.base.slot b o e n hb hx
  obtain⟨sl',e2⟩:=slot b _ (neL b o e) hb (neC b o e hx) e1 (I.base.free b o e n hx)
  exact⟨sl',e2⟩
 ·obtain⟨o',e1⟩:=I.base.there b o e hx
  exact free b o' (neC b o e hx) e1 (I.base.free b o e n hx)
 ·obtain⟨o',e1⟩:=I.base.there b o e hx
  exact there b o' (neC b o e hx) e1
 ·obtain⟨m1,e1⟩:=I.base.tbls b ps e
  obtain⟨m2,e2⟩:=tbls b _ e1
  exact⟨m1++m2,by rw[e2,Array.append_assoc]⟩
 ·obtain⟨m,hn,hl⟩:=I.loc
  refine⟨m,ns m hn,fun i x v e1 e2 e3=>?_⟩
  obtain⟨u,r,l⟩:=hl i x v e1 e2 e3
  refine⟨u,r,?_⟩
  rcases l with l|⟨k,c,e,z⟩
  ·exact .inl l
  ·exact .inr ⟨k,c,e,cellK x c e _ z⟩
 ·obtain⟨v,z⟩:=I.cell x c e
  exact⟨v,cellK x c e v z⟩
 ·obtain⟨m,⟨o,_,_,ho,_⟩,_⟩:=I.loc
  exact free _ o (fun z=>(hch _ z).2.1 rfl) ho I.free
 ·obtain⟨v,o,ho,hd⟩:=I.cell x c e
  exact free c o (fun z=>(hch c z).2.2.1 x c e rfl) ho (I.freeC x c e)
 ·obtain⟨e,n,ne,nf,d⟩:=I.pin p hp
  have nch:p.1∉ch:=fun z=>(hch p.1 z).2.2.2 p hp rfl
  exact⟨keep p.1 p.2 ne nf nch e n,free p.1 p.2 nch e n,ne,nf,d⟩
theorem Inv.un{t':Nat}(I:Inv X pins σ H s)(u:Un X.fs [] H H' s.heap h')(hok:HOk X.prog X.w H' h'):Inv X pins σ H' { s with heap:=h',toks:=t' }:=by
 obtain⟨m,⟨o,es,ep,ho,r⟩,_⟩:=id I.loc
 obtain⟨sl,hL⟩:=u.any ho I.free (by simp)
 exact I.step (g':=s.gens) (d':=s.drawn) (ch:=[]) (fun _ z=>nomatch z) (fun b o _ hb _ e n=>u.keep b o e n hb (by simp)) (fun b o _ hb _ e n=>u.slot b o e n hb (by simp)) (fun b o _ e n=>u.free b o e n (by simp)) (fun b o _ e=>u.there b o e (by simp)) u.tups u.frzs u.tbls (fun m' hm=>by
  obtain⟨o',es',ep',ho',r'⟩:=hm
  rw[ho] at ho';cases ho'
  exact⟨_,es',ep',hL,r'⟩) hok I.bare
theorem Inv.call{g':Array GenState}{t':Nat}{d':Drawn}{ch:List Addr}(I:Inv X pins σ H s)(u:Un (frs X.stack) ch H H' s.heap h')(hok:HOk X.prog X.w H' h')(hg:AllBare g')
  (hch:∀ b∈ch,(b∈X.ex∨X.s₀.heap.objs.size≤b)∧b≠X.env.locals∧(∀ x c,X.env.cells.lookup x=some c→c≠b)∧∀ p∈X.pn++pins,p.1≠b) :
  Inv X pins σ H' { s with heap:=h',gens:=g',drawn:=d',toks:=t' }:=by
 obtain⟨m,⟨o,es,ep,ho,r⟩,_⟩:=id I.loc
 obtain⟨sl,hL⟩:=u.any ho I.free fun z=>(hch _ z).2.1 rfl
 exact I.step (ch:=ch) hch (fun b o hL hb hc e n=>u.keep b o e n (fun z=>(List.mem_cons.mp (I.stkSub b z)).elim hL hb) hc) (fun b o _ _ hc e n=>u.any e n hc) (fun b o hc e n=>u.free b o e n hc) (fun b o hc e=>u.there b o e hc) u.tups u.frzs u.tbls (fun m' hm=>by
  obtain⟨o',es',ep',ho',r'⟩:=hm
  rw[ho] at ho';cases ho'
  exact⟨_,es',ep',hL,r'⟩) hok hg
theorem Inv.turned{t':Nat}{it:Addr}(I:Inv X pins σ H s)(k:∀ b o,b≠it→s.heap.get? b=some o→h'.get? b=some o)(hn:H it=none)(hL:it≠X.env.locals)
  (h1:it∈X.ex∨X.s₀.heap.objs.size≤it) (h2:∀ x c,X.env.cells.lookup x=some c→c≠it) (h3:∀ p∈X.pn++pins,p.1≠it):Inv X pins σ H { s with heap:=h',toks:=t' }:=by
 have nit:∀ b u,H b=some u→b≠it:=fun b u e z=>by rw[z,hn] at e;cases e
 refine I.step (g':=s.gens) (d':=s.drawn) (ch:=[it]) (fun b hb=>?_) (fun b o _ _ hc e _=>k b o (fun z=>hc (by simp[z])) e) (fun b o _ _ hc e _=>⟨o.slots,k b o (fun z=>hc (by simp[z])) e⟩) (fun _ _ _ _ n=>n)
  (fun b o hc e=>⟨o,k b o (fun z=>hc (by simp[z])) e⟩) (fun _ _ e=>e) (fun _ _ _ e=>e) (fun b ps e=>⟨#[],by rw[e];simp⟩) (fun m hm=>?_) (fun b u e=>?_) I.bare
 ·have e:b=it:=by simpa using hb
  subst e
  exact⟨h1,hL,h2,h3⟩
 ·obtain⟨o,es,ep,ho,r⟩:=hm
  exact⟨o,es,ep,k _ o (Ne.symm hL) ho,r⟩
 ·refine (I.hok b u e).stay (fun c v hc q=>k c v ?_ q) (fun _ q=>q) fun _ _ q=>q
  rcases hc with z|z
  ·rw[z];exact nit b u e
  ·exact nit c _ z
theorem Inv.tok(I:Inv X pins σ H s)(t:Nat):Inv X pins σ H { s with toks:=t }:=I.un (h':=s.heap) (t':=t) Un.refl I.hok
theorem Inv.kept{t':Nat}(I:Inv X pins σ H s)(k:∀ b u,s.heap.get? b=some u→h'.get? b=some u):Inv X pins σ H { s with heap:=h',toks:=t' }:=I.un (Un.kept k) (I.hok.kept k)
theorem Inv.laid{a:Addr}{o:HO}{t':Nat}(I:Inv X pins σ H s)(k:∀ b u,s.heap.get? b=some u→h'.get? b=some u)(hp:s.heap.objs.size≤a)(new:ObjOk X.prog X.w (upd H a o) h' a o) :
  Inv X pins σ (upd H a o) { s with heap:=h',toks:=t' }:=I.un (Un.laid k hp (I.hok.fresh hp)) (I.hok.laid k hp new)
theorem Inv.write{x e:Addr}{o:HO}{t':Nat}(I:Inv X pins σ H s)(mu:Mut (H x))(he:e=x∨H e=some (.own x))(k:∀ b u,b≠e→s.heap.get? b=some u→h'.get? b=some u)(heo:∃ u,h'.get? e=some u)
  (new:ObjOk X.prog X.w (upd H x o) h' x o):Inv X pins σ (upd H x o) { s with heap:=h',toks:=t' }:=I.un (Un.write mu he k heo) (I.hok.write mu he k heo new)
theorem Inv.pins_of{pins':List (Addr×Obj)}(I:Inv X pins σ H s)(h:∀ p∈pins',s.heap.get? p.1=some p.2∧H p.1=none∧p.1≠X.env.locals∧p.1∉X.fs∧∀ v,p.2.data≠.cell v):Inv X pins' σ H s :=
 ⟨I.ok,I.os,I.bare,I.base,I.loc,I.cell,I.free,I.freeC,fun p hp=>(List.mem_append.mp hp).elim (fun z=>I.pin p (List.mem_append_left _ z)) (h p),I.hok,I.len⟩
theorem nodup_ix{N:List Str}(hN:N.Nodup){i j:Nat}{x:Str}(a:N[i]?=some x)(b:N[j]?=some x):i=j:=by
 obtain⟨h1,e1⟩:=List.getElem?_eq_some_iff.mp a
 obtain⟨h2,e2⟩:=List.getElem?_eq_some_iff.mp b
 exact (List.getElem_inj hN).mp (e1.trans e2.symm)
theorem store_ok2{M:Model}{A:Around}{E:Value→Shared→Prop}{i:Nat}{x:Str}{v:V}{u:Value}{Q:Unit→Shared→Prop}(I:Inv X pins σ H s)(hN:X.N.Nodup)(hi:X.N[i]?=some x)(hx:Loc X.env.scope x)(r:RelV v u)
  (h:∀ s',Inv X pins (σ.set i (some v)) H s'→(∃ a,Heap.SameBut a s.heap s'.heap∧(a=X.env.locals∨X.env.cells.lookup x=some a))→Q () s') (hf:X.fn x=true∨X.env.scope.names.lookup x=some .local:=by first|exact .inl rfl|exact .inr rfl|assumption):wpAny M A (storeName X.env x u) Q E s:=by
 obtain⟨m,hn,hl⟩:=id I.loc
 have hcls:(X.env.scope.kind == .class || (X.env.scope.kind == .module && X.env.locals != X.env.globals))=false:=by rw[I.ok.kind];rfl
 have hiσ:i<σ.length:=by rw[I.len];exact (List.getElem?_eq_some_iff.mp hi).1
 have cne:=I.cne
 have tracked:∀ {a:Addr} {h':Heap},(∃ o,s.heap.get? a=some o∧H a=none)→Heap.SameBut a s.heap h'→HOk X.prog X.w H h':=fun {a h'} ha hs b ob e=>by
  obtain⟨_,_,hfree⟩:=ha
  refine (I.hok b ob e).stay (fun c w' hc q=>(hs.2 c ?_).trans q) (fun _ q=>q) fun _ _ q=>q
  rintro rfl
  rcases hc with rfl|hc
  ·rw[hfree] at e;cases e
  ·rw[hfree] at hc;cases hc
 rcases hx with hk|hk
 ·refine wpAny_storeName_local hk hn (fun h' hn' hs=>?_) hcls
  obtain⟨oL,_,_,hoL,_⟩:=id hn
  refine h _ ⟨I.ok,I.os,I.bare,⟨fun b o e n hb hx=>?_,fun b o e n hb hx=>?_,I.base.free,fun b o e hx=>?_,I.base.tups,I.base.frzs,I.base.tbls⟩,⟨_,hn',fun j y v' e1 e2 e3=>?_⟩,fun y c e=>?_,I.free,I.freeC,fun p hp=>?_,tracked ⟨oL,hoL,I.free⟩ hs,by simpa using I.len⟩ ⟨_,hs,.inl rfl⟩
  ·exact (hs.2 b (Nat.ne_of_lt (Nat.lt_of_lt_of_le (Heap.lt_size e) I.ok.above))).trans (I.base.keep b o e n hb hx)
  ·obtain⟨sl,e1⟩:=I.base.slot b o e n hb hx
   exact⟨sl,(hs.2 b (Nat.ne_of_lt (Nat.lt_of_lt_of_le (Heap.lt_size e) I.ok.above))).trans e1⟩
  ·obtain⟨o',e1⟩:=I.base.there b o e hx
   exact⟨o',(hs.2 b (Nat.ne_of_lt (Nat.lt_of_lt_of_le (Heap.lt_size e) I.ok.above))).trans e1⟩
  ·by_cases hj:j=i
   ·subst hj
    rw[hi] at e1;cases e1
    rw[List.getElem?_set_self hiσ] at e2
    cases e2
    exact⟨u,r,.inl ⟨hk,by simp⟩⟩
   ·rw[List.getElem?_set_ne (Ne.symm hj)] at e2
    obtain⟨u',r',q⟩:=hl j y v' e1 e2 e3
    refine⟨u',r',?_⟩
    rcases q with⟨k,e⟩|⟨k,c,e,z⟩
    ·refine .inl ⟨k,?_⟩
     have:y≠x:=fun e=>hj (nodup_ix hN e1 (e▸hi))
     simp[this,e]
    ·exact .inr ⟨k,c,e,z.sameBut hs (cne y c e)⟩
  ·obtain⟨w',z⟩:=I.cell y c e
   exact⟨w',z.sameBut hs (cne y c e)⟩
  ·obtain⟨e,n,ne,nf,d⟩:=I.pin p hp
   exact⟨(hs.2 p.1 ne).trans e,n,ne,nf,d⟩
 ·have hfn:X.fn x=true:=by
   rcases hf with z|z
   ·exact z
   ·rw[z] at hk;cases hk
  obtain⟨c,hc⟩:=I.ok.has x (.inl hk)
  obtain⟨w',z⟩:=I.cell x c hc
  refine wpAny_storeName_cell I.ok.kind hk hc z (fun h' hc' hs=>?_)
  obtain⟨oc,hoc,hocd⟩:=id z
  refine h { s with heap:=h' } ⟨I.ok,I.os,I.bare,⟨fun b o e n hb hx=>?_,fun b o e n hb hx=>?_,I.base.free,fun b o e hx=>?_,I.base.tups,I.base.frzs,I.base.tbls⟩,⟨m,hn.sameBut hs (Ne.symm (cne x c hc)),fun j y v' e1 e2 e3=>?_⟩,fun y c' e=>?_,I.free,I.freeC,fun p hp=>?_,tracked ⟨oc,hoc,I.freeC x c hc⟩ hs,by simpa using I.len⟩ ⟨c,hs,.inr hc⟩
  ·exact (hs.2 b (Nat.ne_of_lt (Nat.lt_of_lt_of_le (Heap.lt_size e) (I.ok.cab x c hfn hc)))).trans (I.base.keep b o e n hb hx)
  ·obtain⟨sl,e1⟩:=I.base.slot b o e n hb hx
   exact⟨sl,(hs.2 b (Nat.ne_of_lt (Nat.lt_of_lt_of_le (Heap.lt_size e) (I.ok.cab x c hfn hc)))).trans e1⟩
  ·obtain⟨o',e1⟩:=I.base.there b o e hx
   exact⟨o',(hs.2 b (Nat.ne_of_lt (Nat.lt_of_lt_of_le (Heap.lt_size e) (I.ok.cab x c hfn hc)))).trans e1⟩
  ·by_cases hj:j=i
   ·subst hj
    rw[hi] at e1;cases e1
    rw[List.getElem?_set_self hiσ] at e2
    cases e2
    exact⟨u,r,.inr ⟨.inl hk,c,hc,hc'⟩⟩
   ·rw[List.getElem?_set_ne (Ne.symm hj)] at e2
    obtain⟨u',r',q⟩:=hl j y v' e1 e2 e3
    refine⟨u',r',?_⟩
    rcases q with q|⟨k,c',e,z'⟩
    ·exact .inl q
    ·refine .inr ⟨k,c',e,z'.sameBut hs ?_⟩
     rintro rfl
     exact hj (nodup_ix hN e1 (I.ok.inj _ _ _ e hc▸hi))
  ·by_cases hcc:c'=c
   ·subst hcc;exact⟨_,hc'⟩
   ·obtain⟨w2,z2⟩:=I.cell y c' e
    exact⟨w2,z2.sameBut hs hcc⟩
  ·obtain⟨e,n,ne,nf,d⟩:=I.pin p hp
   refine⟨(hs.2 p.1 ?_).trans e,n,ne,nf,d⟩
   intro q
   rw[q,hoc] at e
   have q':oc=p.2:=Option.some.inj e
   exact d w' (by rw[← q'];exact hocd)
theorem store_ok{M:Model}{A:Around}{E:Value→Shared→Prop}{i:Nat}{x:Str}{v:V}{u:Value}{Q:Unit→Shared→Prop}(I:Inv X pins σ H s)(hN:X.N.Nodup)(hi:X.N[i]?=some x)(hx:Loc X.env.scope x)(r:RelV v u)
  (h:∀ s',Inv X pins (σ.set i (some v)) H s'→Q () s') (hf:X.fn x=true∨X.env.scope.names.lookup x=some .local:=by first|exact .inl rfl|exact .inr rfl|assumption):wpAny M A (storeName X.env x u) Q E s :=
 store_ok2 I hN hi hx r (fun s' I' _=>h s' I') hf
theorem Inv.call'{s':Shared}{ch:List Addr}(I:Inv X pins σ H s)(ho:s'.os=s.os)(u:Un (frs X.stack) ch H H' s.heap s'.heap)(hok:HOk X.prog X.w H' s'.heap)(hg:AllBare s'.gens)
  (hch:∀ b∈ch,(b∈X.ex∨X.s₀.heap.objs.size≤b)∧b≠X.env.locals∧(∀ x c,X.env.cells.lookup x=some c→c≠b)∧∀ p∈X.pn++pins,p.1≠b):Inv X pins σ H' s':=by
 obtain⟨h',g',d',t',o'⟩:=s'
 have e:o'=s.os:=ho
 subst e
 exact I.call (g':=g') (t':=t') (d':=d') u hok hg hch
end
noncomputable abbrev XK:=Value→Option Addr→Hp→Prop
noncomputable abbrev St:=List (Option V)
noncomputable abbrev VK:=V→Hp→Prop
noncomputable abbrev TE:=St→Hp→VK→Prop
noncomputable abbrev TT:=St→Hp→(Bool→Hp→Prop)→Prop
noncomputable abbrev TA:=St→Hp→(List V→Hp→Prop)→Prop
structure Ends where
 nx:St→Hp→Prop
 rt:VK
 bk:St→Hp→Prop:=fun _ _=>False
 ct:St→Hp→Prop:=fun _ _=>False
noncomputable abbrev TS:=Ends→St→Hp→Prop
noncomputable def EP(X:Cx)(pins:List (Addr×Obj))(σ:St)(Q:VK)(u:Value)(s':Shared):Prop:=∃ v H',Inv X pins σ H' s'∧RelV v u∧Q v H'
noncomputable def TP(X:Cx)(pins:List (Addr×Obj))(σ:St)(Q:Bool→Hp→Prop)(b:Bool)(s':Shared):Prop:=∃ H',Inv X pins σ H' s'∧Q b H'
noncomputable def AP(X:Cx)(pins:List (Addr×Obj))(σ:St)(Q:List V→Hp→Prop)(us:List Value)(s':Shared):Prop:=∃ vs H',Inv X pins σ H' s'∧Vals vs us∧Q vs H'
noncomputable def SP(X:Cx)(pins:List (Addr×Obj))(D:Ends)(f:Flow)(s':Shared):Prop :=
 match f with
 | .next=>∃ σ' H',Inv X pins σ' H' s'∧D.nx σ' H'
 | .brk=>∃ σ' H',Inv X pins σ' H' s'∧D.bk σ' H'
 | .cont=>∃ σ' H',Inv X pins σ' H' s'∧D.ct σ' H'
 | .ret u=>∃ v σ' H',Inv X pins σ' H' s'∧RelV v u∧D.rt v H'
noncomputable def PE(X:Cx)(e:Expr)(t:TE):Prop :=
 ∀ (pins:List (Addr×Obj)) (s:Shared) (σ:St) (H:Hp) (Q:VK),Inv X pins σ H s→t σ H Q→wpAny (model X.prog X.w) X.A (eval e X.env) (EP X pins σ Q) X.xe s
noncomputable def PT(X:Cx)(e:Expr)(t:TT):Prop :=
 ∀ (pins:List (Addr×Obj)) (s:Shared) (σ:St) (H:Hp) (Q:Bool→Hp→Prop),Inv X pins σ H s→t σ H Q→wpAny (model X.prog X.w) X.A (isTrue e X.env (eval e X.env)) (TP X pins σ Q) X.xe s
noncomputable def PW(X:Cx)(e:Expr)(t:TT):Prop :=
 ∀ (whole:Sem Value) (pins:List (Addr×Obj)) (s:Shared) (σ:St) (H:Hp) (Q:Bool→Hp→Prop),Inv X pins σ H s→t σ H Q→wpAny (model X.prog X.w) X.A (isTrue e X.env whole) (TP X pins σ Q) X.xe s
theorem PW.pt{X:Cx}{e:Expr}{t:TT}(h:PW X e t):PT X e t:=h _
noncomputable def PA(X:Cx)(es:List Expr)(t:TA):Prop :=
 ∀ (pos:Pos) (pins:List (Addr×Obj)) (s:Shared) (σ:St) (H:Hp) (Q:List V→Hp→Prop),Inv X pins σ H s→t σ H Q→wpAny (model X.prog X.w) X.A (spliced (backTo pos (starEach es X.env))) (AP X pins σ Q) X.xe s
noncomputable def PS(X:Cx)(st:Stmt)(t:TS):Prop :=
 ∀ (pins:List (Addr×Obj)) (s:Shared) (σ:St) (H:Hp) (D:Ends),Inv X pins σ H s→t D σ H→wpAny (model X.prog X.w) X.A (exec st X.env) (SP X pins D) X.xe s
noncomputable def PSs(X:Cx)(st:List Stmt)(t:TS):Prop :=
 ∀ (pins:List (Addr×Obj)) (s:Shared) (σ:St) (H:Hp) (D:Ends),Inv X pins σ H s→t D σ H→wpAny (model X.prog X.w) X.A (execs st X.env) (SP X pins D) X.xe s
theorem thn{α:Type}{t:Sem α}{Q Q':α→Shared→Prop}{M:Model}{A:Around}{E:Value→Shared→Prop}{s:Shared}(h:wpAny M A t Q E s)(hQ:∀ a s,Q a s→Q' a s):wpAny M A t Q' E s:=wpAny_mono h hQ fun _ _ x=>x
end L2
namespace L2
open PySem PySem.Spec PyProof.Rows
section
variable{X:Cx}
noncomputable def tVar(i:Nat):TE:=fun σ H Q=>∃ v,σ[i]?=some (some v)∧Q v H
noncomputable def tC(v:V):TE:=fun _ H Q=>Q v H
theorem pe_var{i:Nat}{x:Str}{pos:Pos}(hN:X.N[i]?=some x)(hv:Vis X.env.scope x)(hd:(x == ("__debug__" : Str))=false:=by decide)(hcd:(x == ("__classdict__" : Str))=false:=by decide):PE X (.Name x pos) (tVar i):=by
 intro pins s σ H Q I h
 obtain⟨v,e,h⟩:=h
 obtain⟨m,hn,hl⟩:=I.loc
 obtain⟨u,r,l⟩:=hl i x v hN e hv
 have fin:EP X pins σ Q u s:=⟨v,H,I,r,h⟩
 rcases l with⟨hk,hm⟩|⟨hk,c,hc,hcell⟩
 ·exact wpAny_Name (wpAny_loadName_local I.ok.kind hk hn hm fin) hd
 ·rcases hk with hk|hk
  ·exact wpAny_Name (wpAny_loadName_cell I.ok.kind hk hc hcell fin) hd
  ·exact wpAny_Name (wpAny_loadName_free I.ok.kind hk hc hcell fin hcd) hd
theorem pe_int{i j pos}:PE X (.Constant (.int i) j pos) (tC (.int i)):=fun _ _ _ H _ I h=>wpAny_Constant_int ⟨.int i,H,I.tok _,⟨_,rfl⟩,h⟩
theorem pe_bl{b j pos}:PE X (.Constant (.bool b) j pos) (tC (.bl b)):=fun _ _ _ H _ I h=>Constant_bool ⟨.bl b,H,I,rfl,h⟩
theorem pe_non{j pos}:PE X (.Constant .none j pos) (tC .non):=fun _ _ _ H _ I h=>Constant_none ⟨.non,H,I,rfl,h⟩
theorem pe_str{x j pos}:PE X (.Constant (.str x) j pos) (tC (.str x)):=fun _ _ _ H _ I h=>Calls.Constant_str ⟨.str x,H,I.tok _,⟨_,rfl⟩,h⟩
noncomputable def Gl(X:Cx)(x:Str):Prop:=X.env.kindOf x=some .globalImplicit
theorem ld_glob{E:Value→Shared→Prop}{pins:List (Addr×Obj)}{s:Shared}{σ:St}{H:Hp}{x:Str}{u:Value}{pos:Pos}{Q:Value→Shared→Prop}(I:Inv X pins σ H s)(hg:Gl X x)(hm:X.mg x=some u)(h:Q u s)
  (hd:(x == ("__debug__" : Str))=false:=by decide):wpAny (model X.prog X.w) X.A (eval (.Name x pos) X.env) Q E s :=
 Calls.Name_function_global I.ok.kind hg (Calls.loadGlobal_global (by rw[I.ok.glob];exact I.mod.glob.keeps I.bk) hm h) hd
theorem ld_blt{E:Value→Shared→Prop}{pins:List (Addr×Obj)}{s:Shared}{σ:St}{H:Hp}{x:Str}{u:Value}{pos:Pos}{Q:Value→Shared→Prop}(I:Inv X pins σ H s)(hg:Gl X x)(hm:X.mg x=none)(hv:bootBuiltins x=some u)(h:Q u s)
  (hn:x ≠ "__name__" := by decide) (hd:(x == ("__debug__" : Str))=false:=by decide):wpAny (model X.prog X.w) X.A (eval (.Name x pos) X.env) Q E s:=by
 obtain⟨mb,h1,h2⟩:=I.mod.blt
 exact Calls.Name_function_global I.ok.kind hg (Calls.loadGlobal_builtin (by rw[I.ok.glob];exact I.mod.glob.keeps I.bk) hm (by rw[I.ok.blt];exact h1.keeps I.bk) ((h2 x hn).trans hv) h) hd
theorem pe_glob{x:Str}{v:V}{u:Value}{pos:Pos}(hg:Gl X x)(hm:X.mg x=some u)(r:RelV v u)(hd:(x == ("__debug__" : Str))=false:=by decide):PE X (.Name x pos) (tC v) :=
 fun _ _ _ H _ I h=>ld_glob I hg hm ⟨v,H,I,r,h⟩ hd
theorem pe_bltn{x:Str}{v:V}{u:Value}{pos:Pos}(hg:Gl X x)(hm:X.mg x=none)(hv:bootBuiltins x=some u)(r:RelV v u)(hn:x ≠ "__name__" := by decide)(hd:(x == ("__debug__" : Str))=false:=by decide):PE X (.Name x pos) (tC v) :=
 fun _ _ _ H _ I h=>ld_blt I hg hm hv ⟨v,H,I,r,h⟩ hn hd
variable{a b:Expr}{ta tb:TE}{pos:Pos}
noncomputable def tB(t:TE):TT:=fun σ H Q=>t σ H fun x H1=>∃ c,x=.bl c∧Q c H1
theorem pt_val{e:Expr}{t:TE}(h:PE X e t)(he:∀ whole,isTrue e X.env whole=(do let v ← whole;standAt e.pos;holding [v] (truthy v)):=by intro _;rfl):PT X e (tB t):=by
 intro pins s σ H Q I hw
 refine isTrue_plain (thn (h pins s σ H _ I hw) fun v s1 ⟨x,H1,I1,r1,q1⟩=>?_) (he _)
 obtain⟨d,rfl,q⟩:=q1
 cases r1
 exact wpAny_truthy_bool ⟨H1,I1,q⟩
variable{tA tB':TT}{rest:List Expr}
noncomputable def tAnd(t u:TT):TT:=fun σ H Q=>t σ H fun c H1=>if c=true then u σ H1 Q else Q false H1
noncomputable def tOr(t u:TT):TT:=fun σ H Q=>t σ H fun c H1=>if c=true then Q true H1 else u σ H1 Q
noncomputable def tNot(t:TT):TT:=fun σ H Q=>t σ H fun c H1=>Q (!c) H1
theorem pw_and1(ha:PT X a tA):PW X (.BoolOp .And [a] pos) tA:=by
 intro wh pins s σ H Q I h
 refine isTrue_and (thn (ha pins s σ H Q I h) fun c s1 e=>?_)
 cases c with
 | true=>exact isTrue_and_nil e
 | false=>exact e
theorem pw_or1(ha:PT X a tA):PW X (.BoolOp .Or [a] pos) tA:=by
 intro wh pins s σ H Q I h
 refine isTrue_or (thn (ha pins s σ H Q I h) fun c s1 e=>?_)
 cases c with
 | false=>exact isTrue_or_nil e
 | true=>exact e
theorem pw_and(ha:PT X a tA)(hb:PW X (.BoolOp .And (b::rest) pos) tB'):PW X (.BoolOp .And (a::b::rest) pos) (tAnd tA tB'):=by
 intro wh pins s σ H Q I h
 refine isTrue_and (thn (ha pins s σ H _ I h) fun c s1 ⟨H1,I1,q1⟩=>?_)
 cases c with
 | true=>exact hb wh pins s1 σ H1 Q I1 q1
 | false=>exact⟨H1,I1,q1⟩
theorem pw_or(ha:PT X a tA)(hb:PW X (.BoolOp .Or (b::rest) pos) tB'):PW X (.BoolOp .Or (a::b::rest) pos) (tOr tA tB'):=by
 intro wh pins s σ H Q I h
 refine isTrue_or (thn (ha pins s σ H _ I h) fun c s1 ⟨H1,I1,q1⟩=>?_)
 cases c with
 | true=>exact⟨H1,I1,q1⟩
 | false=>exact hb wh pins s1 σ H1 Q I1 q1
theorem pt_not(ha:PT X a tA):PT X (.UnaryOp .Not a pos) (tNot tA):=by
 intro pins s σ H Q I h
 exact isTrue_not (ha pins s σ H (fun c H1=>Q (!c) H1) I h)
noncomputable def tAndV(ta tb:TE):TE:=fun σ H Q=>ta σ H fun x H1=>∃ c,x=.bl c∧if c=true then tb σ H1 Q else Q (.bl false) H1
theorem pe_one{op}{t:TE}(h:PE X a t):PE X (.BoolOp op [a] pos) t:=fun pins s σ H Q I hw=>BoolOp_one (h pins s σ H Q I hw)
theorem pe_and(ha:PE X a ta)(hb:PE X (.BoolOp .And (b::rest) pos) tb):PE X (.BoolOp .And (a::b::rest) pos) (tAndV ta tb):=by
 intro pins s σ H Q I h
 refine BoolOp_and (thn (ha pins s σ H _ I h) fun v s1 ⟨x,H1,I1,r1,q1⟩=>?_)
 obtain⟨c,rfl,q1⟩:=q1
 cases r1
 refine wpAny_truthy_bool ?_
 cases c with
 | true=>exact hb pins s1 σ H1 Q I1 q1
 | false=>exact⟨.bl false,H1,I1,rfl,q1⟩
end
end L2
namespace L2
open PySem PySem.Spec PyProof.Rows
noncomputable def SqL(K:W.Frag)(H:Hp)(a:Addr)(xs:List V):Prop :=
 Rd H a (.lst xs) ∨
  ∃ (o:Obj) (its:Array Value) (n:Nat),K.lookup a=some o∧o.cls=.type "list" ∧ o.dict=none∧o.data=.seq its n∧its.size≤sizeLine∧Vals xs its.toList
noncomputable def SqT(K:W.Frag)(H:Hp)(a:Addr)(xs:List V):Prop :=
 Rd H a (.tup xs) ∨
  ∃ (o:Obj) (its:Array Value) (n:Nat),K.lookup a=some o∧o.cls=.type "tuple" ∧ o.data=.seq its n∧its.size≤sizeLine∧Vals xs its.toList
noncomputable def absV:Value→Option V
 | .none=>some .non
 | .bool b=>some (.bl b)
 | .int i _=>some (.int i)
 | .str x _=>some (.str x)
 | .bytes b _=>some (.byt b)
 | .float b _=>some (.flt b)
 | .ref a=>some (.ref a)
 | .type n=>some (.ty n)
 | _=>none
theorem RelV.abs{x:V}{u:Value}(r:RelV x u):absV u=some x:=by
 cases x with
 | non=>cases r;rfl
 | bl _=>cases r;rfl
 | int _=>obtain⟨t,rfl⟩:=r;rfl
 | str _=>obtain⟨t,rfl⟩:=r;rfl
 | byt _=>obtain⟨t,rfl⟩:=r;rfl
 | flt _=>obtain⟨t,rfl⟩:=r;rfl
 | ref _=>cases r;rfl
 | ty _=>cases r;rfl
theorem RelV.inj{x y:V}{u:Value}(r:RelV x u)(q:RelV y u):x=y:=Option.some.inj (r.abs.symm.trans q.abs)
theorem Vals.inj:∀ {xs ys:List V} {us:List Value},Vals xs us→Vals ys us→xs=ys
 | _,_,_,.nil,.nil=>rfl
 | _,_,_,.cons r t,.cons r' t'=>by rw[r.inj r',Vals.inj t t']
section
variable{X:Cx}{pins:List (Addr×Obj)}{σ:St}{H:Hp}{s:Shared}{a:Addr}{xs ys:List V}
theorem SqL.of{K:W.Frag}(h:H a=some (.lst xs)):SqL K H a xs:=.inl (.inl h)
theorem SqT.of{K:W.Frag}(h:H a=some (.tup xs)):SqT K H a xs:=.inl (.inl h)
theorem Inv.list(I:Inv X pins σ H s)(h:SqL X.K H a xs):∃ its:List Value,Vals xs its∧PlainL s.heap a its.toArray∧xs.length≤sizeLine:=by
 rcases h with h|⟨o,its,n,hk,hc,hd,hs,hz,r⟩
 ·obtain⟨z,its,n,r,e⟩:=h.ok I.hok
  exact⟨its,r,⟨_,n,e,rfl,rfl,rfl⟩,z⟩
 ·refine⟨its.toList,r,⟨o,n,I.kIn a o hk,hc,hd,by simpa using hs⟩,?_⟩
  have e:=r.length
  simp only[Array.length_toList] at e
  omega
theorem Inv.tuple(I:Inv X pins σ H s)(h:SqT X.K H a xs):∃ its:List Value,Vals xs its∧IsTup s.heap a its.toArray∧xs.length≤sizeLine:=by
 rcases h with h|⟨o,its,n,hk,hc,hs,hz,r⟩
 ·obtain⟨z,its,r,p⟩:=h.ok I.hok
  exact⟨its,r,p,z⟩
 ·refine⟨its.toList,r,⟨o,I.kIn a o hk,hc,n,by simpa using hs⟩,?_⟩
  have e:=r.length
  simp only[Array.length_toList] at e
  omega
theorem Inv.list_inj(I:Inv X pins σ H s)(h:SqL X.K H a xs)(h':SqL X.K H a ys):xs=ys:=by
 obtain⟨its,r,⟨o,n,e,_,_,d⟩,_⟩:=I.list h
 obtain⟨its',r',⟨o',n',e',_,_,d'⟩,_⟩:=I.list h'
 rw[e] at e';cases e'
 rw[d] at d'
 injection d' with d1 _
 have:its=its':=by simpa using congrArg Array.toList d1
 subst this
 exact r.inj r'
theorem Inv.tuple_inj(I:Inv X pins σ H s)(h:SqT X.K H a xs)(h':SqT X.K H a ys):xs=ys:=by
 obtain⟨its,r,⟨o,e,_,n,d⟩,_⟩:=I.tuple h
 obtain⟨its',r',⟨o',e',_,n',d'⟩,_⟩:=I.tuple h'
 rw[e] at e';cases e'
 rw[d] at d'
 injection d' with d1 _
 have:its=its':=by simpa using congrArg Array.toList d1
 subst this
 exact r.inj r'
end
noncomputable abbrev Cx.wish(X:Cx)(E:Value→Shared→Prop):Cx:={ X with xe:=E }
noncomputable abbrev Cx.nox(X:Cx):Cx:=X.wish fun _ _=>False
theorem Cx.Ok.wish{X:Cx}(ok:X.Ok)(E:Value→Shared→Prop):(X.wish E).Ok :=
 ⟨ok.mod,ok.kind,ok.glob,ok.blt,ok.above,ok.inj,ok.has,ok.cab,ok.hd,ok.frames,ok.stk,ok.exf,ok.bs,ok.bsz,ok.noex,ok.exfs,ok.funs,ok.frf⟩
theorem Cx.Ok.unwish{X:Cx}{E:Value→Shared→Prop}(ok:(X.wish E).Ok):X.Ok :=
 ⟨ok.mod,ok.kind,ok.glob,ok.blt,ok.above,ok.inj,ok.has,ok.cab,ok.hd,ok.frames,ok.stk,ok.exf,ok.bs,ok.bsz,ok.noex,ok.exfs,ok.funs,ok.frf⟩
section
variable{X:Cx}{pins:List (Addr×Obj)}{σ:St}{H:Hp}{s:Shared}{E:Value→Shared→Prop}
theorem Inv.wish(I:Inv X pins σ H s)(E:Value→Shared→Prop):Inv (X.wish E) pins σ H s:=⟨I.ok.wish E,I.os,I.bare,I.base,I.loc,I.cell,I.free,I.freeC,I.pin,I.hok,I.len⟩
theorem Inv.unwish(I:Inv (X.wish E) pins σ H s):Inv X pins σ H s:=⟨I.ok.unwish,I.os,I.bare,I.base,I.loc,I.cell,I.free,I.freeC,I.pin,I.hok,I.len⟩
theorem SP.unwish{D:Ends}{f:Flow}{s':Shared}(h:SP (X.wish E) pins D f s'):SP X pins D f s':=by
 cases f with
 | next=>obtain⟨σ',H',I,q⟩:=h;exact⟨σ',H',I.unwish,q⟩
 | brk=>obtain⟨σ',H',I,q⟩:=h;exact⟨σ',H',I.unwish,q⟩
 | cont=>obtain⟨σ',H',I,q⟩:=h;exact⟨σ',H',I.unwish,q⟩
 | ret u=>obtain⟨v,σ',H',I,r,q⟩:=h;exact⟨v,σ',H',I.unwish,r,q⟩
theorem PSs.nox{st:List Stmt}{t:TS}(h:PSs X.nox st t):PSs X st t:=fun pins s σ H D I hw =>
 wpAny_mono (h pins s σ H D (I.wish _) hw) (fun _ _ q=>q.unwish) fun _ _ z=>False.elim z
end
section
variable{X:Cx}{st:Stmt}{rest:List Stmt}{t u:TS}{e:Expr}{te:TE}{pos:Pos}
noncomputable def tNext:TS:=fun D σ H=>D.nx σ H
noncomputable def tSeq(t u:TS):TS:=fun D σ H=>t { D with nx:=u D } σ H
theorem pss_nil:PSs X [] tNext:=fun _ _ σ H _ I h=>wpAny_execs_nil ⟨σ,H,I,h⟩
theorem pss_cons(h1:PS X st t)(h2:PSs X rest u):PSs X (st::rest) (tSeq t u):=by
 intro pins s σ H D I h
 refine wpAny_execs_cons (thn (h1 pins s σ H { D with nx:=u D } I h) fun f s1 q=>?_)
 cases f with
 | next =>
  obtain⟨σ',H',I',q⟩:=q
  exact h2 pins s1 σ' H' D I' q
 | ret v=>exact q
 | brk=>exact q
 | cont=>exact q
theorem pss_one(h1:PS X st t):PSs X [st] t:=by
 intro pins s σ H D I h
 refine wpAny_execs_cons (thn (h1 pins s σ H D I h) fun f s1 q=>?_)
 cases f with
 | next=>exact wpAny_execs_nil q
 | ret v=>exact q
 | brk=>exact q
 | cont=>exact q
theorem Inv.quiet{pins:List (Addr×Obj)}{σ:St}{H:Hp}{s:Shared}(I:Inv X pins σ H s):interactive X.env=false:=by simp[interactive,I.ok.kind]
noncomputable def tDrop(te:TE):TS:=fun D σ H=>te σ H fun _ H1=>D.nx σ H1
theorem ps_expr(he:PE X e te)(hs:swapsWith e none pos.line X.env=pure false:=by rfl):PS X (.Expr e pos) (tDrop te):=by
 intro pins s σ H D I h
 exact wpAny_Expr_any (thn (he pins s σ H _ I h) fun v s1 ⟨x,H1,I1,r1,q1⟩=>⟨σ,H1,I1,q1⟩) I.quiet hs
noncomputable def tRet(te:TE):TS:=fun D σ H=>te σ H D.rt
theorem ps_ret(he:PE X e te):PS X (.Return (some e) pos) (tRet te):=by
 intro pins s σ H D I h
 exact wpAny_Return_some (thn (he pins s σ H _ I h) fun v s1 ⟨x,H1,I1,r1,q1⟩=>⟨x,σ,H1,I1,r1,q1⟩)
noncomputable def tIfS(c:TT)(t u:TS):TS:=fun D σ H=>c σ H fun b H1=>if b=true then t D σ H1 else u D σ H1
theorem ps_if{c:Expr}{a b:List Stmt}{tc:TT}(hc:PT X c tc)(ha:PSs X a t)(hb:PSs X b u):PS X (.If c a b pos) (tIfS tc t u):=by
 intro pins s σ H D I h
 refine wpAny_If (thn (hc pins s σ H _ I h) fun d s1 ⟨H1,I1,q1⟩=>?_)
 cases d with
 | true=>exact ha pins s1 σ H1 D I1 q1
 | false=>exact hb pins s1 σ H1 D I1 q1
noncomputable def tNever:TS:=fun _ _ _=>False
theorem ps_never:PS X st tNever:=fun _ _ _ _ _ _ h=>h.elim
theorem pss_never{sts:List Stmt}:PSs X sts tNever:=fun _ _ _ _ _ _ h=>h.elim
end
noncomputable abbrev TG:=V→St→Hp→(St→Hp→Prop)→Prop
noncomputable abbrev TGs:=List V→St→Hp→(St→Hp→Prop)→Prop
noncomputable def PG(X:Cx)(target:Expr)(t:TG):Prop :=
 ∀ (pins:List (Addr×Obj)) (s:Shared) (σ:St) (H:Hp) (v:V) (u:Value) (Q:St→Hp→Prop),Inv X pins σ H s→RelV v u→t v σ H Q →
  wpAny (model X.prog X.w) X.A (assign target X.env u) (fun _ s'=>∃ σ' H',Inv X pins σ' H' s'∧Q σ' H') X.xe s
noncomputable def PGs(X:Cx)(ts:List Expr)(t:TGs):Prop :=
 ∀ (pins:List (Addr×Obj)) (s:Shared) (σ:St) (H:Hp) (vs:List V) (us:List Value) (Q:St→Hp→Prop),Inv X pins σ H s→Vals vs us→t vs σ H Q →
  wpAny (model X.prog X.w) X.A (assignInOrder ((assignEach ts X.env).map (·.2)) us) (fun _ s'=>∃ σ' H',Inv X pins σ' H' s'∧Q σ' H') X.xe s
noncomputable abbrev TSet:=V→V→V→Hp→(Hp→Prop)→Prop
noncomputable def PSet(X:Cx)(t:TSet):Prop :=
 ∀ (pins:List (Addr×Obj)) (s:Shared) (σ:St) (H:Hp) (o i v:V) (ov iv u:Value) (Q:Hp→Prop),Inv X pins σ H s→RelV o ov→RelV i iv→RelV v u→t o i v H Q →
  wpAny (model X.prog X.w) X.A (setItem ov iv u) (fun _ s'=>∃ H',Inv X pins σ H' s'∧Q H') X.xe s
section
variable{X:Cx}{pos:Pos}
noncomputable def gName(i:Nat):TG:=fun v σ H Q=>Q (σ.set i (some v)) H
theorem pg_name{i:Nat}{x:Str}(hN:X.N.Nodup)(hi:X.N[i]?=some x)(hx:Loc X.env.scope x)(hf:X.fn x=true∨X.env.scope.names.lookup x=some .local:=by first|exact .inl rfl|exact .inr rfl|assumption):PG X (.Name x pos) (gName i):=by
 intro pins s σ H v u Q I r h
 exact wpAny_assign_Name (store_ok I hN hi hx r (fun s' I'=>⟨_,H,I',h⟩) hf)
noncomputable def gNil:TGs:=fun vs σ H Q=>vs=[]∧Q σ H
noncomputable def gCons(t:TG)(u:TGs):TGs:=fun vs σ H Q=>∃ v r,vs=v::r∧t v σ H fun σ' H'=>u r σ' H' Q
theorem pgs_nil:PGs X [] gNil:=by
 intro pins s σ H vs us Q I r h
 obtain⟨e,h⟩:=h
 subst e
 cases r
 exact assignInOrder_nil ⟨σ,H,I,h⟩
theorem pgs_cons{e:Expr}{es:List Expr}{t:TG}{u:TGs}(h1:PG X e t)(h2:PGs X es u)
  (hs:(assignEach (e::es) X.env).map (·.2)=assign e X.env::(assignEach es X.env).map (·.2):=by rfl):PGs X (e::es) (gCons t u):=by
 intro pins s σ H vs us Q I r h
 obtain⟨v,vr,e1,h⟩:=h
 subst e1
 cases r with
 | cons r rr =>
  rw[hs]
  refine assignInOrder_cons (thn (h1 pins s σ H _ _ _ I r h) fun _ s1 ⟨σ1,H1,I1,q1⟩=>?_)
  exact h2 pins s1 σ1 H1 _ _ Q I1 rr q1
noncomputable def gTup(K:W.Frag)(n:Nat)(t:TGs):TG:=fun v σ H Q=>∃ a xs,v=.ref a∧SqT K H a xs∧xs.length=n∧t xs σ H Q
theorem pg_tup{es:List Expr}{k:Nat}{t:TGs}{n:Nat}(hc:X.calm=true)(h:PGs X es t)
  (hn:(assignEach es X.env).length=n:=by rfl) (hst:(assignEach es X.env).findIdx? (·.1)=none:=by rfl):PG X (.Tuple es k pos) (gTup X.K n t):=by
 intro pins s σ H v u Q I r hw
 obtain⟨a,xs,e1,hq,hl,hw⟩:=hw
 subst e1
 cases r
 obtain⟨its,rv,ht,hz⟩:=I.tuple hq
 refine assign_Tuple_tuple (I.ok.hd hc) ht (by simp[hn,← hl,rv.length]) hst fun h' hx=>?_
 have I1:Inv X pins σ H { s with heap:=h' }:=I.kept (t':=s.toks) fun b o e=>hx b o (Nat.ne_of_lt (Heap.lt_size e)) e
 exact h pins _ σ H xs _ Q I1 (by simpa using rv) hw
noncomputable def gSub(to ti:TE)(t:TSet):TG:=fun v σ H Q=>to σ H fun o H1=>ti σ H1 fun i H2=>t o i v H2 fun H3=>Q σ H3
theorem pg_sub{o i:Expr}{to ti:TE}{t:TSet}(ho:PE X o to)(hi:PE X i ti)(hs:PSet X t)
  (ha:∀ v,assign (.Subscript o i pos) X.env v=(do
   let ov ← holding [v] (eval o X.env)
   let iv ← holding [v,ov] (eval i X.env)
   standAt pos
   holding [v,ov,iv] (setItem ov iv v)
   release [v,ov,iv] []):=by intro _;rfl):PG X (.Subscript o i pos) (gSub to ti t):=by
 intro pins s σ H v u Q I r h
 rw[ha]
 refine wpAny_bind (wpAny_holding (thn (ho pins s σ H _ I h) fun ov s1 ⟨x,H1,I1,r1,q1⟩=>?_))
 refine wpAny_bind (wpAny_holding (thn (hi pins s1 σ H1 _ I1 q1) fun iv s2 ⟨y,H2,I2,r2,q2⟩=>?_))
 refine wpAny_bind (wpAny_standAt (wpAny_bind (wpAny_holding (thn (hs pins s2 σ H2 x y v ov iv u _ I2 r1 r2 r q2) fun _ s3 ⟨H3,I3,q3⟩=>?_))))
 exact wpAny_release ⟨σ,H3,I3,q3⟩
noncomputable def tAsg(te:TE)(g:TG):TS:=fun D σ H=>te σ H fun x H1=>g x σ H1 D.nx
theorem ps_asg{tg e:Expr}{te:TE}{g:TG}(he:PE X e te)(hg:PG X tg g)(hs:swapsWithSole [tg] e pos.line X.env=pure false:=by rfl)(hw:swappedStores [tg] e X.env=pure none:=by rfl)
  (h1:(assignEach [tg] X.env).map (·.2)=[assign tg X.env]:=by rfl):PS X (.Assign [tg] e pos) (tAsg te g):=by
 intro pins s σ H D I h
 refine wpAny_Assign_stores (thn (he pins s σ H _ I h) fun v s1 ⟨x,H1,I1,r1,q1⟩=>?_) hs hw
 rw[h1]
 exact thn (hg pins s1 σ H1 x v _ I1 r1 q1) fun _ s2 q=>q
theorem ps_set{i:Nat}{x:Str}{e:Expr}{te:TE}{pos':Pos}(hN:X.N.Nodup)(hi:X.N[i]?=some x)(hx:Loc X.env.scope x)(he:PE X e te)(hs:swapsWith e (some (.Name x pos')) pos.line X.env=pure false:=by rfl)(hf:X.fn x=true∨X.env.scope.names.lookup x=some .local:=by first|exact .inl rfl|exact .inr rfl|assumption) :
  PS X (.Assign [.Name x pos'] e pos) (tAsg te (gName i)):=by
 intro pins s σ H D I h
 refine wpAny_Assign_Name (thn (he pins s σ H _ I h) fun v s1 ⟨y,H1,I1,r1,q1⟩=>?_) hs
 exact store_ok I1 hN hi hx r1 (fun s2 I2=>⟨_,H1,I2,q1⟩) hf
end
section
variable{X:Cx}{pos:Pos}
noncomputable def tWhile(c:TT)(tb:TS):TS:=fun D σ H=>∃ W:Nat→St→Hp→Prop,(∃ m,W m σ H)∧∀ m σ H,W m σ H →
 c σ H fun b H1=>if b=true then ∃ N:St→Hp→Prop,(∀ σ' H',N σ' H'→∃ m',m' < m∧W m' σ' H')∧tb { D with nx:=N,ct:=N,bk:=D.nx } σ H1 else D.nx σ H1
theorem ps_while{c:Expr}{body:List Stmt}{tc:TT}{tb:TS}(hp:PassesOwn (model X.prog X.w) X.A X.env X.xe)(hc:PT X c tc)(hb:PSs X body tb):PS X (.While c body [] pos) (tWhile tc tb):=by
 intro pins s σ H D I h
 obtain⟨W,⟨m0,w0⟩,turn⟩:=h
 refine wpAny_While (codeAny_whileLoop (fun n s'=>∃ σ' H',Inv X pins σ' H' s'∧W n σ' H') ?_ m0 ⟨σ,H,I,w0⟩)
 rintro n s1 ⟨σ1,H1,I1,w1⟩
 refine wpAny_passesOwn hp (thn (hc pins s1 σ1 H1 _ I1 (turn n σ1 H1 w1)) fun b s2 ⟨H2,I2,q2⟩=>?_)
 cases b with
 | true =>
  obtain⟨N,hN,q2⟩:=q2
  rw[if_pos rfl]
  refine wpAny_passesOwn hp (thn (hb pins s2 σ1 H2 _ I2 q2) fun f s3 q3=>?_)
  cases f with
  | next =>
   obtain⟨σ3,H3,I3,n3⟩:=q3
   obtain⟨m',hm,w3⟩:=hN σ3 H3 n3
   exact⟨m',hm,σ3,H3,I3,w3⟩
  | cont =>
   obtain⟨σ3,H3,I3,n3⟩:=q3
   obtain⟨m',hm,w3⟩:=hN σ3 H3 n3
   exact⟨m',hm,σ3,H3,I3,w3⟩
  | brk=>exact q3
  | ret v=>exact q3
 | false =>
  rw[if_neg Bool.false_ne_true]
  exact wpAny_execs_nil ⟨σ1,H2,I2,q2⟩
end
structure It where
 go:Nat→Hp→Prop
 yld:Nat→Hp→V→Hp→Prop
 stop:Nat→Hp→Prop
noncomputable def FpOk(X:Cx)(pins:List (Addr×Obj))(H:Hp)(b:Addr):Prop :=
 H b=none∧b≠X.env.locals∧b∉X.fs∧(b∈X.ex∨X.s₀.heap.objs.size≤b)∧(∀ x c,X.env.cells.lookup x=some c→c≠b)∧∀ p∈X.pn++pins,p.1≠b
theorem Inv.fpOk{X:Cx}{pins:List (Addr×Obj)}{σ:St}{H H':Hp}{s:Shared}{b:Addr}(I:Inv X pins σ H s)(hb:s.heap.objs.size≤b)(hn:H' b=none):FpOk X pins H' b:=by
 refine⟨hn,Nat.ne_of_gt (Nat.lt_of_lt_of_le I.lt hb),I.nofs hb,.inr (Nat.le_trans I.sz hb),fun x c e z=>?_,fun p hp z=>?_⟩
 ·obtain⟨v,q⟩:=I.cell x c e
  exact absurd (Nat.lt_of_lt_of_le q.lt (by rw[z];exact hb)) (Nat.lt_irrefl _)
 ·exact absurd (Nat.lt_of_lt_of_le (Heap.lt_size (I.pin p hp).1) (by rw[z];exact hb)) (Nat.lt_irrefl _)
structure Turn(P:Program)(w:World)(K:W.Frag)(tg:Expr)(J:It)(fp:List Addr)(it:Addr)(tn:Nat→Heap→Prop):Prop where
 mem:it∈fp
 obj:∀ i h,tn i h→∀ b∈fp,∃ o,h.get? b=some o∧∀ v,o.data≠.cell v
 keep:∀ i h h',tn i h→(∀ b∈fp,∀ o,h.get? b=some o→h'.get? b=some o)→tn i h'
 item:∀ (X:Cx),X.prog=P→X.w=w→X.K=K→X.calm=true→∀ (i:Nat) (pins:List (Addr×Obj)) (s:Shared) (σ:St) (H:Hp) (E:Value→Shared→Prop),Inv X pins σ H s→(∀ b∈fp,FpOk X pins H b)→tn i s.heap→J.go i H →
  wpAny (model P w) X.A (pyNext (.ref it)) (fun r s1=>∃ u,r=some u ∧
   wpAny (model P w) X.A (letOwnedTupleGo tg (.ref it) u) (fun _ s2=>∃ x H',Inv X pins σ H' s2∧RelV x u∧J.yld i H x H'∧tn (i+1) s2.heap∧∀ b∈fp,H' b=none) E s1) E s
 done:∀ (X:Cx),X.prog=P→X.w=w→X.K=K→X.calm=true→∀ (i:Nat) (pins:List (Addr×Obj)) (s:Shared) (σ:St) (H:Hp) (E:Value→Shared→Prop),Inv X pins σ H s→(∀ b∈fp,FpOk X pins H b)→tn i s.heap→J.stop i H →
  wpAny (model P w) X.A (pyNext (.ref it)) (fun r s1=>r=none∧Inv X pins σ H s1) E s
 self:∀ (A:Around) (i:Nat) (s:Shared) (Q:Value→Shared→Prop) (E:Value→Shared→Prop),tn i s.heap→Q (.ref it) s→wpAny (model P w) A (pyIter (.ref it)) Q E s
noncomputable abbrev TI:=St→Hp→(It→Hp→Prop)→Prop
noncomputable def PIE(X:Cx)(pins:List (Addr×Obj))(σ:St)(tg:Expr)(R:It→Hp→Prop)(itv:Value)(s2:Shared):Prop :=
 ∃ (it:Addr) (fp:List Addr) (tn:Nat→Heap→Prop) (J:It) (H':Hp),itv=.ref it∧Inv X pins σ H' s2∧Turn X.prog X.w X.K tg J fp it tn∧tn 0 s2.heap∧(∀ b∈fp,FpOk X pins H' b)∧R J H'
noncomputable def PI(X:Cx)(tg iter:Expr)(wi:TI):Prop :=
 ∀ (pins:List (Addr×Obj)) (s:Shared) (σ:St) (H:Hp) (R:It→Hp→Prop),Inv X pins σ H s→wi σ H R →
  wpAny (model X.prog X.w) X.A (eval iter X.env) (fun v s1=>wpAny (model X.prog X.w) X.A (pyIter v) (PIE X pins σ tg R) X.xe s1) X.xe s
theorem go_of{M:Model}{A:Around}{E:Value→Shared→Prop}{s:Shared}{tg:Expr}{it:Addr}{u:Value}{o:Obj}{n:String}{vs:Array Value}{Q:Unit→Shared→Prop}(ho:s.heap.get? it=some o)(hc:o.cls=.type n)(hd:o.data=.fields vs)
    (hn:["enumerate", "zip", "dict_itemiterator", "dict_reverseitemiterator", "odict_iterator", "itertools.zip_longest", "itertools.pairwise"].contains n=false) (hQ:Q () s):wpAny M A (letOwnedTupleGo tg (.ref it) u) Q E s:=by
  unfold letOwnedTupleGo
  cases tg<;>first
    | exact wpAny_pure hQ
    | (cases u<;>first
        | exact wpAny_pure hQ
        | (refine wpAny_bind (wpAny_load ho ?_)
           rw[hc,hd]
           show wpAny M A (if (["enumerate", "zip", "dict_itemiterator", "dict_reverseitemiterator", "odict_iterator", "itertools.zip_longest", "itertools.pairwise"].contains n && vs[0]? == some (rawInt _))=true then _ else _) Q E s
           rw[if_neg (by intro h;rw[hn,Bool.false_and] at h;cases h)]
           exact wpAny_pure hQ))
noncomputable def Itl(K:W.Frag)(a:Addr):It :=
 ⟨fun i H=>∃ xs x,SqL K H a xs∧xs[i]?=some x,fun i H x H'=>H'=H∧∀ xs,SqL K H a xs→xs[i]?=some x,fun i H=>∃ xs,SqL K H a xs∧xs.length≤i⟩
noncomputable def Itt(K:W.Frag)(a:Addr):It :=
 ⟨fun i H=>∃ xs x,SqT K H a xs∧xs[i]?=some x,fun i H x H'=>H'=H∧∀ xs,SqT K H a xs→xs[i]?=some x,fun i H=>∃ xs,SqT K H a xs∧xs.length≤i⟩
noncomputable def Itr(lo:Int)(n:Nat):It:=⟨fun i _=>i<n,fun i H x H'=>H'=H∧x=.int (lo+i),fun i _=>n≤i⟩
theorem turn_list{P:Program}{w:World}{K:W.Frag}{tg:Expr}(a it:Addr):Turn P w K tg (Itl K a) [it] it (fun i h=>h.IsListIter it a i) where
 mem:=by simp
 obj:=fun i h st b hb=>by
  have e:b=it:=by simpa using hb
  subst e
  obtain⟨o,e,c,d⟩:=st
  exact⟨o,e,fun v z=>by rw[d] at z;cases z⟩
 keep:=fun i h h' st k=>st.at fun o e=>k it (by simp) o e
 item:=by
  intro X hP hw hK hc i pins s σ H E I hf st hg
  subst hP hw hK
  obtain⟨xs,x,hq,hx⟩:=hg
  obtain⟨its,rv,p,hz⟩:=I.list hq
  obtain⟨u,hu,ru⟩:=rv.get hx
  obtain⟨f0,f1,f2,f3,f4,f5⟩:=hf it (by simp)
  refine wpAny_pyNext_list_item st p.isList (x:=u) (by simpa using hu) fun h' st' sb=>?_
  have I1:Inv X pins σ H { s with heap:=h' }:=I.turned (t':=s.toks) (fun b o hb e=>(sb.2 b hb).trans e) f0 f1 f3 f4 f5
  obtain⟨o,e,c,d⟩:=id st'
  exact⟨u,rfl,go_of (s:={ s with heap:=h' }) e c d (by decide) ⟨x,H,I1,ru,⟨rfl,fun ys hy=>by rw[I.list_inj hy hq];exact hx⟩,st',fun b hb=>(hf b hb).1⟩⟩
 done:=by
  intro X hP hw hK hc i pins s σ H E I hf st hg
  subst hP hw hK
  obtain⟨xs,hq,hx⟩:=hg
  obtain⟨its,rv,p,hz⟩:=I.list hq
  obtain⟨f0,f1,f2,f3,f4,f5⟩:=hf it (by simp)
  have hl:=rv.length
  exact wpAny_pyNext_list_end (I.ok.hd hc) st p.isList (by simp;omega) fun h' eb=>⟨rfl,I.turned (t':=s.toks) (fun b o hb e=>eb b o hb e) f0 f1 f3 f4 f5⟩
 self:=fun _ _ _ _ _ st h=>wpAny_pyIter_listiter st h
theorem turn_tuple{P:Program}{w:World}{K:W.Frag}{tg:Expr}(a it:Addr):Turn P w K tg (Itt K a) [it] it (fun i h=>h.IsTupleIter it a i) where
 mem:=by simp
 obj:=fun i h st b hb=>by
  have e:b=it:=by simpa using hb
  subst e
  obtain⟨o,e,c,d⟩:=st
  exact⟨o,e,fun v z=>by rw[d] at z;cases z⟩
 keep:=fun i h h' st k=>st.at fun o e=>k it (by simp) o e
 item:=by
  intro X hP hw hK hc i pins s σ H E I hf st hg
  subst hP hw hK
  obtain⟨xs,x,hq,hx⟩:=hg
  obtain⟨its,rv,p,hz⟩:=I.tuple hq
  obtain⟨u,hu,ru⟩:=rv.get hx
  obtain⟨f0,f1,f2,f3,f4,f5⟩:=hf it (by simp)
  refine wpAny_pyNext_tuple_item st (show s.heap.IsTuple a its.toArray from p) (x:=u) (by simpa using hu) fun h' st' sb=>?_
  have I1:Inv X pins σ H { s with heap:=h' }:=I.turned (t':=s.toks) (fun b o hb e=>(sb.2 b hb).trans e) f0 f1 f3 f4 f5
  obtain⟨o,e,c,d⟩:=id st'
  exact⟨u,rfl,go_of (s:={ s with heap:=h' }) e c d (by decide) ⟨x,H,I1,ru,⟨rfl,fun ys hy=>by rw[I.tuple_inj hy hq];exact hx⟩,st',fun b hb=>(hf b hb).1⟩⟩
 done:=by
  intro X hP hw hK hc i pins s σ H E I hf st hg
  subst hP hw hK
  obtain⟨xs,hq,hx⟩:=hg
  obtain⟨its,rv,p,hz⟩:=I.tuple hq
  obtain⟨f0,f1,f2,f3,f4,f5⟩:=hf it (by simp)
  have hl:=rv.length
  exact wpAny_pyNext_tuple_end (I.ok.hd hc) st (show s.heap.IsTuple a its.toArray from p) (by simp;omega) fun h' eb=>⟨rfl,I.turned (t':=s.toks) (fun b o hb e=>eb b o hb e) f0 f1 f3 f4 f5⟩
 self:=fun _ _ _ _ _ st h=>wpAny_pyIter_tupleiter st h
theorem turn_range{P:Program}{w:World}{K:W.Frag}{tg:Expr}(it:Addr)(lo:Int)(n:Nat):Turn P w K tg (Itr lo n) [it] it (fun i h=>IsRangeIter h it (lo+(i:Nat)*1) ((n:Int)-(i:Nat)) 1) where
 mem:=by simp
 obj:=fun i h st b hb=>by
  have e:b=it:=by simpa using hb
  subst e
  exact⟨_,st,fun v z=>by
   have z':Data.fields _=Data.cell v:=z
   cases z'⟩
 keep:=fun i h h' st k=>k it (by simp) _ st
 item:=by
  intro X hP hw hK hc i pins s σ H E I hf st hg
  subst hP hw hK
  obtain⟨f0,f1,f2,f3,f4,f5⟩:=hf it (by simp)
  have W:=Walks.range (prog:=X.prog) (w:=X.w) (I.ok.hd hc) it lo 1 n
  refine W.item i s _ _ hg st fun v h' tk hv st' kk=>?_
  obtain⟨t,rfl⟩:=hv
  have I1:Inv X pins σ H { s with heap:=h',toks:=tk }:=I.turned (fun b o hb e=>kk b o (by simpa using hb) e) f0 f1 f3 f4 f5
  refine⟨_,rfl,go_of (s:={ s with heap:=h',toks:=tk }) (n := "range_iterator") st' rfl rfl (by decide) ⟨.int (lo+i),H,I1,⟨t,?_⟩,⟨rfl,rfl⟩,st',fun b hb=>(hf b hb).1⟩⟩
  rw[Int.mul_one]
 done:=by
  intro X hP hw hK hc i pins s σ H E I hf st hg
  subst hP hw hK
  obtain⟨f0,f1,f2,f3,f4,f5⟩:=hf it (by simp)
  exact wpAny_pyNext_range_end (I.ok.hd hc) st (by have:n≤i:=hg;omega) fun h' eb=>⟨rfl,I.turned (t':=s.toks) (fun b o hb e=>eb b o hb e) f0 f1 f3 f4 f5⟩
 self:=fun _ _ _ _ _ st h=>wpAny_pyIter_rangeiter st h
end L2
namespace L2
open PySem PySem.Spec PyProof.Rows
section
variable{X:Cx}{tg:Expr}
theorem range_it{pins:List (Addr×Obj)}{σ:St}{H:Hp}{s:Shared}{R:It→Hp→Prop}{E:Value→Shared→Prop}{lo hi:Int}{t u v:Tok}{tk:Nat}(I:Inv X pins σ H s)(h1:-(2 ^ 62)≤lo)(h2:lo<2 ^ 62)(h3:-(2 ^ 62)≤hi)(h4:hi<2 ^ 62)
  (q:R (Itr lo (hi-lo).toNat) H):wpAny (model X.prog X.w) X.A (pyIter (.ref s.heap.objs.size)) (PIE X pins σ tg R) E { s with heap:=s.heap.push { cls:=.type "range",data:=.fields #[.int lo t,.int hi u,.int 1 v] },toks:=tk }:=by
 refine wpAny_pyIter_range (IsRange.new ..) (small_one h1 h2 h3 h4) ?_
 have I1:Inv X pins σ H { s with heap:=s.heap.push { cls:=.type "range",data:=.fields #[.int lo t,.int hi u,.int 1 v] },toks:=tk }:=I.kept fun b o e=>Heap.get?_push_of_some _ e
 refine⟨(s.heap.push { cls:=.type "range",data:=.fields #[.int lo t,.int hi u,.int 1 v] }).objs.size,[(s.heap.push { cls:=.type "range",data:=.fields #[.int lo t,.int hi u,.int 1 v] }).objs.size],_,_,H,rfl,
  I1.kept (t':=tk) fun b o e=>Heap.get?_push_of_some _ e,turn_range _ lo (hi-lo).toNat,?_,fun b hb=>?_,q⟩
 ·have e1:lo+((0:Nat):Int)*1=lo:=by simp
  have e2:(((hi-lo).toNat:Nat):Int)-((0:Nat):Int)=Builtin.Range.rangeSize lo hi 1:=by rw[rangeSize_one];split<;>omega
  show IsRangeIter _ _ (lo+((0:Nat):Int)*1) ((((hi-lo).toNat:Nat):Int)-((0:Nat):Int)) 1
  rw[e1,e2]
  exact Heap.get?_push_size _ rfl
 ·have e:b=(s.heap.push { cls:=.type "range",data:=.fields #[.int lo t,.int hi u,.int 1 v] }).objs.size:=by simpa using hb
  subst e
  exact I1.fpOk (Nat.le_refl _) (I1.hok.fresh (Nat.le_refl _))
noncomputable def iRng1(ta:TA):TI:=fun σ H R=>ta σ H fun vs H1=>∃ j:Int,vs=[.int j]∧-(2 ^ 62)≤j∧j<2 ^ 62∧R (Itr 0 j.toNat) H1
noncomputable def iRng2(ta:TA):TI:=fun σ H R=>ta σ H fun vs H1=>∃ i j:Int,vs=[.int i,.int j]∧(-(2 ^ 62)≤i∧i<2 ^ 62∧-(2 ^ 62)≤j∧j<2 ^ 62)∧R (Itr i (j-i).toNat) H1
theorem pi_range1{a:Expr}{ta:TA}{p pos:Pos}(hg:Gl X "range")(hm:X.mg "range" = none)(ha:PA X [a] ta)(hs:starEach [a] X.env=[(false,eval a X.env)]:=by rfl):PI X tg (.Call (.Name "range" p) [a] [] pos) (iRng1 ta):=by
 intro pins s σ H R I h
 refine Call_ (ld_blt I hg hm boot_range (PyProof.Rows.callWith_type1 (thn (ha pos pins s σ H _ I h) fun us s1 ⟨vs,H1,I1,r1,q1⟩=>?_) hs rfl))
 obtain⟨j,e,q1,q2,q⟩:=q1
 subst e
 cases r1 with
 | cons r rr =>
  cases rr
  obtain⟨t,rfl⟩:=r
  exact call_range_1 (range_it I1 (by omega) (by omega) q1 q2 (by simpa using q))
theorem pi_range2{a b:Expr}{ta:TA}{p pos:Pos}(hg:Gl X "range")(hm:X.mg "range" = none)(ha:PA X [a,b] ta)(hs:starEach [a,b] X.env=[(false,eval a X.env),(false,eval b X.env)]:=by rfl)(hs2:starEach [b] X.env=[(false,eval b X.env)]:=by rfl) :
  PI X tg (.Call (.Name "range" p) [a,b] [] pos) (iRng2 ta):=by
 intro pins s σ H R I h
 refine Call_ (ld_blt I hg hm boot_range (PyProof.Rows.callWith_type1 (thn (ha pos pins s σ H _ I h) fun us s1 ⟨vs,H1,I1,r1,q1⟩=>?_) (by rw[hs,hs2]) (by rw[hs2];rfl)))
 obtain⟨i,j,e,⟨q1,q2,q3,q4⟩,q⟩:=q1
 subst e
 cases r1 with
 | cons r rr =>
  cases rr with
  | cons r' rr =>
   cases rr
   obtain⟨t,rfl⟩:=r
   obtain⟨t',rfl⟩:=r'
   exact call_range_2 (range_it I1 q1 q2 q3 q4 q)
noncomputable def tFor(wi:TI)(g:TG)(tb:TS):TS:=fun D σ H=>wi σ H fun J H1=>∃ W:Nat→Nat→St→Hp→Prop,(∃ m,W 0 m σ H1)∧∀ i m σ H,W i m σ H →
 (J.stop i H∧D.nx σ H)∨(J.go i H∧∃ N:St→Hp→Prop,(∀ σ' H',N σ' H'→∃ m',m' < m∧W (i+1) m' σ' H')∧∀ x H',J.yld i H x H'→g x σ H' fun σ2 H2=>tb { D with nx:=N,ct:=N,bk:=D.nx } σ2 H2)
noncomputable def pinsAt(fp:List Addr)(h:Heap):List (Addr×Obj):=fp.filterMap fun b=>(h.get? b).map fun o=>(b,o)
theorem mem_pinsAt{fp:List Addr}{h:Heap}{b:Addr}{o:Obj}(hb:b∈fp)(e:h.get? b=some o):(b,o)∈pinsAt fp h:=List.mem_filterMap.mpr ⟨b,hb,by rw[e];rfl⟩
theorem of_pinsAt{fp:List Addr}{h:Heap}{p:Addr×Obj}(hp:p∈pinsAt fp h):p.1∈fp∧h.get? p.1=some p.2:=by
 obtain⟨b,hb,e⟩:=List.mem_filterMap.mp hp
 cases q:h.get? b with
 | none=>rw[q] at e;cases e
 | some o =>
  rw[q] at e
  have e':(b,o)=p:=Option.some.inj e
  subst e'
  exact⟨hb,q⟩
theorem Inv.pinned{pins:List (Addr×Obj)}{σ:St}{H:Hp}{s:Shared}{fp:List Addr}(I:Inv X pins σ H s)(hf:∀ b∈fp,FpOk X pins H b)(ho:∀ b∈fp,∃ o,s.heap.get? b=some o∧∀ v,o.data≠.cell v):Inv X (pins++pinsAt fp s.heap) σ H s :=
 I.pins_of fun p hp=>(List.mem_append.mp hp).elim (fun z=>I.pin p (List.mem_append_right _ z)) fun z=>by
  obtain⟨hb,e⟩:=of_pinsAt z
  obtain⟨f0,f1,f2,_⟩:=hf p.1 hb
  obtain⟨o,e',d⟩:=ho p.1 hb
  rw[e] at e';cases e'
  exact⟨e,f0,f1,f2,d⟩
theorem Inv.unpinned{pins pl:List (Addr×Obj)}{σ:St}{H:Hp}{s:Shared}(I:Inv X (pins++pl) σ H s):Inv X pins σ H s:=I.pins_of fun p hp=>I.pin p (List.mem_append_right _ (List.mem_append_left _ hp))
theorem ps_for{iter:Expr}{body:List Stmt}{wi:TI}{g:TG}{tb:TS}{pos:Pos}(hp:PassesOwn (model X.prog X.w) X.A X.env X.xe)(hc:X.calm=true)(hi:PI X tg iter wi)(hg:PG X tg g)(hb:PSs X body tb)
  (hs:∀ x,foldedSetIterable iter X.env x=pure x:=by intro _;rfl):PS X (.For tg iter body [] pos) (tFor wi g tb):=by
 intro pins s σ H D I h
 refine wpAny_For (thn (hi pins s σ H _ I h) fun v s1 h1=>thn h1 fun itv s2 h2=>?_) hs
 obtain⟨it,fp,tn,J,H2,e,I2,T,st2,f2,W,⟨m0,w0⟩,turn⟩:=h2
 subst e
 have stat:∀ {H':Hp},(∀ b∈fp,H' b=none)→∀ b∈fp,FpOk X pins H' b:=fun hn b hb=>⟨hn b hb,(f2 b hb).2⟩
 refine codeAny_forLoop_any (fun n s'=>∃ i σ' H',Inv X pins σ' H' s'∧tn i s'.heap∧(∀ b∈fp,H' b=none)∧W i n σ' H') ?_ m0 ⟨0,σ,H2,I2,st2,fun b hb=>(f2 b hb).1,w0⟩
 rintro n s3 ⟨i,σ3,H3,I3,st3,fr3,w3⟩
 rcases turn i n σ3 H3 w3 with⟨stop,qn⟩|⟨go,N,hN,step⟩
 ·refine wpAny_passesOwn hp (thn (T.done X rfl rfl rfl hc i pins s3 σ3 H3 X.xe I3 (stat fr3) st3 stop) fun r s4 ⟨hr,I4⟩=>?_)
  subst hr
  exact wpAny_execs_nil ⟨σ3,H3,I4,qn⟩
 ·refine wpAny_passesOwn hp (thn (T.item X rfl rfl rfl hc i pins s3 σ3 H3 X.xe I3 (stat fr3) st3 go) fun r s4 ⟨u,hr,h4⟩=>?_)
  subst hr
  refine wpAny_passesOwn hp (thn h4 fun _ s5 ⟨x,H5,I5,r5,y5,st5,fr5⟩=>?_)
  have I5':=I5.pinned (stat fr5) (T.obj _ _ st5)
  refine wpAny_passesOwn hp (thn (hg _ s5 σ3 H5 x u _ I5' r5 (step x H5 y5)) fun _ s6 ⟨σ6,H6,I6,q6⟩=>?_)
  refine wpAny_passesOwn hp (thn (hb _ s6 σ6 H6 _ I6 q6) fun f s7 q7=>?_)
  have again:∀ {σ7:St} {H7:Hp},Inv X (pins++pinsAt fp s5.heap) σ7 H7 s7→N σ7 H7→∃ m,m<n∧∃ i σ' H',Inv X pins σ' H' s7∧tn i s7.heap∧(∀ b∈fp,H' b=none)∧W i m σ' H':=fun {σ7 H7} I7 n7=>by
   obtain⟨m',hm,w7⟩:=hN σ7 H7 n7
   refine⟨m',hm,i+1,σ7,H7,I7.unpinned,T.keep _ _ _ st5 fun b hb o e=>(I7.pin (b,o) (List.mem_append_right _ (List.mem_append_right _ (mem_pinsAt hb e)))).1,fun b hb=>?_,w7⟩
   obtain⟨o,e,d⟩:=T.obj _ _ st5 b hb
   exact (I7.pin (b,o) (List.mem_append_right _ (List.mem_append_right _ (mem_pinsAt hb e)))).2.1
  cases f with
  | next=>obtain⟨σ7,H7,I7,n7⟩:=q7;exact again I7 n7
  | cont=>obtain⟨σ7,H7,I7,n7⟩:=q7;exact again I7 n7
  | brk=>obtain⟨σ7,H7,I7,q7⟩:=q7;exact⟨σ7,H7,I7.unpinned,q7⟩
  | ret v=>obtain⟨x7,σ7,H7,I7,r7,q7⟩:=q7;exact⟨x7,σ7,H7,I7.unpinned,r7,q7⟩
end
end L2
namespace L2
open PySem PySem.Spec PyProof.Rows
noncomputable abbrev R2:=V→V→Hp→VK→Prop
noncomputable def OpR(X:Cx)(f:Value→Value→Sem Value)(r:R2):Prop :=
 ∀ (pins:List (Addr×Obj)) (s:Shared) (σ:St) (H:Hp) (x y:V) (v u:Value) (Q:VK),Inv X pins σ H s→RelV x v→RelV y u→r x y H Q →
  wpAny (model X.prog X.w) X.A (f v u) (EP X pins σ Q) X.xe s
noncomputable def UnR(X:Cx)(f:Value→Sem Value)(r:V→Hp→VK→Prop):Prop :=
 ∀ (pins:List (Addr×Obj)) (s:Shared) (σ:St) (H:Hp) (x:V) (v:Value) (Q:VK),Inv X pins σ H s→RelV x v→r x H Q →
  wpAny (model X.prog X.w) X.A (f v) (EP X pins σ Q) X.xe s
noncomputable def CallR(X:Cx)(f:Value)(r:List V→Hp→VK→Prop):Prop :=
 ∀ (pins:List (Addr×Obj)) (s:Shared) (σ:St) (H:Hp) (xs:List V) (us:List Value) (Q:VK),Inv X pins σ H s→Vals xs us→r xs H Q →
  wpAny (model X.prog X.w) X.A (call f us) (EP X pins σ Q) X.xe s
noncomputable def tOp(r:R2)(ta tb:TE):TE:=fun σ H Q=>ta σ H fun x H1=>tb σ H1 fun y H2=>r x y H2 Q
noncomputable def tUn(r:V→Hp→VK→Prop)(ta:TE):TE:=fun σ H Q=>ta σ H fun x H1=>r x H1 Q
noncomputable def rI(C:Int→Int→Prop)(g:Int→Int→V):R2:=fun x y H Q=>∃ i j,x=.int i∧y=.int j∧C i j∧Q (g i j) H
noncomputable def rI0(g:Int→Int→V):R2:=fun x y H Q=>∃ i j,x=.int i∧y=.int j∧Q (g i j) H
noncomputable def rU(g:Int→V):V→Hp→VK→Prop:=fun x H Q=>∃ i,x=.int i∧Q (g i) H
section
variable{X:Cx}{a b c:Expr}{ta tb tc:TE}{pos:Pos}
theorem binT(ha:PE X a ta)(hb:PE X b tb){pins:List (Addr×Obj)}{s:Shared}{σ:St}{H:Hp}{R:V→V→Hp→Prop}(I:Inv X pins σ H s)
  (h:ta σ H fun x H1=>tb σ H1 fun y H2=>R x y H2) {Q:Value→Shared→Prop} {f:Value→Value→Sem Value}
  (hf:∀ v u s2 x y H2,Inv X pins σ H2 s2→RelV x v→RelV y u→R x y H2→wpAny (model X.prog X.w) X.A (f v u) Q X.xe s2) :
  wpAny (model X.prog X.w) X.A (eval a X.env) (fun v s₁=>wpAny (model X.prog X.w) X.A (eval b X.env) (fun u s₂=>wpAny (model X.prog X.w) X.A (f v u) Q X.xe s₂) X.xe s₁) X.xe s:=by
 refine thn (ha pins s σ H _ I h) fun v s1 ⟨x,H1,I1,r1,q1⟩=>?_
 refine thn (hb pins s1 σ H1 _ I1 q1) fun u s2 ⟨y,H2,I2,r2,q2⟩=>?_
 exact hf v u s2 x y H2 I2 r1 r2 q2
theorem pe_op{op:Operator}{r:R2}(ho:OpR X (binaryOp op) r)(ha:PE X a ta)(hb:PE X b tb):PE X (.BinOp a op b pos) (tOp r ta tb):=by
 intro pins s σ H Q I h
 exact wpAny_BinOp (binT ha hb I h fun v u s2 x y H2 I2 rx ry q=>ho pins s2 σ H2 x y v u Q I2 rx ry q)
theorem pe_un{op:UnaryOp}{r:V→Hp→VK→Prop}(ho:UnR X (unaryOp op) r)(ha:PE X a ta):PE X (.UnaryOp op a pos) (tUn r ta):=by
 intro pins s σ H Q I h
 exact UnaryOp_ (thn (ha pins s σ H _ I h) fun v s1 ⟨x,H1,I1,r1,q1⟩=>ho pins s1 σ H1 x v Q I1 r1 q1)
theorem opI{f:Value→Value→Sem Value}{C:Int→Int→Prop}{g:Int→Int→Int}
  (rule:∀ (i j:Int) (t u:Tok) (s:Shared) (Q:Value→Shared→Prop) (E:Value→Shared→Prop),C i j→Q (.int (g i j) s.toks) { s with toks:=s.toks+1 }→wpAny (model X.prog X.w) X.A (f (.int i t) (.int j u)) Q E s) :
  OpR X f (rI C fun i j=>.int (g i j)):=by
 intro pins s σ H x y v u Q I rx ry h
 obtain⟨i,j,rfl,rfl,hc,q⟩:=h
 obtain⟨t,rfl⟩:=rx
 obtain⟨t',rfl⟩:=ry
 exact rule i j t t' s _ _ hc ⟨.int (g i j),H,I.tok _,⟨_,rfl⟩,q⟩
theorem opI0{f:Value→Value→Sem Value}{g:Int→Int→Int}
  (rule:∀ (i j:Int) (t u:Tok) (s:Shared) (Q:Value→Shared→Prop) (E:Value→Shared→Prop),Q (.int (g i j) s.toks) { s with toks:=s.toks+1 }→wpAny (model X.prog X.w) X.A (f (.int i t) (.int j u)) Q E s) :
  OpR X f (rI0 fun i j=>.int (g i j)):=by
 intro pins s σ H x y v u Q I rx ry h
 obtain⟨i,j,rfl,rfl,q⟩:=h
 obtain⟨t,rfl⟩:=rx
 obtain⟨t',rfl⟩:=ry
 exact rule i j t t' s _ _ ⟨.int (g i j),H,I.tok _,⟨_,rfl⟩,q⟩
theorem opB0{f:Value→Value→Sem Value}{g:Int→Int→Bool}
  (rule:∀ (i j:Int) (t u:Tok) (s:Shared) (Q:Value→Shared→Prop) (E:Value→Shared→Prop),Q (.bool (g i j)) s→wpAny (model X.prog X.w) X.A (f (.int i t) (.int j u)) Q E s) :
  OpR X f (rI0 fun i j=>.bl (g i j)):=by
 intro pins s σ H x y v u Q I rx ry h
 obtain⟨i,j,rfl,rfl,q⟩:=h
 obtain⟨t,rfl⟩:=rx
 obtain⟨t',rfl⟩:=ry
 exact rule i j t t' s _ _ ⟨.bl (g i j),H,I,rfl,q⟩
noncomputable def CDiv(i j:Int):Prop:=0<j∧j<1073741824
noncomputable def CPow(i j:Int):Prop:=0≤j∧j≤1000000∧i.natAbs<2 ^ 64
noncomputable def CMul(i j:Int):Prop:=(-(2 ^ 64)<i∧i<2 ^ 64)∨(-(2 ^ 64)<j∧j<2 ^ 64)
theorem CMul.ok{i j:Int}(h:CMul i j):IntMulOk i j:=by
 rcases h with⟨h1,h2⟩|⟨h1,h2⟩
 ·exact .of_left (intBits_le_64 h1 h2)
 ·exact .of_right (intBits_le_64 h1 h2)
theorem op_add:OpR X (binaryOp .Add) (rI0 fun i j=>.int (i+j)):=opI0 fun _ _ _ _ _ _ _ q=>add_int q
theorem op_sub:OpR X (binaryOp .Sub) (rI0 fun i j=>.int (i-j)):=opI0 fun _ _ _ _ _ _ _ q=>sub_int q
theorem op_mul:OpR X (binaryOp .Mult) (rI CMul fun i j=>.int (i*j)):=opI fun _ _ _ _ _ _ _ hc q=>mul_int q hc.ok
theorem op_fdiv:OpR X (binaryOp .FloorDiv) (rI CDiv fun i j=>.int (i / j)):=opI fun i j _ _ _ _ _ hc q=>by
 have h1:(0:Int)<j:=hc.1
 have h2:j<1073741824:=hc.2
 exact floordiv_int (by omega) (by rw[Int.fdiv_eq_ediv_of_nonneg i (by omega)];exact q) (.inl (PyProof.noPylong_small (by omega)))
theorem op_mod:OpR X (binaryOp .Mod) (rI (fun _ j=>0<j) fun i j=>.int (i%j)):=opI fun i j _ _ _ _ _ hc q=>by
 have h1:(0:Int)<j:=hc
 exact mod_int' (by omega) (by rw[Int.fmod_eq_emod_of_nonneg i (by omega)];exact q)
theorem op_pow:OpR X (binaryOp .Pow) (rI CPow fun i j=>.int (i ^ j.toNat)):=opI fun _ _ _ _ _ _ _ hc q=>pow_int_small hc.1 hc.2.1 hc.2.2 q
theorem unI{f:Value→Sem Value}{g:Int→Int}
  (rule:∀ (i:Int) (t:Tok) (s:Shared) (Q:Value→Shared→Prop) (E:Value→Shared→Prop),Q (.int (g i) s.toks) { s with toks:=s.toks+1 }→wpAny (model X.prog X.w) X.A (f (.int i t)) Q E s) :
  UnR X f (rU fun i=>.int (g i)):=by
 intro pins s σ H x v Q I rx h
 obtain⟨i,rfl,q⟩:=h
 obtain⟨t,rfl⟩:=rx
 exact rule i t s _ _ ⟨.int (g i),H,I.tok _,⟨_,rfl⟩,q⟩
theorem un_neg:UnR X (unaryOp .USub) (rU fun i=>.int (-i)):=unI fun _ _ _ _ _ q=>neg_int q
end
noncomputable def scal:V→V→Bool
 | .non,.non=>true|.non,.int _=>true|.int _,.non=>true|.non,.bl _=>true|.bl _,.non=>true|.non,.str _=>true|.str _,.non=>true
 | .int _,.int _=>true|.bl _,.bl _=>true|.str _,.str _=>true|.byt _,.byt _=>true
 | .int _,.str _=>true|.str _,.int _=>true|.bl _,.str _=>true|.str _,.bl _=>true
 | _,_=>false
noncomputable def rEq:R2:=fun x y H Q=>scal x y=true∧Q (.bl (decide (x=y))) H
noncomputable def rNe:R2:=fun x y H Q=>scal x y=true∧Q (.bl (!decide (x=y))) H
theorem dec_int{i j:Int}:decide (V.int i=V.int j)=(i == j):=by
 rw[Bool.eq_iff_iff]
 simp
theorem dec_bl{i j:Bool}:decide (V.bl i=V.bl j)=(i == j):=by
 rw[Bool.eq_iff_iff]
 simp
theorem dec_str{i j:Str}:decide (V.str i=V.str j)=(i == j):=by
 rw[Bool.eq_iff_iff]
 simp
theorem dec_byt{i j:Array UInt8}:decide (V.byt i=V.byt j)=(i.toList == j.toList):=by
 rw[Bool.eq_iff_iff]
 cases i
 cases j
 simp
section
variable{X:Cx}{a b c:Expr}{ta tb tc:TE}{pos:Pos}
theorem fin_bl{pins:List (Addr×Obj)}{σ:St}{H:Hp}{s:Shared}{Q:VK}{k k':Bool}(I:Inv X pins σ H s)(q:Q (.bl k) H)(e:k=k'):EP X pins σ Q (.bool k') s:=by
 subst e
 exact⟨.bl k,H,I,rfl,q⟩
theorem op_eq:OpR X (compareOp .Eq) rEq:=by
 intro pins s σ H x y v u Q I rx ry h
 obtain⟨hs,q⟩:=h
 cases x with
 | non =>
  cases rx
  cases y with
  | non=>cases ry;exact PySem.EqNone.eq_none_none (fin_bl I q (by simp))
  | bl j=>cases ry;exact PySem.EqNone.eq_none_bool (fin_bl I q (by simp))
  | int j=>obtain⟨t',rfl⟩:=ry;exact PySem.EqNone.eq_none_int (fin_bl I q (by simp))
  | str j=>obtain⟨t',rfl⟩:=ry;exact PySem.EqNone.eq_none_str (fin_bl I q (by simp))
  | _=>exact absurd (show false=true from hs) Bool.false_ne_true
 | bl i =>
  cases rx
  cases y with
  | non=>cases ry;exact PySem.EqNone.eq_bool_none (fin_bl I q (by simp))
  | bl j=>cases ry;exact eq_bool (fin_bl I q dec_bl)
  | str j=>obtain⟨t',rfl⟩:=ry;exact PySem.EqMixed.eq_bool_str (fin_bl I q (by simp))
  | _=>exact absurd (show false=true from hs) Bool.false_ne_true
 | int i =>
  obtain⟨t,rfl⟩:=rx
  cases y with
  | non=>cases ry;exact PySem.EqNone.eq_int_none (fin_bl I q (by simp))
  | int j=>obtain⟨t',rfl⟩:=ry;exact eq_int (fin_bl I q dec_int)
  | str j=>obtain⟨t',rfl⟩:=ry;exact PySem.EqMixed.eq_int_str (fin_bl I q (by simp))
  | _=>exact absurd (show false=true from hs) Bool.false_ne_true
 | str i =>
  obtain⟨t,rfl⟩:=rx
  cases y with
  | non=>cases ry;exact PySem.EqNone.eq_str_none (fin_bl I q (by simp))
  | bl j=>cases ry;exact PySem.EqMixed.eq_str_bool (fin_bl I q (by simp))
  | int j=>obtain⟨t',rfl⟩:=ry;exact PySem.EqMixed.eq_str_int (fin_bl I q (by simp))
  | str j=>obtain⟨t',rfl⟩:=ry;exact eq_str (fin_bl I q dec_str)
  | _=>exact absurd (show false=true from hs) Bool.false_ne_true
 | byt i =>
  obtain⟨t,rfl⟩:=rx
  cases y with
  | byt j=>obtain⟨t',rfl⟩:=ry;exact PySem.W.eq_bytes (fin_bl I q dec_byt)
  | _=>exact absurd (show false=true from hs) Bool.false_ne_true
 | _=>cases y<;>exact absurd (show false=true from hs) Bool.false_ne_true
theorem op_ne:OpR X (compareOp .NotEq) rNe:=by
 intro pins s σ H x y v u Q I rx ry h
 obtain⟨hs,q⟩:=h
 cases x with
 | non =>
  cases rx
  cases y with
  | non=>cases ry;exact PySem.EqNone.ne_none_none (fin_bl I q (by simp))
  | bl j=>cases ry;exact PySem.EqNone.ne_none_bool (fin_bl I q (by simp))
  | int j=>obtain⟨t',rfl⟩:=ry;exact PySem.EqNone.ne_none_int (fin_bl I q (by simp))
  | str j=>obtain⟨t',rfl⟩:=ry;exact PySem.EqNone.ne_none_str (fin_bl I q (by simp))
  | _=>exact absurd (show false=true from hs) Bool.false_ne_true
 | bl i =>
  cases rx
  cases y with
  | non=>cases ry;exact PySem.EqNone.ne_bool_none (fin_bl I q (by simp))
  | bl j=>cases ry;exact ne_bool (fin_bl I q (congrArg not dec_bl))
  | str j=>obtain⟨t',rfl⟩:=ry;exact PySem.EqMixed.ne_bool_str (fin_bl I q (by simp))
  | _=>exact absurd (show false=true from hs) Bool.false_ne_true
 | int i =>
  obtain⟨t,rfl⟩:=rx
  cases y with
  | non=>cases ry;exact PySem.EqNone.ne_int_none (fin_bl I q (by simp))
  | int j=>obtain⟨t',rfl⟩:=ry;exact ne_int (fin_bl I q (congrArg not dec_int))
  | str j=>obtain⟨t',rfl⟩:=ry;exact PySem.EqMixed.ne_int_str (fin_bl I q (by simp))
  | _=>exact absurd (show false=true from hs) Bool.false_ne_true
 | str i =>
  obtain⟨t,rfl⟩:=rx
  cases y with
  | non=>cases ry;exact PySem.EqNone.ne_str_none (fin_bl I q (by simp))
  | bl j=>cases ry;exact PySem.EqMixed.ne_str_bool (fin_bl I q (by simp))
  | int j=>obtain⟨t',rfl⟩:=ry;exact PySem.EqMixed.ne_str_int (fin_bl I q (by simp))
  | str j=>obtain⟨t',rfl⟩:=ry;exact ne_str (fin_bl I q (congrArg not dec_str))
  | _=>exact absurd (show false=true from hs) Bool.false_ne_true
 | byt i =>
  obtain⟨t,rfl⟩:=rx
  cases y with
  | byt j=>obtain⟨t',rfl⟩:=ry;exact PySem.W.ne_bytes (fin_bl I q (congrArg not dec_byt))
  | _=>exact absurd (show false=true from hs) Bool.false_ne_true
 | _=>cases y<;>exact absurd (show false=true from hs) Bool.false_ne_true
theorem op_lt:OpR X (compareOp .Lt) (rI0 fun i j=>.bl (decide (i<j))):=opB0 fun _ _ _ _ _ _ _ q=>lt_int q
theorem op_le:OpR X (compareOp .LtE) (rI0 fun i j=>.bl (decide (i≤j))):=opB0 fun _ _ _ _ _ _ _ q=>le_int q
theorem op_gt:OpR X (compareOp .Gt) (rI0 fun i j=>.bl (decide (j<i))):=opB0 fun _ _ _ _ _ _ _ q=>gt_int q
theorem op_ge:OpR X (compareOp .GtE) (rI0 fun i j=>.bl (decide (j≤i))):=opB0 fun _ _ _ _ _ _ _ q=>ge_int q
theorem op_in_str:OpR X (compareOp .In) (fun x y H Q=>∃ i j,x=.str i∧y=.str j∧Q (.bl (!(Builtin.Str.occurrences j i 0 j.length 1).isEmpty)) H):=by
 intro pins s σ H x y v u Q I rx ry h
 obtain⟨i,j,rfl,rfl,q⟩:=h
 obtain⟨t,rfl⟩:=rx
 obtain⟨t',rfl⟩:=ry
 exact in_str (fin_bl I q rfl)
theorem op_notN:OpR X (compareOp .IsNot) (fun x y H Q=>y=.non∧Q (.bl (!decide (x=.non))) H):=by
 intro pins s σ H x y v u Q I rx ry h
 obtain⟨rfl,q⟩:=h
 cases ry
 refine isnot_none_gen (fin_bl I q ?_)
 cases x<;>first
  | (cases rx;rfl)
  | (obtain⟨t,rfl⟩:=rx;rfl)
theorem OpR.or{f:Value→Value→Sem Value}{r r':R2}(h:OpR X f r)(h':OpR X f r'):OpR X f (fun x y H Q=>r x y H Q∨r' x y H Q):=by
 intro pins s σ H x y v u Q I rx ry q
 rcases q with q|q
 ·exact h pins s σ H x y v u Q I rx ry q
 ·exact h' pins s σ H x y v u Q I rx ry q
theorem nomark(b:Expr){op:CmpOp}(h:op≠.In:=by decide)(h2:op≠.NotIn:=by decide):behindInMarks op b=false:=by
 have e1:(op == CmpOp.In)=false:=by cases op<;>first|rfl|exact absurd rfl h
 have e2:(op == CmpOp.NotIn)=false:=by cases op<;>first|rfl|exact absurd rfl h2
 cases b<;>simp[behindInMarks,e1,e2]
theorem pe_cmpR{op:CmpOp}{r:R2}(ho:OpR X (compareOp op) r)(ha:PE X a ta)(hb:PE X b tb)(hm:behindInMarks op b=false):PE X (.Compare a [op] [b] pos) (tOp r ta tb):=by
 intro pins s σ H Q I h
 exact wpAny_Compare1 (binT ha hb I h fun v u s2 x y H2 I2 rx ry q=>ho pins s2 σ H2 x y v u Q I2 rx ry q) hm
noncomputable def tTest(t:TE):TT:=fun σ H Q=>t σ H fun x H'=>∃ k,x=.bl k∧Q k H'
theorem pt_cmpR{op:CmpOp}{r:R2}(ho:OpR X (compareOp op) r)(ha:PE X a ta)(hb:PE X b tb)(hm:behindInMarks op b=false):PT X (.Compare a [op] [b] pos) (tTest (tOp r ta tb)):=by
 intro pins s σ H Q I h
 refine wpAny_isTrue_Compare1 (thn (ha pins s σ H _ I h) fun v s1 ⟨x,H1,I1,r1,q1⟩=>thn (hb pins s1 σ H1 _ I1 q1) fun u s2 ⟨y,H2,I2,r2,q2⟩ =>
  thn (ho pins s2 σ H2 x y v u _ I2 r1 r2 q2) fun c s3 ⟨z,H3,I3,r3,k,e,q3⟩=>?_) hm
 subst e
 cases r3
 exact wpAny_truthy_bool ⟨H3,I3,q3⟩
noncomputable def tChain(r r':R2)(ta tb tc:TE):TE:=fun σ H Q=>ta σ H fun x H1=>tb σ H1 fun y H2=>r x y H2 fun z H3=>∃ k,z=.bl k ∧
 (if k=true then tc σ H3 fun w' H4=>r' y w' H4 Q else Q (.bl false) H3)
theorem pt_chain{op op':CmpOp}{r r':R2}(ho:OpR X (compareOp op) r)(ho':OpR X (compareOp op') r')(ha:PE X a ta)(hb:PE X b tb)(hc:PE X c tc)
  (hm:lastMarks [op,op'] [b,c]=false:=by with_unfolding_all rfl):PT X (.Compare a [op,op'] [b,c] pos) (tTest (tChain r r' ta tb tc)):=by
 intro pins s σ H Q I h
 refine isTrue_chain (thn (ha pins s σ H _ I h) fun v s1 ⟨x,H1,I1,r1,q1⟩=>test_link (thn (hb pins s1 σ H1 _ I1 q1) fun u s2 ⟨y,H2,I2,r2,q2⟩ =>
  thn (ho pins s2 σ H2 x y v u _ I2 r1 r2 q2) fun d s3 ⟨z,H3,I3,r3,k,e,q3⟩=>?_)) hm
 subst e
 cases r3
 refine wpAny_truthy_bool ?_
 cases k with
 | false =>
  obtain⟨k',e',q'⟩:=q3
  cases e'
  exact ite_ff ⟨H3,I3,q'⟩
 | true =>
  refine ite_tt (test_last (thn (hc pins s3 σ H3 _ I3 q3) fun w' s4 ⟨z',H4,I4,r4,q4⟩=>thn (ho' pins s4 σ H4 y z' u w' _ I4 r2 r4 q4) fun d' s5 ⟨z2,H5,I5,r5,k2,e2,q5⟩=>?_))
  subst e2
  cases r5
  exact wpAny_truthy_bool ⟨H5,I5,q5⟩
theorem line63:(sizeLine:Nat)<2 ^ 63:=by rw[sizeLine_eq];decide
theorem op_add_str:OpR X (binaryOp .Add) (fun x y H Q=>∃ i j,x=.str i∧y=.str j∧i.length+j.length≤sizeLine∧Q (.str (i++j)) H):=by
 intro pins s σ H x y v u Q I rx ry h
 obtain⟨i,j,rfl,rfl,hz,q⟩:=h
 obtain⟨t,rfl⟩:=rx
 obtain⟨t',rfl⟩:=ry
 exact add_str (fun t' tk=>⟨.str (i++j),H,I.tok _,⟨_,rfl⟩,q⟩) hz
theorem vals1{x:V}{us:List Value}(r:Vals [x] us):∃ u,us=[u]∧RelV x u:=by
 cases r with
 | cons r1 r2=>cases r2;exact⟨_,rfl,r1⟩
theorem vals2{x y:V}{us:List Value}(r:Vals [x,y] us):∃ u w',us=[u,w']∧RelV x u∧RelV y w':=by
 cases r with
 | cons r1 r2 =>
  cases r2 with
  | cons r3 r4=>cases r4;exact⟨_,_,rfl,r1,r3⟩
end
end L2
namespace L2
open PySem PySem.Spec PyProof.Rows
structure ObjM(h:Heap)(x dx C:Addr)(mA:Str→Option Value):Prop where
 obj:h.get? x=some (PySem.W.instObj C dx)
 ns:h.Ns1 dx mA
 ne:dx≠x
theorem lookIn_ns{h:Heap}{dx:Addr}{mA:Str→Option Value}(n:h.Ns1 dx mA):∃ od,h.get? dx=some od∧∀ name,PySem.W.lookIn name od=some (mA name):=by
 obtain⟨o,es,ep,ho,hd,hk,_,hm⟩:=n
 refine⟨o,ho,fun name=>?_⟩
 have e:=hm name
 unfold nsFind findBy at e
 rw[← Array.find?_toList] at e
 unfold PySem.W.lookIn
 rw[hd]
 dsimp only
 split
 ·rename_i y q
  rw[q] at e
  exact congrArg some e
 ·rename_i q
  rw[q] at e
  have a:es.toList.any (·.refKey)=false:=by
   rw[List.any_eq_false]
   intro y hy
   obtain⟨z,t,hkey⟩:=hk y (Array.mem_toList_iff.mp hy)
   simp[DictEntry.refKey,hkey]
  have a':¬ es.toList.any (·.refKey)=true:=by rw[a];exact Bool.false_ne_true
  rw[if_neg a']
  exact congrArg some e
theorem ObjM.look{h:Heap}{x dx C:Addr}{mA:Str→Option Value}(I:ObjM h x dx C mA):∃ od,PySem.W.InstAt h x (PySem.W.instObj C dx) C (some od)∧∀ name,PySem.W.lookIn name od=some (mA name) :=
 let ⟨od,ho,hl⟩:=lookIn_ns I.ns
 ⟨od,⟨I.obj,rfl,rfl,ho⟩,hl⟩
section
variable{prog:Program}{w:World}{A:Around}{E:Value→Shared→Prop}{s:Shared}{K:W.Frag}{x dx C f:Addr}{mA:Str→Option Value}{name:Str}{v:Value}
end
noncomputable def putF(f:Str)(v:V):List (Str×V)→List (Str×V)
 | []=>[(f,v)]
 | (g,x)::r=>if g=f then (g,v)::r else (g,x)::putF f v r
theorem lookup_putF(f g:Str)(v:V):∀ fs:List (Str×V),(putF f v fs).lookup g=if g=f then some v else fs.lookup g
 | []=>by
  show List.lookup g [(f,v)]=_
  by_cases h:g=f
  ·have hb:(g == f)=true:=beq_iff_eq.mpr h
   simp only[List.lookup,hb,if_pos h]
  ·have hb:(g == f)=false:=beq_eq_false_iff_ne.mpr h
   simp only[List.lookup,hb,if_neg h]
 | (k,x)::r=>by
  have ih:=lookup_putF f g v r
  rw[show putF f v ((k,x)::r)=(if k=f then (k,v)::r else (k,x)::putF f v r) from rfl]
  by_cases hk:k=f
  ·rw[if_pos hk]
   by_cases h:g=k
   ·have hb:(g == k)=true:=beq_iff_eq.mpr h
    simp only[List.lookup,hb,if_pos (h.trans hk)]
   ·have hb:(g == k)=false:=beq_eq_false_iff_ne.mpr h
    simp only[List.lookup,hb,if_neg (fun e:g=f=>h (e.trans hk.symm))]
  ·rw[if_neg hk]
   by_cases h:g=k
   ·have hb:(g == k)=true:=beq_iff_eq.mpr h
    simp only[List.lookup,hb,if_neg (fun e:g=f=>hk (h.symm.trans e))]
   ·have hb:(g == k)=false:=beq_eq_false_iff_ne.mpr h
    simp only[List.lookup,hb]
    exact ih
theorem keys_putF(f:Str)(v:V):∀ fs:List (Str×V),f∈(putF f v fs).map (·.1)∧∀ g,g∈fs.map (·.1)→g∈(putF f v fs).map (·.1)
 | []=>⟨by simp[putF],fun g h=>by simp at h⟩
 | (k,x)::r=>by
  obtain⟨i1,i2⟩:=keys_putF f v r
  rw[show putF f v ((k,x)::r)=(if k=f then (k,v)::r else (k,x)::putF f v r) from rfl]
  by_cases hk:k=f
  ·rw[if_pos hk]
   subst hk
   exact⟨by simp,fun g h=>by simpa using h⟩
  ·rw[if_neg hk]
   refine⟨?_,fun g h=>?_⟩
   ·rw[List.map_cons]
    exact List.mem_cons_of_mem _ i1
   ·rw[List.map_cons] at h ⊢
    rcases List.mem_cons.mp h with e|e
    ·exact List.mem_cons.mpr (.inl e)
    ·exact List.mem_cons_of_mem _ (i2 g e)
theorem RelO.some_of{v:V}{o:Option Value}(r:RelO (some v) o):∃ u,o=some u∧RelV v u:=by
 cases o with
 | none=>exact (show False from r).elim
 | some u=>exact⟨u,rfl,r⟩
theorem RelO.none_of{o:Option Value}(r:RelO none o):o=none:=by
 cases o with
 | none=>rfl
 | some u=>exact (show False from r).elim
theorem handed_of{v:V}{u:Value}(r:RelV v u):PySem.W.handedIn u=true:=by
 cases v with
 | non=>cases (show u=Value.none from r);rfl
 | bl b=>cases (show u=Value.bool b from r);rfl
 | int i=>obtain⟨t,e⟩:=(show ∃ t,u=Value.int i t from r);cases e;rfl
 | str x=>obtain⟨t,e⟩:=(show ∃ t,u=Value.str x t from r);cases e;rfl
 | byt b=>obtain⟨t,e⟩:=(show ∃ t,u=Value.bytes b t from r);cases e;rfl
 | flt b=>obtain⟨t,e⟩:=(show ∃ t,u=Value.float b t from r);cases e;rfl
 | ref a=>cases (show u=Value.ref a from r);rfl
 | ty n=>cases (show u=Value.type n from r);rfl
section
variable{P:Program}{w:World}{H H':Hp}{h h':Heap}{a C dx:Addr}{fs fs':List (Str×V)}
theorem ins_get(hok:HOk P w H h)(e:H a=some (.ins C dx fs)):∃ mA,ObjM h a dx C mA∧(∀ f,RelO (fs.lookup f) (mA f))∧PySem.Within mA (fs.map (·.1))∧fs.length≤1000∧H dx=some (.own a):=by
 obtain⟨d,z,ne,ob,mA,n,r,q⟩:=(show ObjOk P w H h a (.ins C dx fs) from hok a _ e)
 exact⟨mA,⟨ob,n,ne⟩,r,q,z,d⟩
end
structure Cls(K:W.Frag)(C:Addr):Prop where
 pg:PySem.W.plainGet K C Str.empty=true
 hd:PySem.W.hasDictIn K C=true
 po:PySem.W.plainOver K C=true
 sa:PySem.W.findIn K (.ref C) "__setattr__" = some (some (.builtin "object.__setattr__"))
theorem Cls.get{K:W.Frag}{C:Addr}(c:Cls K C)(f:Str):PySem.W.plainGet K C f=true:=c.pg
section
variable{X:Cx}{pins:List (Addr×Obj)}{σ:St}{H:Hp}{s:Shared}{a C dx:Addr}{fs:List (Str×V)}{f:Str}{v:V}{A:Around}{E:Value→Shared→Prop}
theorem attr_of{prog:Program}{w:World}{env:Env}{e:Expr}{f:Str}{pos:Pos}{s:Shared}{Q:Value→Shared→Prop}(hb:attributeBase e f env (eval e env)=eval e env)
  (h:wpAny (model prog w) A (eval e env) (fun o s₁=>wpAny (model prog w) A (getAttr o f true) Q E s₁) E s):wpAny (model prog w) A (eval (.Attribute e f pos) env) Q E s :=
 Attribute_any_ h (by rw[arm_eval_Attribute,hb])
end
section
variable{X:Cx}{o e value:Expr}{f:Str}{pos pos' tpos:Pos}{ta tv:TE}
end
section
variable{X:Cx}{pins:List (Addr×Obj)}{σ:St}{H:Hp}{s:Shared}{A:Around}{E:Value→Shared→Prop}{Q:Value→Shared→Prop}{c:Value}{b:Bool}
inductive TyOf(K:W.Frag)(H:Hp):V→Value→Prop where
 | non:TyOf K H .non (.type "NoneType")
 | bl (x:Bool):TyOf K H (.bl x) (.type "bool")
 | int (i:Int):TyOf K H (.int i) (.type "int")
 | str (x:Str):TyOf K H (.str x) (.type "str")
 | flt (x:UInt64):TyOf K H (.flt x) (.type "float")
 | lst {a:Addr} {xs:List V} (e:H a=some (.lst xs)):TyOf K H (.ref a) (.type "list")
 | frz {a:Addr} {o:Obj} {xs:List V} (e:H a=some (.frz o (.lst xs))):TyOf K H (.ref a) (.type "list")
 | tup {a:Addr} {xs:List V} (e:H a=some (.tup xs)):TyOf K H (.ref a) (.type "tuple")
 | dK {a:Addr} {kvs:List (Key×V)} (e:H a=some (.dK kvs)):TyOf K H (.ref a) (.type "dict")
 | dT {a:Addr} {kvs:List (List Key×V)} (e:H a=some (.dT kvs)):TyOf K H (.ref a) (.type "dict")
 | ins {a C dx:Addr} {fs:List (Str×V)} (e:H a=some (.ins C dx fs)) (cl:Cls K C) (ha:PySem.W.findIn K (.ref C) "__class__" = some (some (.builtin "object.__class__")))
   (hn:PySem.W.specialIn K (.builtin "object.__class__") "__get__" = some (some (.builtin "getset_descriptor.__get__"))) (htk:PySem.W.takesIn K (.builtin "object.__class__")=some true)
   (hm:PySem.W.mroIn K C (.type "object")=some true):TyOf K H (.ref a) (.ref C)
theorem isinst_ok{x:V}{u t:Value}(I:Inv X pins σ H s)(rx:RelV x u)(ty:TyOf X.K H x t)(e:PySem.W.kitOne X.K t c=some b)(h:∀ tk,Q (.bool b) { s with toks:=tk }) :
  wpAny (model X.prog X.w) A (call (.builtin "isinstance") [u,c]) Q E s:=by
 cases ty with
 | non=>cases (show u=Value.none from rx);exact PySem.W.kia_one PySem.W.kitx_none I.kIn True.intro e (fun z=>nomatch z) h
 | bl y=>cases (show u=Value.bool y from rx);exact PySem.W.kia_one PySem.W.kitx_bool I.kIn True.intro e (fun z=>nomatch z) h
 | int i=>obtain⟨t,q⟩:=(show ∃ t,u=Value.int i t from rx);cases q;exact PySem.W.kia_one PySem.W.kitx_int I.kIn True.intro e (fun z=>nomatch z) h
 | str y=>obtain⟨t,q⟩:=(show ∃ t,u=Value.str y t from rx);cases q;exact PySem.W.kia_one PySem.W.kitx_str I.kIn True.intro e (fun z=>nomatch z) h
 | flt y=>obtain⟨t,q⟩:=(show ∃ t,u=Value.float y t from rx);cases q;exact PySem.W.kia_one PySem.W.kitx_float I.kIn True.intro e (fun z=>nomatch z) h
 | @lst a xs ea =>
  cases (show u=Value.ref a from rx)
  obtain⟨_,_,n,_,h1⟩:=(show ObjOk X.prog X.w H s.heap a (.lst xs) from I.hok a _ ea)
  exact PySem.W.kia_one PySem.W.kitx_list I.kIn ⟨_,h1,rfl⟩ e (fun z=>nomatch z) h
 | @frz a ob xs ea =>
  cases (show u=Value.ref a from rx)
  obtain⟨_,_,_,n,_,h1⟩:=(show ObjOk X.prog X.w H s.heap a (.frz ob (.lst xs)) from I.hok a _ ea)
  exact PySem.W.kia_one PySem.W.kitx_list I.kIn ⟨_,h1,rfl⟩ e (fun z=>nomatch z) h
 | @tup a xs ea =>
  cases (show u=Value.ref a from rx)
  obtain⟨_,_,_,p⟩:=(show ObjOk X.prog X.w H s.heap a (.tup xs) from I.hok a _ ea)
  obtain⟨o,h1,h2,_⟩:=p
  exact PySem.W.kia_one PySem.W.kitx_tuple I.kIn ⟨o,h1,h2⟩ e (fun z=>nomatch z) h
 | @dK a kvs ea =>
  cases (show u=Value.ref a from rx)
  obtain⟨_,_,vs,_,p⟩:=(show ObjOk X.prog X.w H s.heap a (.dK kvs) from I.hok a _ ea)
  obtain⟨o,es,ep,h1,h2,_⟩:=p
  exact PySem.W.kia_one PySem.W.kitx_dict I.kIn ⟨o,h1,h2.1⟩ e (fun z=>nomatch z) h
 | @dT a kvs ea =>
  cases (show u=Value.ref a from rx)
  obtain⟨_,_,xs,_,o,es,ep,h1,h2,_⟩:=(show ObjOk X.prog X.w H s.heap a (.dT kvs) from I.hok a _ ea)
  exact PySem.W.kia_one PySem.W.kitx_dict I.kIn ⟨o,h1,h2.1⟩ e (fun z=>nomatch z) h
 | @ins a C dx fs ea cl ha hn htk hm =>
  cases (show u=Value.ref a from rx)
  obtain⟨mA,O,_⟩:=ins_get I.hok ea
  obtain⟨od,J,_⟩:=O.look
  exact PySem.W.kia_one (PySem.W.kitx_own (cl.get _) cl.hd ha hn htk hm) I.kIn J e (fun z=>nomatch z) h
end
end L2
namespace L2
open PySem PySem.Spec PyProof.Rows
structure Room(k:Nat)(A:Around):Prop where
 hd:A.handled=none
 dp:A.depth+3*k+5<recursionLimit
 un:A.units+16*k+200<cLine
theorem Room.mono{j k:Nat}{A:Around}(r:Room k A)(h:j≤k):Room j A:=⟨r.hd,by have:=r.dp;omega,by have:=r.un;omega⟩
theorem Room.deeper{k:Nat}{A:Around}(r:Room (k+1) A)(env:Env):Room k (A.deeper env) :=
 ⟨r.hd,by have:=r.dp;show A.depth+1+3*k+5<_;omega,by have:=r.un;show A.units+3+16*k+200<_;omega⟩
theorem make_depth{A:Around}{C:Addr}{us:List Value}{kw:List (Str×Value)}:(A.under (.builtin "type.__call__" ⟨.ref C::us,kw⟩)).depth=A.depth+1:=by
 first|rfl|simp[Around.under,Code.weight,Code.isCreation,Code.isGuard,Code.isCaller,Code.frames,Code.isFrame,guardIds]
theorem make_units{A:Around}{C:Addr}{us:List Value}{kw:List (Str×Value)}:(A.under (.builtin "type.__call__" ⟨.ref C::us,kw⟩)).units=A.units+1:=by
 first|rfl|simp[Around.under,Code.cUnits,Code.frames,Code.isFrame]
theorem Room.make{k:Nat}{A:Around}(r:Room (k+1) A)(C:Addr)(us:List Value)(kw:List (Str×Value)):Room k (A.under (.builtin "type.__call__" ⟨.ref C::us,kw⟩)) :=
 ⟨r.hd,by have:=r.dp;rw[make_depth];omega,by have:=r.un;rw[make_units];omega⟩
theorem Room.depth{k:Nat}{A:Around}(r:Room k A):A.depth<recursionLimit:=by have:=r.dp;omega
theorem Room.units{k:Nat}{A:Around}(r:Room k A):A.units+64<cLine:=by have:=r.un;omega
noncomputable def tNil:TA:=fun _ H Q=>Q [] H
noncomputable def tCons(ta:TE)(tr:TA):TA:=fun σ H Q=>ta σ H fun x H1=>tr σ H1 fun xs H2=>Q (x::xs) H2
section
variable{X:Cx}{e:Expr}{es:List Expr}{te:TE}{t:TA}{pos:Pos}
theorem pa_nil:PA X [] tNil:=fun _ _ _ _ H Q I h=>Calls.spliced_nil ⟨[],H,I,.nil,h⟩
theorem pa_cons(ha:PE X e te)(hr:PA X es t)(hs:starEach (e::es) X.env=(false,eval e X.env)::starEach es X.env:=by rfl):PA X (e::es) (tCons te t):=by
 intro pos pins s σ H Q I h
 rw[hs]
 show wpAny _ _ (spliced ((false,eval e X.env)::backTo pos (starEach es X.env))) _ _ s
 refine Calls.spliced_cons (thn (ha pins s σ H _ I h) fun u s1 ⟨x,H1,I1,r1,q1⟩=>?_)
 exact thn (hr pos pins s1 σ H1 _ I1 q1) fun us s2 ⟨xs,H2,I2,r2,q2⟩=>⟨x::xs,H2,I2,.cons r1 r2,q2⟩
noncomputable def tTup(t:TA):TE:=fun σ H Q=>t σ H fun xs H1=>xs.length≤sizeLine∧∀ p,H1 p=none→Q (.ref p) (upd H1 p (.tup xs))
noncomputable def tLst(t:TA):TE:=fun σ H Q=>t σ H fun xs H1=>xs.length≤sizeLine∧∀ p,H1 p=none→Q (.ref p) (upd H1 p (.lst xs))
theorem pe_tup{x1}(h:PA X es t):PE X (.Tuple es x1 pos) (tTup t):=by
 intro pins s σ H Q I hq
 refine wpAny_Tuple_spliced (thn (h pos pins s σ H _ I hq) fun us s1 ⟨xs,H1,I1,r,z,q⟩=>⟨by rw[← r.length];exact z,?_⟩)
 have hf:H1 s1.heap.objs.size=none:=I1.hok.fresh (Nat.le_refl _)
 refine⟨.ref s1.heap.objs.size,upd H1 s1.heap.objs.size (.tup xs),I1.laid (t':=s1.toks) (fun b u e=>Heap.get?_push_of_some _ e) (Nat.le_refl _) ?_,rfl,q _ hf⟩
 exact⟨z,us,r,⟨_,Heap.get?_push_size _ rfl,rfl,_,rfl⟩⟩
theorem pe_lst(h:PA X es t):PE X (.List es pos) (tLst t):=by
 intro pins s σ H Q I hq
 refine wpAny_List_spliced (thn (h pos pins s σ H _ I hq) fun us s1 ⟨xs,H1,I1,r,z,q⟩=>⟨by rw[← r.length];exact z,?_⟩)
 have hf:H1 s1.heap.objs.size=none:=I1.hok.fresh (Nat.le_refl _)
 refine⟨.ref s1.heap.objs.size,upd H1 s1.heap.objs.size (.lst xs),I1.laid (t':=s1.toks) (fun b u e=>Heap.get?_push_of_some _ e) (Nat.le_refl _) ?_,rfl,q _ hf⟩
 exact⟨z,us,0,r,Heap.get?_push_size _ rfl⟩
end
noncomputable abbrev Sp:=List V→Hp→VK→XK→Prop
noncomputable abbrev CXT:=List Env→Hp→Shared→XK→Value→Shared→Prop
structure Env0(P:Program)(w:World)(K:W.Frag)(mg:Str→Option Value)(base:Heap)(A:Around)(outer:List Env)(s:Shared)(H:Hp):Prop where
 frames:A.frames=some outer
 mod:Mod K mg base
 bs:∀ b o,base.get? b=some o→s.heap.get? b=some o∧H b=none
 bsz:base.objs.size≤s.heap.objs.size
 funs:s.heap.FunFrames base outer
 frf:∀ b∈frs outer,H b=none
 hok:HOk P w H s.heap
 bare:AllBare s.gens
noncomputable def CE(outer:List Env)(P:Program)(w:World)(H:Hp)(s:Shared)(Q:VK)(u:Value)(s':Shared):Prop :=
 ∃ v H',s'.os=s.os∧AllBare s'.gens∧Un (frs outer) [] H H' s.heap s'.heap∧HOk P w H' s'.heap∧RelV v u∧Q v H'
noncomputable def CR(CX:CXT)(outer:List Env)(P:Program)(w:World)(H:Hp)(s:Shared)(Q:VK)(E:XK)(r:Result)(s':Shared):Prop :=
 match r with
 | .ok (.ret u)=>CE outer P w H s Q u s'
 | .ok _=>False
 | .error e=>CX outer H s E e s'
structure FnOk(P:Program)(w:World)(K:W.Frag)(mg:Str→Option Value)(base:Heap)(CX:CXT)(k:Nat)(f:Addr)(fd:FuncData)(ps:List Str)(sp:Sp):Prop where
 len:∀ vs H Q E,sp vs H Q E→vs.length=ps.length
 run:∀ (A:Around) (outer:List Env) (s:Shared) (H:Hp) (args:Args) (us:List Value) (vs:List V) (Q:VK) (E:XK),Room k A→Env0 P w K mg base A outer s H→BindsTo s fd args (ps.zip us)→Vals vs us→sp vs H Q E →
  codeAny (model P w) A (.call (.ref f) args) (CR CX outer P w H s Q E) s
theorem FnOk.mono{P:Program}{w:World}{K:W.Frag}{mg:Str→Option Value}{base:Heap}{CX:CXT}{j k:Nat}{f:Addr}{fd:FuncData}{ps:List Str}{sp:Sp}(F:FnOk P w K mg base CX j f fd ps sp)(h:j≤k) :
  FnOk P w K mg base CX k f fd ps sp:=⟨F.len,fun A outer s H args us vs Q E hr=>F.run A outer s H args us vs Q E (hr.mono h)⟩
theorem Env0.make{P:Program}{w:World}{K:W.Frag}{mg:Str→Option Value}{base:Heap}{A:Around}{outer:List Env}{s:Shared}{H:Hp}(e:Env0 P w K mg base A outer s H)(C:Addr)(us:List Value)(kw:List (Str×Value)) :
  Env0 P w K mg base (A.under (.builtin "type.__call__" ⟨.ref C::us,kw⟩)) outer s H:=⟨by first|exact e.frames|(simpa [Around.under,Code.envs,Code.isFrame,pushEnvs] using e.frames),e.mod,e.bs,e.bsz,e.funs,e.frf,e.hok,e.bare⟩
section
variable{X:Cx}{pins:List (Addr×Obj)}{σ:St}{H:Hp}{s s':Shared}
theorem Inv.env0(I:Inv X pins σ H s):Env0 X.prog X.w X.K X.mg X.base X.A X.stack s H :=
 ⟨I.ok.frames,I.ok.mod,I.bs,Nat.le_trans I.ok.bsz I.sz,I.stack,I.stkFree,I.hok,I.bare⟩
theorem Inv.after{Q:VK}{u:Value}(I:Inv X pins σ H s)(h:CE X.stack X.prog X.w H s Q u s'):EP X pins σ Q u s':=by
 obtain⟨v,H',os,bare,un,hok,r,q⟩:=h
 obtain⟨hh,g,d,t,os'⟩:=s'
 obtain rfl:os'=s.os:=os
 exact⟨v,H',I.call (h':=hh) (g':=g) (d':=d) (t':=t) (ch:=[]) un hok bare (fun b z=>absurd z (by simp)),r,q⟩
end
noncomputable def tCall(sp:Sp)(dvs:List V)(E:XK)(t:TA):TE:=fun σ H Q=>t σ H fun vs H1=>sp (vs++dvs) H1 Q E
noncomputable def Binds(K:W.Frag)(fd:FuncData)(ps:List Str)(ds:List Value):Prop :=
 ∀ (s:Shared) (us:List Value),K.In s.heap→(us++ds).length=ps.length→BindsTo s fd ⟨us,[]⟩ (ps.zip (us++ds))
theorem Binds.all{K:W.Frag}{fd:FuncData}{ps:List Str}(h:∀ us:List Value,us.length=ps.length→bindArgs fd ⟨us,[]⟩=pure (ps.zip us)):Binds K fd ps []:=fun s us _ hl=>by
 rw[List.append_nil] at hl ⊢
 exact .of_eq (h us hl)
noncomputable def Passes(CX:CXT)(X:Cx)(E:XK):Prop:=∀ (pins:List (Addr×Obj)) (σ:St) (H:Hp) (s:Shared) (e:Value) (s':Shared),Inv X pins σ H s→CX X.stack H s E e s'→X.xe e s'
section
variable{X:Cx}{CX:CXT}{k:Nat}{f C:Addr}{fd:FuncData}{ps:List Str}{sp:Sp}{dvs:List V}{ds:List Value}{E:XK}{x m:Str}{p pos apos:Pos}{e o:Expr}{es:List Expr}{ta:TE}{t:TA}
theorem run_fn{pins:List (Addr×Obj)}{σ:St}{H:Hp}{s:Shared}{Q:VK}{us:List Value}{vs:List V}(F:FnOk X.prog X.w X.K X.mg X.base CX k f fd ps sp)(hr:Room k X.A)(hb:Binds X.K fd ps ds)(hd:Vals dvs ds)(hx:Passes CX X E)
  (I:Inv X pins σ H s) (r:Vals vs us) (h:sp (vs++dvs) H Q E):wpAny (model X.prog X.w) X.A (call (.ref f) us) (EP X pins σ Q) X.xe s:=by
 have r2:Vals (vs++dvs) (us++ds):=r.append hd
 have hl:(us++ds).length=ps.length:=by rw[← r2.length];exact F.len _ _ _ _ h
 refine wpAny_call (codeAny_mono (F.run X.A X.stack s H ⟨us,[]⟩ (us++ds) (vs++dvs) Q E hr I.env0 (hb s us I.kIn hl) r2 h) fun r s' hq=>?_)
 cases r with
 | error e=>exact hx pins σ H s e s' I hq
 | ok fl =>
  cases fl with
  | ret u=>exact I.after hq
  | next=>exact False.elim hq
  | brk=>exact False.elim hq
  | cont=>exact False.elim hq
theorem pe_call(F:FnOk X.prog X.w X.K X.mg X.base CX k f fd ps sp)(hr:Room k X.A)(hg:Gl X x)(hm:X.mg x=some (.ref f))(hk:PySem.W.keepIn X.K (.ref f)=true)(hb:Binds X.K fd ps ds)(hd:Vals dvs ds)(hx:Passes CX X E)
  (ha:PA X (e::es) t) (hdb:(x == ("__debug__" : Str))=false:=by decide) (he:starEach (e::es) X.env=(false,eval e X.env)::starEach es X.env:=by rfl) (hpl:(backTo pos (starEach es X.env)).any (·.1)=false:=by rfl) :
  PE X (.Call (.Name x p) (e::es) [] pos) (tCall sp dvs E t):=by
 intro pins s σ H Q I h
 refine wpAny_Call_Name_kw (ld_glob I hg hm ?_ hdb)
 refine PySem.W.callWith_K (h₀:=X.base) I.ok.mod.kin hk (thn (ha pos pins s σ H _ I h) fun us s1 ⟨vs,H1,I1,r,q⟩=>⟨I1.kIn,?_⟩) he hpl
 exact run_fn F hr hb hd hx I1 r q
end
section
variable{X:Cx}{CX:CXT}{k:Nat}{f C:Addr}{fd:FuncData}{ps ks:List Str}{sp:Sp}{E:XK}{x m:Str}{p pos apos kpos:Pos}{e o:Expr}{es:List Expr}{kws:List Keyword}{te ta:TE}{t tk:TA}{nm:Option Str}
variable{g:List Value→List Value→List Value}{gV:List V→List V→List V}
end
structure FnScope(N P:List Str)(sc:Scope):Prop where
 kind:sc.kind=.function
 co:sc.isCoroutine=false
 gen:sc.isGenerator=false
 nd:N.Nodup
 pre:N.take P.length=P
 par:∀ x∈P,sc.names.lookup x=some .local∨sc.names.lookup x=some .cell
 nofree:∀ y∈sc.names,y.2≠.free
theorem bindL_out{kindOf:Str→Option NameKind}{x:Str}:∀ {binds:List (Str×Value)} {m:Str→Option Value},(∀ v,(x,v)∉binds)→bindL kindOf binds m x=m x
 | [],_,_=>rfl
 | (n,v)::r,m,h=>by
  unfold bindL
  rw[bindL_out fun w hw=>h w (List.mem_cons_of_mem _ hw)]
  split
  ·have:x≠n:=by rintro rfl;exact h v List.mem_cons_self
   simp[this]
  ·rfl
theorem bindC_out{kindOf:Str→Option NameKind}{x:Str}:∀ {binds:List (Str×Value)} {m:Str→Option Value},(∀ v,(x,v)∉binds)→bindC kindOf binds m x=m x
 | [],_,_=>rfl
 | (n,v)::r,m,h=>by
  unfold bindC
  rw[bindC_out fun w hw=>h w (List.mem_cons_of_mem _ hw)]
  split
  ·rfl
  ·have:x≠n:=by rintro rfl;exact h v List.mem_cons_self
   simp[this]
theorem bindL_get{kindOf:Str→Option NameKind}{x:Str}{v:Value}:∀ {P:List Str} {vs:List Value} {i:Nat} {m:Str→Option Value},P.Nodup→P[i]?=some x→vs[i]?=some v→kindOf x=some .local →
  bindL kindOf (P.zip vs) m x=some v
 | [],_,_,_,_,h,_,_=>by simp at h
 | _::_,[],_,_,_,_,h,_=>by simp at h
 | p::P,w::vs,0,m,nd,h1,h2,hk=>by
  simp at h1 h2;subst h1;subst h2
  show bindL kindOf ((p,w)::P.zip vs) m p=_
  unfold bindL
  rw[bindL_out fun v hv=>(List.nodup_cons.mp nd).1 (List.of_mem_zip hv).1,if_pos hk]
  simp
 | p::P,w::vs,i+1,m,nd,h1,h2,hk=>by
  show bindL kindOf ((p,w)::P.zip vs) m x=_
  unfold bindL
  exact bindL_get (i:=i) (List.nodup_cons.mp nd).2 (by simpa using h1) (by simpa using h2) hk
theorem bindC_get{kindOf:Str→Option NameKind}{x:Str}{v:Value}:∀ {P:List Str} {vs:List Value} {i:Nat} {m:Str→Option Value},P.Nodup→P[i]?=some x→vs[i]?=some v→kindOf x≠some .local →
  bindC kindOf (P.zip vs) m x=some v
 | [],_,_,_,_,h,_,_=>by simp at h
 | _::_,[],_,_,_,_,h,_=>by simp at h
 | p::P,w::vs,0,m,nd,h1,h2,hk=>by
  simp at h1 h2;subst h1;subst h2
  show bindC kindOf ((p,w)::P.zip vs) m p=_
  unfold bindC
  rw[bindC_out fun v hv=>(List.nodup_cons.mp nd).1 (List.of_mem_zip hv).1,if_neg hk]
  simp
 | p::P,w::vs,i+1,m,nd,h1,h2,hk=>by
  show bindC kindOf ((p,w)::P.zip vs) m x=_
  unfold bindC
  exact bindC_get (i:=i) (List.nodup_cons.mp nd).2 (by simpa using h1) (by simpa using h2) hk
noncomputable def start(N:List Str)(vs:List V):St:=vs.map some++List.replicate (N.length-vs.length) none
noncomputable def cxOf(CX:CXT)(P:Program)(w:World)(K:W.Frag)(mg:Str→Option Value)(base:Heap)(N:List Str)(qual:Str)(scope:Scope)(f:Addr)(cd:Value)(A:Around)(outer:List Env)(s:Shared)(H:Hp)(E:XK):Cx where
 prog:=P
 w:=w
 K:=K
 mg:=mg
 base:=base
 A:=A.deeper (envOfC qual scope s.heap.objs.size f cd)
 N:=N
 s₀:=s
 H₀:=H
 env:=envOfC qual scope s.heap.objs.size f cd
 outer:=outer
 stack:=envOfC qual scope s.heap.objs.size f cd::outer
 ex:=[]
 calm:=true
 fn:=fun _=>true
 pn:=[]
 xe:=fun e s'=>wpAny (model P w) (A.deeper (envOfC qual scope s.heap.objs.size f cd)) (leaving (envOfC qual scope s.heap.objs.size f cd) e) (fun _ s''=>CX outer H s E e s'') (fun e' s''=>CX outer H s E e' s'') s'
theorem cell_has{sc:Scope}{n:Nat}{x:Str}(h:sc.names.lookup x=some .cell):∃ c,(cellsFrom n sc.names []).lookup x=some c:=by
 have q:=PySem.W.cellsFrom_some sc.names n [] (.inl h)
 exact Option.isSome_iff_exists.mp q
theorem inv_start{CX:CXT}{P:Program}{w:World}{K:W.Frag}{mg:Str→Option Value}{base:Heap}{N ps:List Str}{qual:Str}{scope:Scope}{f:Addr}{cd:Value}{A:Around}{outer:List Env}{s s1:Shared}{H:Hp}{E:XK}{us:List Value}{vs:List V}
  (S:FnScope N ps scope) (hd:A.handled=none) (e0:Env0 P w K mg base A outer s H) (hl:vs.length=ps.length) (r:Vals vs us)
  (x:InCallC s s.heap.objs.size (bindL (envOfC qual scope s.heap.objs.size f cd).kindOf (ps.zip us) fun _=>none) (cellsFrom (s.heap.objs.size+1) scope.names []) (bindC (envOfC qual scope s.heap.objs.size f cd).kindOf (ps.zip us) fun _=>none) s1) :
  Inv (cxOf CX P w K mg base N qual scope f cd A outer s H E) [] (start N vs) H s1:=by
 have hpl:ps.length≤N.length:=by have:=congrArg List.length S.pre;rw[List.length_take] at this;omega
 obtain⟨h1,tk,rfl,hk⟩:=x.done
 have noA:∀ b:Addr,b∉(cxOf CX P w K mg base N qual scope f cd A outer s H E).ex:=fun b z=>absurd (show b∈([]:List Addr) from z) (by simp)
 refine⟨⟨e0.mod,S.kind,rfl,rfl,Nat.le_refl _,fun y z c h1 h2=>?_,fun y hy=>?_,fun y c _ h=>?_,fun _=>hd,Around.frames_deeper e0.frames,.inr ⟨rfl,rfl⟩,fun b z=>absurd z (noA b),e0.bs,e0.bsz,fun b _ _=>noA b,fun b z=>absurd z (noA b),e0.funs,e0.frf⟩,
  rfl,e0.bare,Un.kept hk,⟨_,x.toInCall.ns,fun i y v h1 h2 h3=>?_⟩,fun y c h=>⟨_,x.cell y c h⟩,e0.hok.fresh (Nat.le_refl _),fun y c h=>?_,fun p hp=>absurd (show p∈([]:List (Addr×Obj)) from hp) (by simp),e0.hok.kept hk,?_⟩
 ·exact name_of_addr x.apart (PySem.mem_of_lookup h1) (PySem.mem_of_lookup h2)
 ·have hy:scope.names.lookup y=some .cell∨scope.names.lookup y=some .free:=hy
  rcases hy with hy|hy
  ·exact cell_has hy
  ·exact absurd rfl (S.nofree _ (PySem.mem_of_lookup hy))
 ·exact Nat.le_of_lt (x.above y c (PySem.mem_of_lookup h))
 ·have hi:i<vs.length:=by
   unfold start at h2
   by_cases hi:i<vs.length
   ·exact hi
   ·rw[List.getElem?_append_right (by simpa using hi)] at h2
    rw[List.getElem?_replicate] at h2
    split at h2<;>cases h2
  have ha:vs[i]?=some v:=by
   unfold start at h2
   rw[List.getElem?_append_left (by simpa using hi),List.getElem?_map] at h2
   cases e:vs[i]? with
   | none=>rw[e] at h2;cases h2
   | some a=>rw[e] at h2;cases h2;rfl
  obtain⟨u,hu,rv⟩:=r.get ha
  have hp:ps[i]?=some y:=by
   rw[← S.pre,List.getElem?_take_of_lt (by omega)];exact h1
  have ndP:ps.Nodup:=by rw[← S.pre];exact S.nd.sublist (List.take_sublist _ _)
  refine⟨u,rv,?_⟩
  rcases S.par y (List.mem_of_getElem? hp) with k|k
  ·exact .inl ⟨k,bindL_get ndP hp hu k⟩
  ·obtain⟨c,e⟩:=cell_has (n:=s.heap.objs.size+1) k
   refine .inr ⟨.inl k,c,e,?_⟩
   have q:=x.cell y c e
   rw[bindC_get ndP hp hu (by show scope.names.lookup y≠_;rw[k];decide)] at q
   exact q
 ·exact e0.hok.fresh (Nat.le_of_lt (x.above y c (PySem.mem_of_lookup h)))
 ·unfold start
  show _=N.length
  rw[List.length_append,List.length_map,List.length_replicate]
  omega
theorem fn_of{CX:CXT}{P:Program}{w:World}{K:W.Frag}{mg:Str→Option Value}{base:Heap}{k:Nat}{f:Addr}{name qual:Str}{params:Arguments}{body:List Stmt}{scope:Scope}{dV kV doc pm cdv ct oc:Value}{an od:Option Addr}
  {osl:Array (Option Value)} {N ps:List Str} {sp:Sp} (lk:K.lookup f=some ⟨oc,od,.func (PySem.W.fnOf name qual params body scope dV kV doc pm an cdv ct),osl⟩) (hcd:PySem.W.codeIn K cdv qual=true) (S:FnScope N ps scope)
  (len:∀ vs H Q E,sp vs H Q E→vs.length=ps.length)
  (hbody:∀ (A:Around) (outer:List Env) (s:Shared) (H:Hp) (vs:List V) (Q:VK) (E:XK),Room k (A.deeper (envOfC qual scope s.heap.objs.size f cdv))→sp vs H Q E →
   ∃ t,PSs (cxOf CX P w K mg base N qual scope f cdv A outer s H E) body t∧t { nx:=fun _ H'=>Q .non H',rt:=Q } (start N vs) H) :
  FnOk P w K mg base CX (k+1) f (PySem.W.fnOf name qual params body scope dV kV doc pm an cdv ct) ps sp:=by
 refine⟨len,fun A outer s H args us vs Q E hr e0 hb r hsp=>?_⟩
 have hl:=len _ _ _ _ hsp
 have KX:K.In s.heap:=e0.mod.kin.keeps fun b o e=>(e0.bs b o e).1
 have lim:s.heap.NoLimit:=e0.mod.nolimit.keeps fun b o e=>(e0.bs b o e).1
 have hkind:∀ y∈ps.zip us,scope.names.lookup y.1=some .local∨(scope.names.lookup y.1=some .cell∧((cellsFrom (s.heap.objs.size+1) scope.names []).lookup y.1).isSome=true):=fun⟨n,v⟩ hy=>by
  rcases S.par n (List.of_mem_zip hy).1 with q|q
  ·exact .inl q
  ·exact .inr ⟨q,PySem.W.cellsFrom_some _ _ _ (.inl q)⟩
 refine codeAny_call_function hr.depth (KX _ _ lk) rfl S.co S.gen rfl (PySem.W.codeRec_of KX hcd) (hb _ _ _ _ ?_)
 refine wpAny_newFunctionEnv_cells S.kind hkind fun env he s1 x=>?_
 subst he
 refine⟨lim.keeps x.toInCall.keep,codeAny_func ?_⟩
 obtain⟨t,ht,hq⟩:=hbody A outer s H vs Q E (hr.deeper _) hsp
 have I:Inv (cxOf CX P w K mg base N qual scope f cdv A outer s H E) [] (start N vs) H s1:=inv_start S hr.hd e0 hl r x
 refine wpAny_mono (ht [] s1 (start N vs) H _ I hq) (fun fl s' hs=>?_) fun e s' hs=>hs
 have fin:∀ {σ':St} {H':Hp} {v:V} {u:Value},Inv (cxOf CX P w K mg base N qual scope f cdv A outer s H E) [] σ' H' s'→RelV v u→Q v H'→CE outer P w H s Q u s' :=
  fun {σ' H' v u} J rv q=>⟨v,H',J.os,J.bare,J.base,J.hok,rv,q⟩
 cases fl with
 | ret u =>
  obtain⟨v,σ',H',J,rv,q⟩:=hs
  exact fin J rv q
 | next =>
  obtain⟨σ',H',J,q⟩:=hs
  exact fin (v:=V.non) (u:=Value.none) J rfl q
 | brk =>
  obtain⟨_,_,_,q⟩:=hs
  exact False.elim q
 | cont =>
  obtain⟨_,_,_,q⟩:=hs
  exact False.elim q
end L2
namespace L2
open PySem PySem.Spec PyProof.Rows
section
variable{X:Cx}{x:Str}{p pos:Pos}{e:Expr}{es:List Expr}{t:TA}{id T:String}{r:List V→Hp→VK→Prop}
noncomputable def tCB(r:List V→Hp→VK→Prop)(t:TA):TE:=fun σ H Q=>t σ H fun vs H1=>r vs H1 Q
theorem pe_callB(hc:CallR X (.builtin id) r)(hg:Gl X x)(hm:X.mg x=none)(hv:bootBuiltins x=some (.builtin id))(ha:PA X (e::es) t)(hn:x ≠ "__name__" := by decide)(hdb:(x == ("__debug__" : Str))=false:=by decide)
  (he:starEach (e::es) X.env=(false,eval e X.env)::starEach es X.env:=by rfl) (hpl:(backTo pos (starEach es X.env)).any (·.1)=false:=by rfl):PE X (.Call (.Name x p) (e::es) [] pos) (tCB r t):=by
 intro pins s σ H Q I h
 refine wpAny_Call_Name_kw (ld_blt I hg hm hv ?_ hn hdb)
 exact PyProof.Rows.callWith_builtin1 (thn (ha pos pins s σ H _ I h) fun us s1 ⟨vs,H1,I1,r1,q1⟩=>hc pins s1 σ H1 vs us Q I1 r1 q1) he hpl
theorem pe_callTy(hc:CallR X (.type T) r)(hg:Gl X x)(hm:X.mg x=none)(hv:bootBuiltins x=some (.type T))(ha:PA X (e::es) t)(hn:x ≠ "__name__" := by decide)(hdb:(x == ("__debug__" : Str))=false:=by decide)
  (he:starEach (e::es) X.env=(false,eval e X.env)::starEach es X.env:=by rfl) (hpl:(backTo pos (starEach es X.env)).any (·.1)=false:=by rfl):PE X (.Call (.Name x p) (e::es) [] pos) (tCB r t):=by
 intro pins s σ H Q I h
 refine wpAny_Call_Name_kw (ld_blt I hg hm hv ?_ hn hdb)
 exact PyProof.Rows.callWith_type1 (thn (ha pos pins s σ H _ I h) fun us s1 ⟨vs,H1,I1,r1,q1⟩=>hc pins s1 σ H1 vs us Q I1 r1 q1) he hpl
end
end L2
namespace HT
open PySem PyProof.Rows
section
open PySem.SeqAt
open PySem.AutoSeq1 (wpAny_loadPart')
open PySem.MeetsSeq PySem.MeetsSeq2 PySem.MeetsSeq3
end
section
variable{prog:Program}{w:World}{A:Around}{E:Value→Shared→Prop}{s:Shared}
theorem cat_tup{t b:Addr}{vs ws:List Value}{Q:Value→Shared→Prop}(ht:IsTup s.heap t vs.toArray)(hb:IsTup s.heap b ws.toArray)(hv:vs≠[])
  (h1:ws=[]→Q (.ref t) s) (h2:ws≠[]→Q (.ref s.heap.objs.size) { s with heap:=s.heap.push { cls:=.type "tuple",data:=.seq (vs++ws).toArray } })
  (hsz:vs.length+ws.length≤sizeLine):wpAny (model prog w) A (binaryOp .Add (.ref t) (.ref b)) Q E s:=by
 obtain⟨⟨cls,dd,data,sl⟩,ho,hc,n,hd⟩:=id ht
 obtain⟨⟨cls2,dd2,data2,sl2⟩,ho2,hc2,n2,hd2⟩:=id hb
 simp only at hc hd hc2 hd2
 subst hc hd hc2 hd2
 have e:vs.toArray++ws.toArray=(vs++ws).toArray:=by simp
 by_cases hw:ws=[]
 ·exact concat_meets ⟨_,ho,rfl⟩ ⟨_,ho2,rfl⟩ noFill_tuple_add seq_tuple_add PySem.F.slot_tuple_add PySem.F.entry_tuple_add (PySem.F.args_tuple_add_2 _ _)
   (tuple_addW1 t b vs.toArray ws.toArray n n2 dd dd2 sl sl2 (by simpa using hv) (by simp[hw])) ⟨ho,ho2,h1 hw⟩
 ·refine concat_meets ⟨_,ho,rfl⟩ ⟨_,ho2,rfl⟩ noFill_tuple_add seq_tuple_add PySem.F.slot_tuple_add PySem.F.entry_tuple_add (PySem.F.args_tuple_add_2 _ _)
   (tuple_addW2 t b vs.toArray ws.toArray n n2 dd dd2 sl sl2 (by simpa using hv) (by simpa using hw) (by rw[List.size_toArray,List.size_toArray];exact hsz)) ⟨ho,ho2,?_⟩
  rw[e]
  exact h2 hw
noncomputable def sIx(n d:Nat):Option Int→Nat
 | none=>d
 | some v=>if v<0 then (v+(n:Int)).toNat else min v.toNat n
theorem sIx_none(n d:Nat):sIx n d none=d:=rfl
theorem sIx_le(n d:Nat)(hd:d≤n)(o:Option Int):sIx n d o≤n:=by
 cases o with
 | none=>exact hd
 | some v =>
  show (if v<0 then (v+(n:Int)).toNat else min v.toNat n)≤n
  by_cases hv:v<0
  ·rw[if_pos hv];omega
  ·rw[if_neg hv];exact Nat.min_le_right _ _
theorem clip_eq(v:Int)(n d:Nat):(if v<0 then max (v+(n:Int)) 0 else min v (n:Int))=((sIx n d (some v):Nat):Int):=by
 show (if v<0 then max (v+(n:Int)) 0 else min v (n:Int))=(((if v<0 then (v+(n:Int)).toNat else min v.toNat n):Nat):Int)
 by_cases hv:v<0
 ·simp only[if_pos hv];omega
 ·simp only[if_neg hv];omega
theorem adjust_gen(lo hi:Option Int)(n:Nat):Builtin.Slice.sliceAdjust lo hi 1 (n:Int)=(((sIx n 0 lo:Nat):Int),((sIx n n hi:Nat):Int)):=by
 have h1:¬ ((1:Int)<0):=by omega
 unfold Builtin.Slice.sliceAdjust
 simp only[h1,if_false]
 refine Prod.ext ?_ ?_
 ·cases lo with
  | none=>rfl
  | some v=>exact clip_eq v n 0
 ·cases hi with
  | none=>rfl
  | some v=>exact clip_eq v n n
theorem places_gen(i j:Nat):Builtin.Slice.slicePlaces (i:Int) (j:Int) 1=j-i:=by
 unfold Builtin.Slice.slicePlaces
 have h1:(1:Int) > 0:=by omega
 simp only[h1,if_true,Int.ediv_one]
 split<;>omega
theorem slicePart_{v:Value}{o:Option Int}{Q:Option Int→Shared→Prop}(p:IsPart v o)(h:Q o s):wpAny (model prog w) A (Builtin.Slice.slicePartIndex v) Q E s:=by
 cases p with
 | none=>exact slicePart_none h
 | int i t=>exact slicePart_int h
theorem sliceApplied_gen{sl:Addr}{vl vu:Value}{lo hi:Option Int}{n:Nat}{Q:Int×Int×Nat→Shared→Prop}(hs:s.heap.IsSliceOf sl vl vu .none)(pl:IsPart vl lo)(pu:IsPart vu hi)
  (h:Q (((sIx n 0 lo:Nat):Int),1,sIx n n hi-sIx n 0 lo) s):wpAny (model prog w) A (Builtin.Slice.sliceApplied (.ref sl) (pure (n:Int))) Q E s:=by
 obtain⟨os,hos,hcs,hds⟩:=id hs
 unfold Builtin.Slice.sliceApplied Builtin.Slice.sliceFields
 refine wpAny_bind (wpAny_bind (wpAny_field hos hds (x:=vl) rfl (wpAny_bind (wpAny_field hos hds (x:=vu) rfl (wpAny_bind (wpAny_field hos hds (x:=.none) rfl (wpAny_pure ?_)))))))
 refine wpAny_bind (slicePart_none ?_)
 show wpAny _ _ (if ((1:Int) == 0)=true then _ else _) _ _ s
 rw[if_neg (by decide)]
 refine wpAny_bind (slicePart_ pl (wpAny_bind (slicePart_ pu (wpAny_bind (wpAny_pure ?_)))))
 show wpAny _ _ (match Builtin.Slice.sliceAdjust lo hi 1 (n:Int) with|(lo,hi)=>pure (lo,(1:Int),Builtin.Slice.slicePlaces lo hi 1)) _ _ s
 rw[adjust_gen lo hi n]
 show wpAny _ _ (pure (((sIx n 0 lo:Nat):Int),(1:Int),Builtin.Slice.slicePlaces ((sIx n 0 lo:Nat):Int) ((sIx n n hi:Nat):Int) 1)) _ _ s
 rw[places_gen]
 exact wpAny_pure h
theorem pick_gen(xs:Array Value)(i k:Nat):((List.range k).filterMap fun (m:Nat)=>xs[((i:Int)+(m:Int)*1).toNat]?).toArray=((xs.toList.drop i).take k).toArray:=by
 have e:(fun (m:Nat)=>xs[((i:Int)+(m:Int)*1).toNat]?)=fun m=>xs[i+m]?:=by
  funext m
  have:((i:Int)+(m:Int)*1).toNat=i+m:=by omega
  rw[this]
 rw[e]
 have:=pick_run xs i k
 rw[List.filterMap_map] at this
 have e2:((fun x=>xs[x]?) ∘ fun x=>i+x)=fun m=>xs[i+m]?:=rfl
 rw[e2] at this
 rw[this]
theorem getItem_tuple_cut{t sl:Addr}{items:Array Value}{vl vu:Value}{lo hi:Option Int}{Q:Value→Shared→Prop}(ht:IsTup s.heap t items)(hs:s.heap.IsSliceOf sl vl vu .none)(pl:IsPart vl lo)(pu:IsPart vu hi)
  (hw:¬ (sIx items.size 0 lo=0∧sIx items.size items.size hi=items.size))
  (h:Q (.ref s.heap.objs.size) { s with heap:=s.heap.push { cls:=.type "tuple",data:=.seq ((items.toList.drop (sIx items.size 0 lo)).take (sIx items.size items.size hi-sIx items.size 0 lo)).toArray } })
  (hsz:items.size≤sizeLine):wpAny (model prog w) A (getItem (.ref t) (.ref sl)) Q E s:=by
 have htake:sizeOk (.seq ((items.toList.drop (sIx items.size 0 lo)).take (sIx items.size items.size hi-sIx items.size 0 lo)).toArray):=by
  show ((items.toList.drop (sIx items.size 0 lo)).take (sIx items.size items.size hi-sIx items.size 0 lo)).toArray.size≤sizeLine
  rw[List.size_toArray,List.length_take,List.length_drop,Array.length_toList]
  omega
 have hj:sIx items.size items.size hi≤items.size:=sIx_le _ _ (Nat.le_refl _) hi
 obtain⟨os,hos,hcs,hds⟩:=id hs
 have hTs:s.TypeIs (.ref sl) "slice" := ⟨os,hos,hcs⟩
 unfold getItem
 try with_reducible refine wpAny_holding ?_
 first|refine wpAny_bind (wpAny_pure ?_)|skip
 refine wpAny_bind (wpAny_sequenceKey ht.typeIs (by decide) ?_)
 refine wpAny_bind (wpAny_callSpecial?_slot (name:=Str.ofString "__getitem__") ht.typeIs PyProof.Rows.slot_tuple_getitem
  (wpAny_call_entry PyProof.Rows.slot_tuple_getitem ht.typeIs entry_tuple_getitem ?_ (args_tuple_getitem _ _)))
 show wpAny _ _ (Builtin.Tuple.tupleItemsOf (.ref t) >>= _) _ _ s
 refine wpAny_bind (tupleItemsOf_ ht ?_)
 refine wpAny_bind (wpAny_typeOf hTs ?_)
 rw[if_pos (by decide)]
 refine wpAny_bind (sliceApplied_gen hs pl pu ?_)
 have hno:¬ ((((sIx items.size 0 lo:Nat):Int) == 0 && (1:Int) == 1 && (sIx items.size items.size hi-sIx items.size 0 lo) == items.size)=true):=by
  intro q
  rw[Bool.and_eq_true,Bool.and_eq_true] at q
  have q1:((sIx items.size 0 lo:Nat):Int)=0:=eq_of_beq q.1.1
  have q2:sIx items.size items.size hi-sIx items.size 0 lo=items.size:=eq_of_beq q.2
  exact hw ⟨by omega,by omega⟩
 show wpAny _ _ (if (((sIx items.size 0 lo:Nat):Int) == 0 && (1:Int) == 1 && (sIx items.size items.size hi-sIx items.size 0 lo) == items.size)=true then _ else _) _ _ s
 rw[if_neg hno,pick_gen]
 first
  | exact wpAny_bind (m:=Builtin.Tuple.tupleExact _) (wpAny_newObj_type (wpAny_pure ⟨_,rfl,wpAny_pure h⟩) htake)
  | exact wpAny_bind (m:=Builtin.Tuple.tupleExact _) (wpAny_newObj_type (wpAny_bind (wpAny_pure (wpAny_pure ⟨_,rfl,wpAny_pure h⟩))) htake)
  | exact wpAny_bind (wpAny_bind (m:=Builtin.Tuple.tupleExact _) (wpAny_newObj_type (wpAny_pure (wpAny_pure ⟨_,rfl,wpAny_pure h⟩)) htake))
  | exact wpAny_bind (wpAny_bind (m:=Builtin.Tuple.tupleExact _) (wpAny_newObj_type (wpAny_pure ⟨_,rfl,wpAny_pure h⟩) htake))
end
end HT
namespace L2
open PySem PySem.Spec PyProof.Rows
noncomputable abbrev TO:=St→Hp→(Option Int→Hp→Prop)→Prop
noncomputable def PO(X:Cx)(e:Option Expr)(t:TO):Prop :=
 ∀ (pins:List (Addr×Obj)) (s:Shared) (σ:St) (H:Hp) (Q:Option Int→Hp→Prop),Inv X pins σ H s→t σ H Q →
  wpAny (model X.prog X.w) X.A (evalPart e X.env) (fun u s'=>∃ o H',Inv X pins σ H' s'∧IsPart u o∧Q o H') X.xe s
noncomputable def tNoPart:TO:=fun _ H Q=>Q none H
noncomputable def tPart(t:TE):TO:=fun σ H Q=>t σ H fun x H1=>∃ i,x=.int i∧Q (some i) H1
section
variable{X:Cx}{e:Expr}{te:TE}{lo hi:Option Expr}{tl th:TO}{pos p2:Pos}
theorem po_none:PO X none tNoPart:=by
 intro pins s σ H Q I h
 rw[evalPart_none]
 exact wpAny_pure ⟨none,H,I,.none,h⟩
theorem po_some(h:PE X e te):PO X (some e) (tPart te):=by
 intro pins s σ H Q I hw
 rw[evalPart_some]
 refine thn (h pins s σ H _ I hw) fun u s1 ⟨x,H1,I1,r1,q1⟩=>?_
 obtain⟨i,rfl,q⟩:=q1
 obtain⟨t,rfl⟩:=r1
 exact⟨some i,H1,I1,.int i t,q⟩
noncomputable def SlR(X:Cx)(r:V→Option Int→Option Int→Hp→VK→Prop):Prop :=
 ∀ (pins:List (Addr×Obj)) (s:Shared) (σ:St) (H:Hp) (x:V) (v vl vu:Value) (lo hi:Option Int) (sl:Addr) (Q:VK),Inv X pins σ H s→RelV x v→s.heap.IsSliceOf sl vl vu .none→IsPart vl lo→IsPart vu hi→r x lo hi H Q →
  ∃ T id,typeLookup (.type T) "__getitem__" = pure (some (.builtin id))∧s.TypeIs v T∧wpAny (model X.prog X.w) X.A (getItem v (.ref sl)) (EP X pins σ Q) X.xe s
theorem SlR.or{r r':V→Option Int→Option Int→Hp→VK→Prop}(h:SlR X r)(h':SlR X r'):SlR X (fun x lo hi H Q=>r x lo hi H Q∨r' x lo hi H Q):=by
 intro pins s σ H x v vl vu lo hi sl Q I rx hs pl pu q
 rcases q with q|q
 ·exact h pins s σ H x v vl vu lo hi sl Q I rx hs pl pu q
 ·exact h' pins s σ H x v vl vu lo hi sl Q I rx hs pl pu q
noncomputable def tSl(r:V→Option Int→Option Int→Hp→VK→Prop)(te:TE)(tl th:TO):TE:=fun σ H Q=>te σ H fun x H1=>tl σ H1 fun l H2=>th σ H2 fun u H3=>r x l u H3 Q
theorem pe_slice{r:V→Option Int→Option Int→Hp→VK→Prop}(hr:SlR X r)(he:PE X e te)(hl:PO X lo tl)(hu:PO X hi th):PE X (.Subscript e (.Slice lo hi none p2) pos) (tSl r te tl th):=by
 intro pins s σ H Q I h
 refine Subscript_ (thn (he pins s σ H _ I h) fun v s1 ⟨x,H1,I1,r1,q1⟩=>?_)
 refine wpAny_Slice (thn (hl pins s1 σ H1 _ I1 q1) fun vl s2 ⟨l,H2,I2,pl,q2⟩=>thn (hu pins s2 σ H2 _ I2 q2) fun vu s3 ⟨u,H3,I3,pu,q3⟩=>?_)
 rw[evalPart_none]
 refine wpAny_pure ?_
 have I4:Inv X pins σ H3 { s3 with heap:=s3.heap.push { cls:=.type "slice",data:=.fields #[vl,vu,.none] } }:=I3.kept (t':=s3.toks) fun b ob q=>Heap.get?_push_of_some _ q
 obtain⟨T,id,hT,ht,hg⟩:=hr pins { s3 with heap:=s3.heap.push { cls:=.type "slice",data:=.fields #[vl,vu,.none] } } σ H3 x v vl vu l u s3.heap.objs.size Q I4 r1 (Heap.IsSliceOf.new ..) pl pu q3
 show wpAny (model X.prog X.w) X.A (subscriptTail e (.Slice lo hi none p2) v (.ref s3.heap.objs.size)) (EP X pins σ Q) X.xe { s3 with heap:=s3.heap.push { cls:=.type "slice",data:=.fields #[vl,vu,.none] } }
 exact tail_any (ops:=[.ref s3.heap.objs.size,v]) ht hT hg (by with_unfolding_all rfl)
noncomputable def cutV(xs:List V)(lo hi:Option Int):List V:=(xs.drop (HT.sIx xs.length 0 lo)).take (HT.sIx xs.length xs.length hi-HT.sIx xs.length 0 lo)
theorem cutV_length(xs:List V)(lo hi:Option Int):(cutV xs lo hi).length≤xs.length:=by
 unfold cutV
 rw[List.length_take,List.length_drop]
 omega
noncomputable def rSlT(K:W.Frag):V→Option Int→Option Int→Hp→VK→Prop:=fun x lo hi H Q=>∃ a xs,x=.ref a∧SqT K H a xs ∧
 ¬ (HT.sIx xs.length 0 lo=0∧HT.sIx xs.length xs.length hi=xs.length)∧∀ p,H p=none→Q (.ref p) (upd H p (.tup (cutV xs lo hi)))
theorem sl_tup:SlR X (rSlT X.K):=by
 intro pins s σ H x v vl vu lo hi sl Q I rx hs pl pu h
 obtain⟨a,xs,rfl,hx,hw,q⟩:=h
 cases rx
 obtain⟨its,r,ht,hz⟩:=I.tuple hx
 have hlen:its.toArray.size=xs.length:=by rw[List.size_toArray];exact r.length.symm
 refine⟨"tuple",_,PyProof.Rows.slot_tuple_getitem.lookup,ht.typeIs,?_⟩
 refine HT.getItem_tuple_cut ht hs pl pu (by rw[hlen];exact hw) ?_ (by rw[hlen];exact hz)
 rw[hlen]
 refine⟨.ref s.heap.objs.size,_,I.laid (t':=s.toks) (o:=.tup (cutV xs lo hi)) (fun b ob q=>Heap.get?_push_of_some _ q) (Nat.le_refl _) ?_,rfl,q _ (I.hok.fresh (Nat.le_refl _))⟩
 exact⟨Nat.le_trans (cutV_length xs lo hi) hz,_,(r.drop (HT.sIx xs.length 0 lo)).take (HT.sIx xs.length xs.length hi-HT.sIx xs.length 0 lo),IsTup.new _ _⟩
noncomputable def rCatT(K:W.Frag):R2:=fun x y H Q=>∃ a b xs ys,x=.ref a∧y=.ref b∧SqT K H a xs∧SqT K H b ys∧xs≠[]∧xs.length+ys.length≤sizeLine ∧
 (ys=[]→Q (.ref a) H)∧(ys≠[]→∀ p,H p=none→Q (.ref p) (upd H p (.tup (xs++ys))))
theorem Vals.nil_iff{xs:List V}{us:List Value}(r:Vals xs us):us=[]↔xs=[]:=by
 cases r with
 | nil=>simp
 | cons _ _=>simp
theorem op_catT:OpR X (binaryOp .Add) (rCatT X.K):=by
 intro pins s σ H x y v u Q I rx ry h
 obtain⟨a,b,xs,ys,rfl,rfl,ha,hb,hx,hz,q1,q2⟩:=h
 cases rx
 cases ry
 obtain⟨its,r1,p1,_⟩:=I.tuple ha
 obtain⟨its2,r2,p2,_⟩:=I.tuple hb
 refine HT.cat_tup p1 p2 (fun z=>hx (r1.nil_iff.mp z)) (fun z=>⟨.ref a,H,I,rfl,q1 (r2.nil_iff.mp z)⟩) (fun z=>?_) (by rw[← r1.length,← r2.length];exact hz)
 refine⟨.ref s.heap.objs.size,_,I.laid (t':=s.toks) (o:=.tup (xs++ys)) (fun b ob q=>Heap.get?_push_of_some _ q) (Nat.le_refl _) ?_,rfl,q2 (fun w=>z (r2.nil_iff.mpr w)) _ (I.hok.fresh (Nat.le_refl _))⟩
 exact⟨by rw[List.length_append];exact hz,_,r1.append r2,IsTup.new _ _⟩
end
end L2
namespace L2
open PySem PySem.Spec PyProof.Rows
noncomputable def ixN(n:Nat)(i:Int):Option Nat:=if 0≤i then (if i<n then some i.toNat else none) else if -(n:Int)≤i then some (i+n).toNat else none
noncomputable def atI{α:Type}(xs:List α)(i:Int):Option α:=(ixN xs.length i).bind fun j=>xs[j]?
theorem ixN_seq{n:Nat}{i:Int}{j:Nat}(h:ixN n i=some j):seqIndex? i n=some j∧j<n∧-(n:Int)≤i∧i<n:=by
 unfold ixN at h
 by_cases h0:0≤i
 ·rw[if_pos h0] at h
  by_cases h1:i<n
  ·rw[if_pos h1] at h
   have e:i.toNat=j:=Option.some.inj h
   exact⟨by rw[seqIndex_of h0 h1,e],by omega,by omega,h1⟩
  ·rw[if_neg h1] at h;cases h
 ·rw[if_neg h0] at h
  by_cases h1:-(n:Int)≤i
  ·rw[if_pos h1] at h
   have e:(i+n).toNat=j:=Option.some.inj h
   exact⟨by rw[seqIndex_neg (by omega) h1,e],by omega,h1,by omega⟩
  ·rw[if_neg h1] at h;cases h
theorem atI_get{α:Type}{xs:List α}{i:Int}{v:α}(h:atI xs i=some v):∃ j,seqIndex? i xs.length=some j∧xs[j]?=some v∧j<xs.length∧-(xs.length:Int)≤i∧i<xs.length:=by
 unfold atI at h
 cases e:ixN xs.length i with
 | none=>rw[e] at h;cases h
 | some j =>
  rw[e] at h
  obtain⟨h1,h2,h3,h4⟩:=ixN_seq e
  exact⟨j,h1,h,h2,h3,h4⟩
theorem atI_nat{α:Type}{xs:List α}{j:Nat}{v:α}(h:xs[j]?=some v):atI xs (j:Int)=some v:=by
 have hj:j<xs.length:=(List.getElem?_eq_some_iff.mp h).1
 have e:ixN xs.length (j:Int)=some j:=by
  unfold ixN
  rw[if_pos (by omega),if_pos (by omega)];simp
 unfold atI;rw[e];exact h
noncomputable def PlainIx(b:Expr):Prop:=∀ o i,subscripted b false o i=operate [o,i] (getItem o i)
noncomputable def IxR(X:Cx)(r:R2):Prop :=
 ∀ (value slice:Expr) (pins:List (Addr×Obj)) (s:Shared) (σ:St) (H:Hp) (x y:V) (v u:Value) (Q:VK),Inv X pins σ H s→RelV x v→RelV y u→r x y H Q →
  subscripted slice false v u=operate [v,u] (getItem v u)→wpAny (model X.prog X.w) X.A (subscriptTail value slice v u) (EP X pins σ Q) X.xe s
noncomputable def MtR(X:Cx)(id:String)(r:V→List V→Hp→VK→Prop):Prop :=
 ∀ (pins:List (Addr×Obj)) (s:Shared) (σ:St) (H:Hp) (x:V) (xs:List V) (v:Value) (us:List Value) (Q:VK),Inv X pins σ H s→RelV x v→Vals xs us→r x xs H Q →
  wpAny (model X.prog X.w) X.A (call (.builtin id) (v::us)) (EP X pins σ Q) X.xe s
section
variable{X:Cx}{a b:Expr}{ta tb:TE}{pos:Pos}
theorem IxR.or{r r':R2}(h:IxR X r)(h':IxR X r'):IxR X (fun x y H Q=>r x y H Q∨r' x y H Q):=by
 intro value slice pins s σ H x y v u Q I rx ry q hs
 rcases q with q|q
 ·exact h value slice pins s σ H x y v u Q I rx ry q hs
 ·exact h' value slice pins s σ H x y v u Q I rx ry q hs
theorem pe_ix{r:R2}(hr:IxR X r)(ha:PE X a ta)(hb:PE X b tb)(hs:PlainIx b):PE X (.Subscript a b pos) (tOp r ta tb):=by
 intro pins s σ H Q I h
 exact Subscript_ (binT ha hb I h fun v u s2 x y H2 I2 rx ry q=>hr a b pins s2 σ H2 x y v u Q I2 rx ry q (hs _ _))
noncomputable def rIxL(K:W.Frag):R2:=fun x y H Q=>∃ p xs i v,x=.ref p∧y=.int i∧SqL K H p xs∧atI xs i=some v∧Q v H
noncomputable def rIxT(K:W.Frag):R2:=fun x y H Q=>∃ p xs i v,x=.ref p∧y=.int i∧SqT K H p xs∧atI xs i=some v∧Q v H
noncomputable def rIxS:R2:=fun x y H Q=>∃ z i c,x=.str z∧y=.int i∧z.length≤sizeLine∧atI z.cps.toList i=some c∧Q (.str ⟨#[c]⟩) H
theorem ix_list:IxR X (rIxL X.K):=by
 intro value slice pins s σ H x y v u Q I rx ry h hs
 obtain⟨p,xs,i,z,rfl,rfl,hq,he,q⟩:=h
 cases rx
 obtain⟨t,rfl⟩:=ry
 obtain⟨its,r,pl,hz⟩:=I.list hq
 obtain⟨j,h1,h2,h3,h4,h5⟩:=atI_get he
 obtain⟨w,ew,rw'⟩:=r.get h2
 have hl:=r.length
 have hn:=line63
 have fin:EP X pins σ Q w s:=⟨z,H,I,rw',q⟩
 by_cases h0:0≤i
 ·have hj:i.toNat=j:=by
   rw[seqIndex_of h0 h5] at h1
   exact Option.some.inj h1
  exact item_listR pl.isList h0 (by omega) (by rw[hj];simpa using ew) fin hs
 ·have hj:(i+(its.toArray.size:Int)).toNat=j:=by
   rw[seqIndex_neg (by omega) h4] at h1
   rw[List.size_toArray,← hl]
   exact Option.some.inj h1
  exact subscriptTail_builtinR (x:=w) pl.isList.typeIs slot_list_getitem.lookup
   (wpAny_getItem_list_neg (Q:=fun r s'=>r=w∧EP X pins σ Q r s') pl.isList (by omega) (by rw[List.size_toArray]<;>omega) (by omega) (by rw[hj];simpa using ew) ⟨rfl,fin⟩) hs
theorem ix_tup:IxR X (rIxT X.K):=by
 intro value slice pins s σ H x y v u Q I rx ry h hs
 obtain⟨p,xs,i,z,rfl,rfl,hq,he,q⟩:=h
 cases rx
 obtain⟨t,rfl⟩:=ry
 obtain⟨its,r,pl,hz⟩:=I.tuple hq
 obtain⟨j,h1,h2,h3,h4,h5⟩:=atI_get he
 obtain⟨w,ew,rw'⟩:=r.get h2
 have hl:=r.length
 have hn:=line63
 have fin:EP X pins σ Q w s:=⟨z,H,I,rw',q⟩
 exact subscriptTail_builtinR (x:=w) pl.typeIs slot_tuple_getitem.lookup
  (getItem_tuple (j:=j) (Q:=fun r s'=>r=w∧EP X pins σ Q r s') pl (by omega) (by omega) (by rw[List.size_toArray,← hl];exact h1) (by simpa using ew) ⟨rfl,fin⟩) hs
theorem ix_str:IxR X rIxS:=by
 intro value slice pins s σ H x y v u Q I rx ry h hs
 obtain⟨z,i,c,rfl,rfl,hz,he,q⟩:=h
 obtain⟨t,rfl⟩:=rx
 obtain⟨t',rfl⟩:=ry
 obtain⟨j,h1,h2,h3,h4,h5⟩:=atI_get he
 have hl:z.cps.toList.length=z.length:=by simp[Str.length]
 rw[hl] at h1 h4 h5
 have hn:=line63
 exact tail_any (typeIs_str s z t) slot_str_getitem.lookup (getItem_str (c:=c) (by
  have e1:decide (i < -(2 ^ 63:Int))=false:=decide_eq_false (by omega)
  have e2:decide (i≥2 ^ 63)=false:=decide_eq_false (by omega)
  rw[e1,e2,Bool.or_false]) (by rw[h1];simpa using h2) ⟨.str ⟨#[c]⟩,H,I.tok _,⟨_,rfl⟩,q⟩) hs
theorem mapSeq_set(its:List Value)(n j:Nat)(u:Value):Obj.mapSeq (·.setIfInBounds j u) { cls:=.type "list",data:=.seq its.toArray n }={ cls:=.type "list",data:=.seq (its.set j u).toArray n }:=by
 simp[Obj.mapSeq]
theorem Inv.lst{pins:List (Addr×Obj)}{σ:St}{H:Hp}{s:Shared}{p:Addr}{xs:List V}(I:Inv X pins σ H s)(h:H p=some (.lst xs)) :
  ∃ (its:List Value) (n:Nat),Vals xs its∧s.heap.get? p=some { cls:=.type "list",data:=.seq its.toArray n }∧xs.length≤sizeLine:=by
 obtain⟨z,its,n,r,e⟩:=I.hok p _ h
 exact⟨its,n,r,e,z⟩
theorem Inv.lstUpd{pins:List (Addr×Obj)}{σ:St}{H:Hp}{s:Shared}{p:Addr}{xs ys:List V}{its its':List Value}{n n':Nat}{f:Obj→Obj}(I:Inv X pins σ H s)(h:H p=some (.lst xs))
  (ho:s.heap.get? p=some { cls:=.type "list",data:=.seq its.toArray n }) (hf:f { cls:=.type "list",data:=.seq its.toArray n }={ cls:=.type "list",data:=.seq its'.toArray n' }) (r:Vals ys its') (hz:ys.length≤sizeLine) (t:Nat) :
  Inv X pins σ (upd H p (.lst ys)) { s with heap:=s.heap.update p f,toks:=t }:=by
 have e:(s.heap.update p f).get? p=some { cls:=.type "list",data:=.seq its'.toArray n' }:=by
  rw[Heap.get?_update_self f ho (by rw[hf]<;>rfl),hf]
 refine I.write (x:=p) (e:=p) (by rw[h];trivial) (.inl rfl) (fun b u hb q=>(Heap.get?_update_other _ _ (Ne.symm hb)).trans q) ⟨_,e⟩ ?_
 exact⟨hz,its',n',r,e⟩
noncomputable def rSetL:V→V→V→Hp→(Hp→Prop)→Prop:=fun o i v H Q=>∃ p xs k j,o=.ref p∧i=.int k∧H p=some (.lst xs)∧ixN xs.length k=some j∧Q (upd H p (.lst (xs.set j v)))
theorem set_list:PSet X rSetL:=by
 intro pins s σ H o i v ov iv u Q I ro ri rv h
 obtain⟨p,xs,k,j,rfl,rfl,hp,hj,q⟩:=h
 cases ro
 obtain⟨t,rfl⟩:=ri
 obtain⟨its,n,r,ho,hz⟩:=I.lst hp
 obtain⟨h1,h2,h3,h4⟩:=ixN_seq hj
 have hl:=r.length
 have hn:=line63
 have I':Inv X pins σ (upd H p (.lst (xs.set j v))) { s with heap:=s.heap.update p (Obj.mapSeq (·.setIfInBounds j u)) } :=
  I.lstUpd hp ho (mapSeq_set its n j u) (r.set rv j) (by rw[List.length_set];exact hz) s.toks
 by_cases h0:0≤k
 ·have hk:k.toNat=j:=by
   rw[seqIndex_of h0 h4] at h1
   exact Option.some.inj h1
  exact PySem.W.ki_setAt ho h0 (by omega) (by rw[List.size_toArray,← hl];exact h4) (by rw[hk];exact⟨_,I',q⟩)
 ·have hk:(k+(its.toArray.size:Int)).toNat=j:=by
   rw[seqIndex_neg (by omega) h3] at h1
   rw[List.size_toArray,← hl]
   exact Option.some.inj h1
  exact PySem.W.ki_setBack ho (by omega) (by rw[List.size_toArray,← hl];exact h3) (by omega) (by rw[hk];exact⟨_,I',q⟩)
theorem slice_bounds(lo hi:Option Int)(n:Nat):(sliceBounds lo hi none n).1=((HT.sIx n 0 lo:Nat):Int)∧(sliceBounds lo hi none n).2.1=((HT.sIx n n hi:Nat):Int)∧(sliceBounds lo hi none n).2.2=1:=by
 refine⟨?_,?_,rfl⟩
 ·cases lo with
  | none=>simp[sliceBounds,HT.sIx]
  | some i =>
   simp only[sliceBounds,HT.sIx,Option.getD_none,show (1:Int) > 0 by decide,if_true]
   by_cases h:i<0
   ·simp only[h,if_true]<;>omega
   ·simp only[h,if_false]<;>omega
 ·cases hi with
  | none=>simp[sliceBounds,HT.sIx]
  | some i =>
   simp only[sliceBounds,HT.sIx,Option.getD_none,show (1:Int) > 0 by decide,if_true]
   by_cases h:i<0
   ·simp only[h,if_true]<;>omega
   ·simp only[h,if_false]<;>omega
theorem slicePick_cut(its:List Value)(lo hi:Option Int):slicePick its.toArray lo hi none=((its.drop (HT.sIx its.length 0 lo)).take (HT.sIx its.length its.length hi-HT.sIx its.length 0 lo)).toArray:=by
 obtain⟨h1,h2,h3⟩:=slice_bounds lo hi its.toArray.size
 unfold slicePick
 rw[h1,h2,h3]
 simp only[sliceRange_one,pick_run,List.size_toArray]<;>rfl
noncomputable def rSlL(K:W.Frag):V→Option Int→Option Int→Hp→VK→Prop:=fun x lo hi H Q=>∃ a xs,x=.ref a∧SqL K H a xs∧∀ p,H p=none→Q (.ref p) (upd H p (.lst (cutV xs lo hi)))
theorem sl_list:SlR X (rSlL X.K):=by
 intro pins s σ H x v vl vu lo hi sl Q I rx hs pl pu h
 obtain⟨a,xs,rfl,hx,q⟩:=h
 cases rx
 obtain⟨its,r,ht,hz⟩:=I.list hx
 have hlen:=r.length
 refine⟨"list",_,slot_list_getitem.lookup,ht.isList.typeIs,?_⟩
 refine wpAny_getItem_list_slice ht.isList hs pl pu .none (by simp) ?_ (by rw[List.size_toArray]<;>omega)
 rw[slicePick_cut,← hlen]
 refine⟨.ref s.heap.objs.size,_,I.laid (t':=s.toks) (o:=.lst (cutV xs lo hi)) (fun b ob q=>Heap.get?_push_of_some _ q) (Nat.le_refl _) ?_,rfl,q _ (I.hok.fresh (Nat.le_refl _))⟩
 exact⟨Nat.le_trans (cutV_length xs lo hi) hz,_,0,(r.drop (HT.sIx xs.length 0 lo)).take (HT.sIx xs.length xs.length hi-HT.sIx xs.length 0 lo),Heap.get?_push_size _ rfl⟩
theorem op_notIn_str:OpR X (compareOp .NotIn) (fun x y H Q=>∃ i j,x=.str i∧y=.str j∧Q (.bl (!(!(Builtin.Str.occurrences j i 0 j.length 1).isEmpty))) H):=by
 intro pins s σ H x y v u Q I rx ry h
 obtain⟨i,j,rfl,rfl,q⟩:=h
 obtain⟨t,rfl⟩:=rx
 obtain⟨t',rfl⟩:=ry
 exact notIn_str ⟨.bl _,H,I,rfl,q⟩
theorem call_len_seq:CallR X (.builtin "len") (fun xs H Q=>∃ p ys,xs=[.ref p]∧(SqL X.K H p ys∨SqT X.K H p ys)∧Q (.int ys.length) H):=by
 intro pins s σ H xs us Q I r h
 obtain⟨p,ys,rfl,hq,q⟩:=h
 obtain⟨u,rfl,rx⟩:=vals1 r
 cases rx
 have hn:=line63
 rcases hq with hq|hq
 ·obtain⟨its,r',pl,hz⟩:=I.list hq
  have hlen:=r'.length
  exact Calls.call_len_list pl.isList (by simp only[List.size_toArray]<;>omega) ⟨.int ys.length,H,I.tok _,⟨s.toks+1,by rw[List.size_toArray,hlen]⟩,q⟩
 ·obtain⟨its,r',pl,hz⟩:=I.tuple hq
  have hlen:=r'.length
  exact len_tuple pl (by simp only[List.size_toArray]<;>omega) ⟨.int ys.length,H,I.tok _,⟨s.toks+1,by rw[List.size_toArray,hlen]⟩,q⟩
theorem call_len_str:CallR X (.builtin "len") (fun xs H Q=>∃ z,xs=[.str z]∧z.length≤sizeLine∧Q (.int z.length) H):=by
 intro pins s σ H xs us Q I r h
 obtain⟨z,rfl,hz,q⟩:=h
 obtain⟨u,rfl,t,rfl⟩:=vals1 r
 have hn:=line63
 exact len_str (by omega) ⟨.int z.length,H,I.tok _,⟨_,rfl⟩,q⟩
theorem CallR.or{f:Value}{r r':List V→Hp→VK→Prop}(h:CallR X f r)(h':CallR X f r'):CallR X f (fun xs H Q=>r xs H Q∨r' xs H Q):=by
 intro pins s σ H xs us Q I rs q
 rcases q with q|q
 ·exact h pins s σ H xs us Q I rs q
 ·exact h' pins s σ H xs us Q I rs q
theorem call_tuple_of:CallR X (.type "tuple") (fun xs H Q=>∃ p ys,xs=[.ref p]∧((SqL X.K H p ys∧∀ l,H l=none→Q (.ref l) (upd H l (.tup ys)))∨(SqT X.K H p ys∧Q (.ref p) H))):=by
 intro pins s σ H xs us Q I r h
 obtain⟨p,ys,rfl,h⟩:=h
 obtain⟨u,rfl,rx⟩:=vals1 r
 cases rx
 rcases h with⟨hq,q⟩|⟨hq,q⟩
 ·obtain⟨its,r',pl,hz⟩:=I.list hq
  have hlen:=r'.length
  refine call_tuple_list pl.isList (fun h' kp=>?_) (by simp only[List.size_toArray]<;>omega)
  have I1:Inv X pins σ H { s with heap:=h' }:=I.kept (t':=s.toks) kp
  have I2:Inv X pins σ (upd H h'.objs.size (.tup ys)) { s with heap:=h'.push { cls:=.type "tuple",data:=.seq its.toArray } } :=
   I1.laid (t':=s.toks) (fun b o e=>Heap.get?_push_of_some _ e) (Nat.le_refl _) (show ObjOk X.prog X.w _ _ _ (.tup ys) from ⟨hz,its,r',IsTup.new _ _⟩)
  exact⟨.ref h'.objs.size,_,I2,rfl,q _ (I1.hok.fresh (Nat.le_refl _))⟩
 ·obtain⟨its,r',pl,hz⟩:=I.tuple hq
  exact call_tuple_same pl ⟨.ref p,H,I,rfl,q⟩
noncomputable def tyV(K:W.Frag)(T:String)(x:V)(H:Hp):Prop:=match x with
 | .str _=>T = "str"
 | .int _=>T = "int"
 | .ref p=>(T = "list" ∧ ∃ xs,SqL K H p xs)∨(T = "tuple" ∧ ∃ o,K.lookup p=some o∧o.cls=.type "tuple" ∧ o.dict=none) ∨
   (T = "dict" ∧ ((∃ kvs,H p=some (.dK kvs))∨∃ kvs,H p=some (.dT kvs)))∨(T = "set" ∧ ∃ S n,H p=some (.set S n))
 | _=>False
theorem tyV_is{pins:List (Addr×Obj)}{σ:St}{H:Hp}{s:Shared}{T:String}{x:V}{v:Value}(I:Inv X pins σ H s)(r:RelV x v)(ty:tyV X.K T x H) :
  s.TypeIs v T∧∀ a,v=.ref a→∃ ob,s.heap.get? a=some ob∧ob.dict=none:=by
 cases x with
 | str z =>
  obtain⟨t,rfl⟩:=r
  cases (show T = "str" from ty)
  exact⟨typeIs_str s z t,fun _ e=>nomatch e⟩
 | int i =>
  obtain⟨t,rfl⟩:=r
  cases (show T = "int" from ty)
  exact⟨typeIs_int s i t,fun _ e=>nomatch e⟩
 | ref p =>
  cases r
  rcases ty with⟨rfl,xs,hq⟩|⟨rfl,o,hk,hc,hd⟩|⟨rfl,hk⟩|⟨rfl,S,n,hk⟩
  ·obtain⟨its,_,pl,_⟩:=I.list hq
   refine⟨pl.isList.typeIs,fun a e=>?_⟩
   cases e
   obtain⟨o,n,e,c,hd,_⟩:=pl
   exact⟨o,e,hd⟩
  ·refine⟨⟨o,I.kIn p o hk,hc⟩,fun a e=>?_⟩
   cases e
   exact⟨o,I.kIn _ o hk,hd⟩
  ·have z:∃ o,s.heap.get? p=some o∧o.ExactDict:=by
    rcases hk with⟨kvs,hk⟩|⟨kvs,hk⟩
    ·obtain⟨_,_,_,_,o,_,_,e,ex,_⟩:=I.hok p _ hk
     exact⟨o,e,ex⟩
    ·obtain⟨_,_,_,_,o,_,_,e,ex,_⟩:=I.hok p _ hk
     exact⟨o,e,ex⟩
   obtain⟨o,e,ex⟩:=z
   refine⟨⟨o,e,ex.1⟩,fun a e2=>?_⟩
   cases e2
   exact⟨o,e,ex.2.1⟩
  ·obtain⟨o,_,_,_,e,ex,_⟩:=I.hok p _ hk
   refine⟨⟨o,e,ex.1⟩,fun a e2=>?_⟩
   cases e2
   exact⟨o,e,ex.2.1⟩
 | _=>exact False.elim ty
noncomputable def tBM0(K:W.Frag)(T:String)(r:V→List V→Hp→VK→Prop)(to:TE):TE:=fun σ H Q=>to σ H fun x H1=>tyV K T x H1∧r x [] H1 Q
noncomputable def tBM(K:W.Frag)(T:String)(r:V→List V→Hp→VK→Prop)(to:TE)(t:TA):TE:=fun σ H Q=>to σ H fun x H1=>tyV K T x H1∧t σ H1 fun xs H2=>r x xs H2 Q
variable{o e:Expr}{es:List Expr}{to:TE}{t:TA}{name:Str}{apos cpos:Pos}{T id:String}{r:V→List V→Hp→VK→Prop}
theorem pe_bm0(pa:PlainAttrs T)(slot:Slot T name id)(hty:typeOf (.builtin id)=pure (.type "method_descriptor"))(hm:MtR X id r)(ho:PE X o to)
  (hbase:attributeBase o name X.env (eval o X.env)=eval o X.env:=by rfl) (hline:(apos.endLine == cpos.line)=true:=by rfl):PE X (.Call (.Attribute o name apos) [] [] cpos) (tBM0 X.K T r to):=by
 intro pins s σ H Q I h
 refine wpAny_Call_method0_late hbase hline (thn (ho pins s σ H _ I h) fun v s1 ⟨x,H1,I1,r1,ty,q1⟩=>?_)
 obtain⟨h1,h2⟩:=tyV_is I1 r1 ty
 exact⟨T,id,pa,slot,hty,h1,h2,Calls.callWith_builtin rfl (PySem.evalArgs_none (hm pins s1 σ H1 x [] v [] Q I1 r1 .nil q1))⟩
theorem pe_bm(pa:PlainAttrs T)(slot:Slot T name id)(hty:typeOf (.builtin id)=pure (.type "method_descriptor"))(hm:MtR X id r)(ho:PE X o to)(ha:PA X (e::es) t)
  (hbase:attributeBase o name X.env (eval o X.env)=eval o X.env:=by rfl)
  (hfew:((backTo cpos (starEach (e::es) X.env)).all (fun x=>!x.1) && (backToKw cpos (keywordEach [] X.env)).all (fun x=>x.1.isSome)
   && decide ((e::es).length+([]:List Keyword).length+(if ([]:List Keyword).isEmpty then 0 else 1)<30))=true:=by rfl)
  (hline:(apos.endLine == cpos.line)=true:=by rfl) (hs:starEach (e::es) X.env=(false,eval e X.env)::starEach es X.env:=by rfl) (hplain:(backTo cpos (starEach es X.env)).any (·.1)=false:=by rfl) :
  PE X (.Call (.Attribute o name apos) (e::es) [] cpos) (tBM X.K T r to t):=by
 intro pins s σ H Q I h
 refine wpAny_Call_method_late hbase hfew hline rfl (thn (ho pins s σ H _ I h) fun v s1 ⟨x,H1,I1,r1,ty,q1⟩=>?_)
 obtain⟨h1,h2⟩:=tyV_is I1 r1 ty
 refine⟨T,id,pa,slot,hty,h1,h2,?_⟩
 have hA:=ha cpos pins s1 σ H1 _ I1 q1
 rw[hs] at hA ⊢
 refine Calls.callWith_builtin (by show (false || (backTo cpos (starEach es X.env)).any (·.1))=false;rw[hplain]<;>rfl) (Calls.evalArgs_plain ?_)
 exact thn hA fun us s2 ⟨vs,H2,I2,r2,q2⟩=>hm pins s2 σ H2 x vs v us Q I2 r1 r2 q2
end
end L2
namespace L2
open PySem PySem.Spec PyProof.Rows
noncomputable def MtM(X:Cx)(id:String)(r:V→List V→Hp→VK→Prop):Prop :=
 ∀ (pins:List (Addr×Obj)) (s:Shared) (σ:St) (H:Hp) (x:V) (xs:List V) (v:Value) (us:List Value) (Q:VK),Inv X pins σ H s→RelV x v→Vals xs us→r x xs H Q →
  wpAny (model X.prog X.w) X.A (call (.builtin id) (v::us)) (EP X pins σ Q) X.xe s
theorem Vals.one:∀ {x:V} {us:List Value},Vals [x] us→∃ u,us=[u]∧RelV x u
 | _,_,.cons r .nil=>⟨_,rfl,r⟩
theorem Vals.zero:∀ {us:List Value},Vals [] us→us=[]
 | _,.nil=>rfl
theorem Vals.reverse{xs:List V}{us:List Value}(h:Vals xs us):Vals xs.reverse us.reverse:=by
 induction h with
 | nil=>exact .nil
 | cons r t ih=>rw[List.reverse_cons,List.reverse_cons];exact Vals.append ih (.cons r .nil)
theorem Vals.rep{xs:List V}{us:List Value}(h:Vals xs us):∀ k:Nat,Vals (List.replicate k xs).flatten (List.replicate k us).flatten
 | 0=>.nil
 | k+1=>by
  rw[List.replicate_succ,List.replicate_succ,List.flatten_cons,List.flatten_cons]
  exact Vals.append h (Vals.rep h k)
theorem foldl_rep(its:List Value):∀ (k:Nat) (acc:List Value),
  List.foldl (fun x1 x2=>x1++x2) acc.toArray (List.replicate k its.toArray)=(acc++(List.replicate k its).flatten).toArray
 | 0,acc=>by simp
 | k+1,acc=>by
  have e:acc.toArray++its.toArray=(acc++its).toArray:=by simp
  have e2:(acc++its)++(List.replicate k its).flatten=acc++(List.replicate (k+1) its).flatten:=by
   rw[List.replicate_succ,List.flatten_cons,List.append_assoc]
  rw[← e2,← foldl_rep its k (acc++its),← e,List.replicate_succ,List.foldl_cons]
section
variable{X:Cx}{pins:List (Addr×Obj)}{σ:St}{H:Hp}{s:Shared}{l b:Addr}{xs ys zs:List V}
theorem Inv.lset{its its':List Value}{n:Nat}{f:Array Value→Array Value}{t':Nat}(I:Inv X pins σ H s)(hH:H l=some (.lst xs))
  (e:s.heap.get? l=some { cls:=.type "list",data:=.seq its.toArray n }) (hf:f its.toArray=its'.toArray) (hv:Vals ys its') (hz:ys.length≤sizeLine) :
  Inv X pins σ (upd H l (.lst ys)) { s with heap:=s.heap.update l (Obj.mapSeq f),toks:=t' }:=by
 have q:=PySem.IsL.update e f
 rw[hf] at q
 refine I.write (x:=l) (e:=l) (by rw[hH];exact trivial) (.inl rfl) (fun b' u hb hu=>(Heap.get?_update_other s.heap (Obj.mapSeq f) (Ne.symm hb)).trans hu) ⟨_,q⟩ ?_
 exact⟨hz,its',_,hv,q⟩
theorem Inv.lnew{its:List Value}{t':Nat}(I:Inv X pins σ H s)(hv:Vals ys its)(hz:ys.length≤sizeLine) :
  Inv X pins σ (upd H s.heap.objs.size (.lst ys)) { s with heap:=s.heap.push { cls:=.type "list",data:=.seq its.toArray },toks:=t' } :=
 I.laid (fun _ _ q=>Heap.get?_push_of_some _ q) (Nat.le_refl _) ⟨hz,its,0,hv,Heap.get?_push_size _ rfl⟩
theorem Inv.fresh(I:Inv X pins σ H s):H s.heap.objs.size=none:=I.hok.fresh (Nat.le_refl _)
theorem Inv.lstM(I:Inv X pins σ H s)(hH:H l=some (.lst xs)):xs.length≤sizeLine∧∃ (its:List Value) (n:Nat),Vals xs its∧xs.length=its.length∧s.heap.get? l=some { cls:=.type "list",data:=.seq its.toArray n }:=by
 obtain⟨z,its,n,r,e⟩:=I.hok l _ hH
 exact⟨z,its,n,r,r.length,e⟩
theorem notLongL{n:Nat}(h:n≤sizeLine):Builtin.List.listTooLong n=false:=by
 unfold Builtin.List.listTooLong
 exact decide_eq_false (by omega)
end
section
variable{X:Cx}
noncomputable def rAppend:V→List V→Hp→VK→Prop:=fun x vs H Q=>∃ l xs y,x=.ref l∧vs=[y]∧H l=some (.lst xs)∧xs.length<sizeLine∧Q .non (upd H l (.lst (xs++[y])))
theorem mt_append:MtM X "list.append" rAppend:=by
 intro pins s σ H x vs v us Q I rx rv h
 obtain⟨l,xs,y,rfl,rfl,hH,hz,q⟩:=h
 cases rx
 obtain⟨u,rfl,ru⟩:=rv.one
 obtain⟨z,its,n,r,hl,e⟩:=I.lstM hH
 refine call_meets F.slot_list_append ⟨_,e,rfl⟩ F.entry_list_append (F.args_list_append_2 _ _) (PySem.list_append l its.toArray n u (by rw[List.size_toArray];omega)) ⟨e,?_⟩
 refine⟨.non,_,I.lset (its':=its++[u]) hH e (by simp) (r.append (.cons ru .nil)) ?_,rfl,q⟩
 rw[List.length_append,List.length_singleton]
 omega
noncomputable def rReverse:V→List V→Hp→VK→Prop:=fun x vs H Q=>∃ l xs,x=.ref l∧vs=[]∧H l=some (.lst xs)∧Q .non (upd H l (.lst xs.reverse))
theorem mt_reverse:MtM X "list.reverse" rReverse:=by
 intro pins s σ H x vs v us Q I rx rv h
 obtain⟨l,xs,rfl,rfl,hH,q⟩:=h
 cases rx
 have hus:=rv.zero
 subst hus
 obtain⟨z,its,n,r,hl,e⟩:=I.lstM hH
 refine call_meets F.slot_list_reverse ⟨_,e,rfl⟩ F.entry_list_reverse (F.args_list_reverse_1 _) (AutoSeq1.list_reverse_list_0 l its.toArray n (by rw[List.size_toArray];omega)) ⟨e,?_⟩
 refine⟨.non,_,I.lset (its':=its.reverse) hH e (by simp) r.reverse ?_,rfl,q⟩
 rw[List.length_reverse]
 omega
noncomputable def rRep:R2:=fun x y H Q=>∃ l k xs,x=.ref l∧y=.int k∧H l=some (.lst xs)∧-(2 ^ 63)≤k∧k<2 ^ 63∧xs.length*k.toNat≤sizeLine ∧
 ∀ p,H p=none→Q (.ref p) (upd H p (.lst (List.replicate k.toNat xs).flatten))
theorem len_rep{α:Type}(xs:List α)(k:Nat):(List.replicate k xs).flatten.length=k*xs.length:=by
 induction k with
 | zero=>simp
 | succ k ih=>rw[List.replicate_succ,List.flatten_cons,List.length_append,ih,Nat.succ_mul,Nat.add_comm]
theorem op_rep:OpR X (binaryOp .Mult) rRep:=by
 intro pins s σ H x y v u Q I rx ry h
 obtain⟨l,k,xs,rfl,rfl,hH,h1,h2,hz,q⟩:=h
 cases rx
 obtain⟨t,rfl⟩:=ry
 obtain⟨z,its,n,r,hl,e⟩:=I.lstM hH
 have hlen:its.toArray.size*k.toNat≤sizeLine:=by rw[List.size_toArray,← hl];exact hz
 have hcap:¬ its.toArray.size*k.toNat > (2 ^ 63-1) / 8:=by
  have:(sizeLine:Nat)≤(2 ^ 63-1) / 8:=by decide
  omega
 have hfit:¬ (!Builtin.List.listFitsIndex k)=true:=by
  rw[fitsIndex_both h1 h2]
  exact Bool.false_ne_true
 have hlong:¬ Builtin.List.listTooLong (its.toArray.size*k.toNat)=true:=by
  rw[notLongL hlen]
  exact Bool.false_ne_true
 have hnew:List.foldl (fun x1 x2=>x1++x2) #[] (List.replicate (if its.toArray.isEmpty=true then 0 else k.toNat) its.toArray)=(List.replicate k.toNat its).flatten.toArray:=by
  have f0:∀ m:Nat,List.foldl (fun x1 x2=>x1++x2) #[] (List.replicate m its.toArray)=(List.replicate m its).flatten.toArray:=fun m=>by
   have:=foldl_rep its m []
   rw[List.nil_append] at this
   exact this
  rw[f0]
  cases its with
  | nil=>simp
  | cons a r'=>rw[if_neg (by simp)]
 refine wpAny_binaryOp_repeat_ref (T := "list") (U := "int") (by decide) ⟨_,e,rfl⟩ (fun s'=>typeIs_int s' k t) noFill_list_mul F.fills_int_mul F.slot_int_rmul repeat_list F.slot_int_index.lookup
  (call_meets F.slot_int_rmul (typeIs_int s k t) F.entry_int_rmul (F.args_int_rmul_2 _ _) (int___rmul___int_list k t l its.toArray n)
   ⟨e,rfl,⟨_,e,rfl⟩,call_meets F.slot_list_mul ⟨_,e,rfl⟩ F.entry_list_mul (F.args_list_mul_2 _ _) (AutoListH.list___mul___list_int_3 l its.toArray n k t hfit hcap hlong) ⟨e,?_⟩⟩)
 rw[hnew]
 exact⟨.ref _,_,I.lnew (t':=s.toks) (r.rep k.toNat) (by rw[len_rep,Nat.mul_comm];exact hz),rfl,q _ I.fresh⟩
end
section
variable{prog:Program}{w:World}{A:Around}{E:Value→Shared→Prop}{s:Shared}
set_option maxRecDepth 100000 in
end
section
variable{X:Cx}
end
end L2
namespace Att
open PySem PySem.W PySem.Calls PyProof.Rows
theorem ints_of_wellAll{P:Params}{h:Heap}:∀ (ns:List Int) (vs:List Value),WellAll P h vs (ns.map WData.int)→IntsAre vs ns:=by
 intro ns
 induction ns with
 | nil =>
  intro vs w
  rw[List.map_nil] at w
  cases w
  exact .nil
 | cons n ns ih =>
  intro vs w
  rw[List.map_cons] at w
  cases w with
  | cons a b =>
   cases a
   exact .cons _ _ (ih _ b)
theorem script_of{l:OpenLaw}{n:Nat}(hn:l.most=some n){P:Params}{h:Heap}{args:List WData}{vals:List Value}
  (hpre:l.row.toRowW.claim.pre args=true) (hwl:WellAll P h vals args) :
  ∃ a vs ns,vals=[Value.ref a]∧args=[WData.list (ns.map WData.int)]∧h.get? a=some { cls:=.type "list",data:=.seq vs.toArray }∧IntsAre vs ns∧ns.length≤n:=by
 have hsh:WShape.hasAll [] args [.list .int]=true:=(pre_splitW hpre).1
 have hc:l.pre.holds [] { args:=args }=true:=(pre_splitW hpre).2
 obtain⟨d,r,rfl,h1,h2⟩:=hasAllW_cons hsh
 obtain rfl:=hasAllW_nil h2
 obtain⟨xs,rfl,h3⟩:=hasW_list h1
 obtain⟨ns,rfl⟩:=items_int h3
 have hlen:ns.length≤n:=by
  unfold OpenLaw.pre at hc
  have h4:(WTm.not (.lt (.lit (.int (n:Int))) (.len (.arg 0)))).holds [] { args:=[.list (ns.map .int)] }=true:=by
   have h4:=(holds_andW hc).1
   rw[hn] at h4
   exact h4
  have h5:=condW_of h4 (w_not (w_lt w_lit (w_len_list (w_arg rfl))))
  rw[List.length_map] at h5
  refine Nat.le_of_not_lt fun q=>?_
  have q':(n:Int)<((ns.length:Nat):Int):=by omega
  first
   | (rw[decide_eq_true q'] at h5;exact absurd h5 (by decide))
   | (simp at h5;omega)
 cases hwl with
 | cons w1 w2 =>
  cases w2
  cases w1 with
  | list ho hall=>exact⟨_,_,ns,rfl,rfl,ho,ints_of_wellAll ns _ hall,hlen⟩
theorem post_true(l:OpenLaw)(args:List WData):l.row.toRowW.claim.post args (.bool true) args=true :=
 postW_of (r:=l.row.toRowW) (X:=(true == true))
  (show WShape.has [] (.bool true) .bool=true by first|rfl|decide|simp[WShape.has,WShape.arms,WShape.armsAll])
  (show (WTm.eq .res (.lit (.bool true))).value [] { args:=args,res:=some (.bool true),after:=args }=some (.bool (true == true)) from w_eq_bool (w_res rfl) w_lit) rfl
section
variable{prog:Program}{w:World}{A:Around}{E:Value→Shared→Prop}{s:Shared}{K:Frag}
end
end Att
namespace L2
open PySem PySem.Spec PyProof.Rows
theorem vals_ints:∀ {vs:List Value} {ns:List Int},IntsAre vs ns→Vals (ns.map V.int) vs
 | _,_,.nil=>.nil
 | _,_,.cons n t h=>.cons ⟨t,rfl⟩ (vals_ints h)
end L2
namespace L2
open PySem PySem.Spec PyProof.Rows
end L2
namespace L2
open PySem PySem.Spec PyProof.Rows
noncomputable def defArgs(s:Stmt):Arguments:=match s with
 | .FunctionDef _ a _ _ _ _ _ _ _ _=>a
 | _=>{ posonlyargs:=[],args:=[],vararg:=none,kwonlyargs:=[],kw_defaults:=[],kwarg:=none,defaults:=[] }
noncomputable def defBody(s:Stmt):List Stmt:=match s with
 | .FunctionDef _ _ b _ _ _ _ _ _ _=>b
 | _=>[]
noncomputable def defScope(s:Stmt):Scope:=match s with
 | .FunctionDef _ _ _ _ _ _ sc _ _ _=>sc
 | _=>{ kind:=.function,names:=[],isGenerator:=false,isCoroutine:=false }
noncomputable abbrev E0:XK:=fun _ _ _=>False
section
variable{P:Program}{w:World}{K:W.Frag}{mg:Str→Option Value}{base:Heap}
end
theorem small1000{n:Nat}(h:n≤1000):n<sizeLine:=Nat.lt_of_le_of_lt h (by decide)
section
variable{X:Cx}
theorem pv(i:Nat){x:Str}{pos:Pos}(hN:X.N[i]?=some x:=by rfl)(hv:Vis X.env.scope x:=by first|exact Or.inl rfl|exact Or.inr (Or.inl rfl)|exact Or.inr (Or.inr rfl))(hd:(x == ("__debug__" : Str))=false:=by decide)
  (hcd:(x == ("__classdict__" : Str))=false:=by decide):PE X (.Name x pos) (tVar i):=pe_var hN hv hd hcd
end
theorem iteF{A B:Prop}(h:B):if false=true then A else B:=by
 rw[if_neg Bool.false_ne_true]
 exact h
theorem iteT{A B:Prop}(h:A):if true=true then A else B:=by
 rw[if_pos rfl]
 exact h
theorem ite2{c A B:Prop}[Decidable c](h1:c→A)(h2:¬ c→B):if c then A else B:=by
 by_cases h:c
 ·rw[if_pos h]
  exact h1 h
 ·rw[if_neg h]
  exact h2 h
noncomputable def Same(H H':Hp):Prop:=∀ b o,H b=some o→H' b=some o
theorem Same.refl(H:Hp):Same H H:=fun _ _ h=>h
theorem Same.trans{H H1 H2:Hp}(a:Same H H1)(b:Same H1 H2):Same H H2:=fun c o h=>b c o (a c o h)
theorem Same.free{H H':Hp}(e:Same H H'){l:Addr}(h:H' l=Option.none):H l=Option.none:=by
 cases q:H l with
 | none=>rfl
 | some o =>
  rw[e l o q] at h
  cases h
theorem Same.seq{K:W.Frag}{H H':Hp}{a:Addr}{xs:List V}(e:Same H H')(h:SqL K H a xs):SqL K H' a xs:=by
 rcases h with (h|⟨o,h⟩)|h
 ·exact .inl (.inl (e _ _ h))
 ·exact .inl (.inr ⟨o,e _ _ h⟩)
 ·exact .inr h
end L2
namespace L2
open PySem PySem.Spec PyProof.Rows
section
variable{κ:Type}[DecidableEq κ]
noncomputable def valV(kvs:List (κ×V))(k:κ):Option V:=(kvs.find? fun kv=>decide (kv.1=k)).map (·.2)
noncomputable def putK(kvs:List (κ×V))(k:κ)(v:V):List (κ×V) :=
 if (kvs.any fun kv=>decide (kv.1=k))=true then kvs.map (fun kv=>if kv.1=k then (kv.1,v) else kv) else kvs++[(k,v)]
noncomputable def dropK(kvs:List (κ×V))(k:κ):List (κ×V):=kvs.filter fun kv=>decide (kv.1≠k)
theorem valV_pos{p:κ×V}{r:List (κ×V)}{k:κ}(e:p.1=k):valV (p::r) k=some p.2:=by simp[valV,List.find?_cons,e]
theorem valV_neg{p:κ×V}{r:List (κ×V)}{k:κ}(e:¬ p.1=k):valV (p::r) k=valV r k:=by simp[valV,List.find?_cons,e]
theorem valV_any(k:κ):∀ kvs:List (κ×V),(kvs.any fun kv=>decide (kv.1=k))=(valV kvs k).isSome
 | []=>rfl
 | p::r=>by
  rw[List.any_cons]
  by_cases e:p.1=k
  ·simp only[valV_pos e,decide_eq_true e,Bool.true_or,Option.isSome_some]
  ·rw[valV_neg e,decide_eq_false e,Bool.false_or];exact valV_any k r
theorem length_putK(kvs:List (κ×V))(k:κ)(v:V):(putK kvs k v).length≤kvs.length+1:=by
 unfold putK
 split
 ·rw[List.length_map];omega
 ·rw[List.length_append,List.length_cons,List.length_nil];omega
theorem RelO.isSome_eq{o:Option V}{u:Option Value}(r:RelO o u):o.isSome=u.isSome:=by
 cases o with
 | none=>cases u with
  | none=>rfl
  | some _=>exact (show False from r).elim
 | some _=>cases u with
  | none=>exact (show False from r).elim
  | some _=>rfl
theorem RelO.getD{o:Option V}{u:Option Value}{d:V}{d':Value}(r:RelO o u)(rd:RelV d d'):RelV (o.getD d) (u.getD d'):=by
 cases o with
 | none=>cases u with
  | none=>exact rd
  | some _=>exact (show False from r).elim
 | some _=>cases u with
  | none=>exact (show False from r).elim
  | some _=>exact r
theorem KV.val{kvs:List (κ×V)}{vs:List (κ×Value)}(r:KV kvs vs)(k:κ):RelO (valV kvs k) (valueAt vs k):=by
 unfold KV at r
 induction r with
 | nil=>exact True.intro
 | @cons p q ps qs h t ih =>
  obtain⟨h1,h2⟩:=h
  by_cases e:p.1=k
  ·have e':q.1=k:=h1.symm.trans e
   have b:valueAt (q::qs) k=some q.2:=by simp[valueAt,List.find?_cons,e']
   rw[valV_pos e,b];exact h2
  ·have e':¬ q.1=k:=fun z=>e (h1.trans z)
   have b:valueAt (q::qs) k=valueAt qs k:=by simp[valueAt,List.find?_cons,e']
   rw[valV_neg e,b];exact ih
theorem KV.any{kvs:List (κ×V)}{vs:List (κ×Value)}(r:KV kvs vs)(k:κ):(kvs.any fun kv=>decide (kv.1=k))=vs.any fun kv=>decide (kv.1=k):=by
 unfold KV at r
 induction r with
 | nil=>rfl
 | cons h t ih=>rw[List.any_cons,List.any_cons,ih,h.1]
theorem KV.repl{kvs:List (κ×V)}{vs:List (κ×Value)}(r:KV kvs vs)(k:κ){y:V}{u:Value}(ry:RelV y u) :
  KV (kvs.map fun kv=>if kv.1=k then (kv.1,y) else kv) (vs.map fun kv=>if kv.1=k then (kv.1,u) else kv):=by
 unfold KV at r ⊢
 induction r with
 | nil=>exact .nil
 | @cons p q ps qs h t ih =>
  rw[List.map_cons,List.map_cons]
  refine .cons ?_ ih
  obtain⟨h1,h2⟩:=h
  by_cases e:p.1=k
  ·rw[if_pos e,if_pos (h1.symm.trans e)];exact⟨h1,ry⟩
  ·rw[if_neg e,if_neg (fun z=>e (h1.trans z))];exact⟨h1,h2⟩
theorem KV.put{kvs:List (κ×V)}{vs:List (κ×Value)}(r:KV kvs vs)(k:κ){y:V}{u:Value}(ry:RelV y u):KV (putK kvs k y) (stored vs k u):=by
 unfold putK stored
 rw[r.any k]
 by_cases e:(vs.any fun kv=>decide (kv.1=k))=true
 ·rw[if_pos e,if_pos e];exact r.repl k ry
 ·rw[if_neg e,if_neg e];exact Paired.snoc r ⟨rfl,ry⟩
theorem KV.drop{kvs:List (κ×V)}{vs:List (κ×Value)}(r:KV kvs vs)(k:κ):KV (dropK kvs k) (without vs k):=by
 unfold KV at r ⊢
 unfold dropK without
 induction r with
 | nil=>exact .nil
 | @cons p q ps qs h t ih =>
  obtain⟨h1,h2⟩:=h
  rw[List.filter_cons,List.filter_cons]
  by_cases e:p.1=k
  ·have a:¬ decide (p.1≠k)=true:=by simp[e]
   have b:¬ decide (q.1≠k)=true:=by simp[h1.symm.trans e]
   rw[if_neg a,if_neg b];exact ih
  ·have e':¬ q.1=k:=fun z=>e (h1.trans z)
   have a:decide (p.1≠k)=true:=by simp[e]
   have b:decide (q.1≠k)=true:=by simp[e']
   rw[if_pos a,if_pos b];exact .cons ⟨h1,h2⟩ ih
theorem KV.length{kvs:List (κ×V)}{vs:List (κ×Value)}(r:KV kvs vs):kvs.length=vs.length:=Paired.length r
theorem dropK_le(kvs:List (κ×V))(k:κ):(dropK kvs k).length≤kvs.length:=List.length_filter_le _ _
end
theorem kV_is{P:Program}{w:World}{k:Key}{u:Value}(r:RelV (kV k) u):(mixKind P w).is k u=true:=by
 cases k with
 | inl i=>obtain⟨t,e⟩:=(show ∃ t,u=Value.int i t from r);subst e;exact mixKind_int P w i t
 | inr x=>obtain⟨t,e⟩:=(show ∃ t,u=Value.str x t from r);subst e;exact mixKind_str P w x t
theorem items_are{P:Program}{w:World}:∀ {ks:List Key} {us:List Value},Vals (ks.map kV) us→ItemsAre (mixKind P w) ks us
 | [],_,r=>by rw[List.map_nil] at r;cases r;exact .nil
 | k::ks,_,r=>by
  rw[List.map_cons] at r
  cases r with
  | cons h t=>exact .cons (kV_is h) (items_are t)
noncomputable abbrev KT(H:Hp):List (List Key×V)→List (List Key×Addr×Value)→Prop:=Paired fun p q=>p.1=q.1∧H q.2.1=some (.tup (p.1.map kV))∧RelV p.2 q.2.2
theorem KT.val{H:Hp}{kvs:List (List Key×V)}{xs:List (List Key×Addr×Value)}(r:KT H kvs xs)(k:List Key):RelO (valV kvs k) ((atKey xs k).map (·.2)):=by
 induction r with
 | nil=>exact True.intro
 | @cons p q ps qs h t ih =>
  obtain⟨h1,_,h2⟩:=h
  by_cases e:p.1=k
  ·have e':q.1=k:=h1.symm.trans e
   have b:atKey (q::qs) k=some q.2:=by simp[atKey,List.find?_cons,e']
   rw[valV_pos e,b];exact h2
  ·have e':¬ q.1=k:=fun z=>e (h1.trans z)
   have b:atKey (q::qs) k=atKey qs k:=by simp[atKey,List.find?_cons,e']
   rw[valV_neg e,b];exact ih
theorem KT.repl{H:Hp}{kvs:List (List Key×V)}{xs:List (List Key×Addr×Value)}(r:KT H kvs xs)(k:List Key){y:V}{u:Value}(ry:RelV y u) :
  KT H (kvs.map fun kv=>if kv.1=k then (kv.1,y) else kv) (xs.map (putAt k u)):=by
 induction r with
 | nil=>exact .nil
 | @cons p q ps qs h t ih =>
  rw[List.map_cons,List.map_cons]
  refine .cons ?_ ih
  obtain⟨h1,h2,h3⟩:=h
  unfold putAt
  by_cases e:p.1=k
  ·rw[if_pos e,if_pos (h1.symm.trans e)];exact⟨h1,h2,ry⟩
  ·rw[if_neg e,if_neg (fun z=>e (h1.trans z))];exact⟨h1,h2,h3⟩
theorem KT.put{H:Hp}{kvs:List (List Key×V)}{xs:List (List Key×Addr×Value)}(r:KT H kvs xs)(k:List Key){b:Addr}{y:V}{u:Value}(hb:H b=some (.tup (k.map kV)))(ry:RelV y u) :
  KT H (putK kvs k y) (storedH xs k b u):=by
 have e:(kvs.any fun kv=>decide (kv.1=k))=(atKey xs k).isSome:=by
  rw[valV_any,(r.val k).isSome_eq,Option.isSome_map]
 unfold putK storedH
 rw[e]
 by_cases q:(atKey xs k).isSome=true
 ·rw[if_pos q,if_pos q];exact r.repl k ry
 ·rw[if_neg q,if_neg q];exact Paired.snoc r ⟨rfl,hb,ry⟩
theorem KT.keeps{H H':Hp}{kvs:List (List Key×V)}{xs:List (List Key×Addr×Value)}(r:KT H kvs xs)(ht:∀ b ys,H b=some (.tup ys)→H' b=some (.tup ys)):KT H' kvs xs :=
 Paired.mapP r fun _ _ z=>⟨z.1,ht _ _ z.2.1,z.2.2⟩
section
variable{P:Program}{w:World}{H:Hp}{h:Heap}{a:Addr}
theorem rd_of{u:HO}(ok:HOk P w H h)(e:Rd H a u):ObjOk P w H h a u:=e.ok ok
theorem dk_rd{kvs:List (Key×V)}(ok:HOk P w H h)(e:Rd H a (.dK kvs)):kvs.length≤sizeLine∧(a == sysModules)=false∧∃ vs,KV kvs vs∧h.DictOf (mixKind P w) a vs :=
 show ObjOk P w H h a (.dK kvs) from rd_of ok e
theorem dk_of{kvs:List (Key×V)}(ok:HOk P w H h)(e:H a=some (.dK kvs)):kvs.length≤sizeLine∧(a == sysModules)=false∧∃ vs,KV kvs vs∧h.DictOf (mixKind P w) a vs:=dk_rd ok (.inl e)
theorem key_of{ks:List Key}(ok:HOk P w H h)(e:H a=some (.tup (ks.map kV))):(tupleKind (mixKind P w)).is h ks a:=by
 obtain⟨_,its,r,o,h1,h2,n,h3⟩:=(show ObjOk P w H h a (.tup (ks.map kV)) from ok a _ e)
 exact⟨o,its.toArray,n,h1,h2,h3,by simpa using items_are r⟩
theorem dt_rd{kvs:List (List Key×V)}(ok:HOk P w H h)(e:Rd H a (.dT kvs)):kvs.length≤sizeLine∧(a == sysModules)=false ∧
  ∃ xs,KT H kvs xs∧h.DictOfH (tupleKind (mixKind P w)) a xs:=by
 obtain⟨z,y,xs,r,o,es,ep,h1,h2,h3,h4,h5⟩:=(show ObjOk P w H h a (.dT kvs) from rd_of ok e)
 refine⟨z,y,xs,r,o,es,ep,h1,h2,h3,h4,fun x hx=>?_,h5⟩
 have all:∀ {l:List (List Key×V)} {m:List (List Key×Addr×Value)},KT H l m→∀ x∈m,(tupleKind (mixKind P w)).is h x.1 x.2.1:=by
  intro l m q
  induction q with
  | nil=>intro x hx;exact nomatch hx
  | @cons p q ps qs hq t ih =>
   intro x hx
   rcases List.mem_cons.mp hx with e|hx
   ·subst e
    exact key_of ok (by rw[← hq.1];exact hq.2.1)
   ·exact ih x hx
 exact all r x hx
theorem dt_of{kvs:List (List Key×V)}(ok:HOk P w H h)(e:H a=some (.dT kvs)):kvs.length≤sizeLine∧(a == sysModules)=false ∧
  ∃ xs,KT H kvs xs∧h.DictOfH (tupleKind (mixKind P w)) a xs:=dt_rd ok (.inl e)
end
noncomputable def DGet(H:Hp)(a:Addr)(y:V)(r:Option V):Prop :=
 (∃ kvs k,Rd H a (.dK kvs)∧y=kV k∧r=valV kvs k)∨∃ kvs k b,Rd H a (.dT kvs)∧y=.ref b∧H b=some (.tup (k.map kV))∧r=valV kvs k
noncomputable def DPut(H:Hp)(a:Addr)(y v:V)(H':Hp):Prop :=
 (∃ kvs k,H a=some (.dK kvs)∧y=kV k∧kvs.length<sizeLine∧H'=upd H a (.dK (putK kvs k v))) ∨
 ∃ kvs k b,H a=some (.dT kvs)∧y=.ref b∧H b=some (.tup (k.map kV))∧kvs.length<sizeLine∧H'=upd H a (.dT (putK kvs k v))
theorem DPut.k{H:Hp}{a:Addr}{kvs:List (Key×V)}{k:Key}{v:V}(e:H a=some (.dK kvs))(hl:kvs.length<sizeLine):DPut H a (kV k) v (upd H a (.dK (putK kvs k v))):=.inl ⟨kvs,k,e,rfl,hl,rfl⟩
theorem DPut.t{H:Hp}{a b:Addr}{kvs:List (List Key×V)}{k:List Key}{v:V}(e:H a=some (.dT kvs))(eb:H b=some (.tup (k.map kV)))(hl:kvs.length<sizeLine) :
  DPut H a (.ref b) v (upd H a (.dT (putK kvs k v))):=.inr ⟨kvs,k,b,e,rfl,eb,hl,rfl⟩
section
variable{X:Cx}{pins:List (Addr×Obj)}{σ:St}{H:Hp}{s:Shared}{a:Addr}{y v:V}{u r:Value}{o:Option V}{A:Around}{E:Value→Shared→Prop}
theorem Inv.big(I:Inv X pins σ H s):sysModules<s.heap.objs.size:=by
 have h:mainGlobals<s.heap.objs.size:=(I.mod.glob.keeps I.bk).lt
 exact Nat.lt_trans (by decide) h
theorem d_getItem{Q:Value→Shared→Prop}(hu:A.units+1<cLine)(I:Inv X pins σ H s)(g:DGet H a y (some v))(ry:RelV y u)(h:∀ w' s',Inv X pins σ H s'→RelV v w'→Q w' s') :
  wpAny (model X.prog X.w) A (getItem (.ref a) u) Q E s:=by
 rcases g with⟨kvs,k,e,ey,l⟩|⟨kvs,k,b,e,ey,eb,l⟩
 ·subst ey
  obtain⟨z,hd,vs,rel,dd⟩:=dk_rd I.hok e
  obtain⟨w',hw,rw'⟩:=RelO.some_of (v:=v) (o:=valueAt vs k) (by rw[l];exact rel.val k)
  exact wpAny_getItem_of (kV_is ry) dd.mapOf hw (h w' _ (I.tok _) rw')
 ·subst ey
  cases (show u=Value.ref b from ry)
  obtain⟨z,hd,xs,rel,dd⟩:=dt_rd I.hok e
  obtain⟨w',hw,rw'⟩:=RelO.some_of (v:=v) (o:=(atKey xs k).map (·.2)) (by rw[l];exact rel.val k)
  obtain⟨p,hp,hp2⟩:=Option.map_eq_some_iff.mp hw
  refine wpAny_getItem_heap (tupleKind_room_in1 hu) (key_of I.hok eb) dd hp ?_
  rw[hp2]
  exact h w' _ (I.tok _) rw'
theorem d_in{Q:Value→Shared→Prop}(hu:A.units+1<cLine)(I:Inv X pins σ H s)(g:DGet H a y o)(ry:RelV y u)(h:∀ s',Inv X pins σ H s'→Q (.bool o.isSome) s') :
  wpAny (model X.prog X.w) A (compareOp .In u (.ref a)) Q E s:=by
 rcases g with⟨kvs,k,e,ey,l⟩|⟨kvs,k,b,e,ey,eb,l⟩
 ·subst ey
  obtain⟨z,hd,vs,rel,dd⟩:=dk_rd I.hok e
  refine wpAny_in_of (kV_is ry) hd dd.mapOf ?_
  rw[← (rel.val k).isSome_eq,← l]
  exact h _ (I.tok _)
 ·subst ey
  cases (show u=Value.ref b from ry)
  obtain⟨z,hd,xs,rel,dd⟩:=dt_rd I.hok e
  refine wpAny_in_heap (tupleKind_room_in1 hu) (key_of I.hok eb) hd dd ?_
  have q:=(rel.val k).isSome_eq
  rw[Option.isSome_map] at q
  rw[← q,← l]
  exact h _ (I.tok _)
theorem d_notIn{Q:Value→Shared→Prop}(hu:A.units+1<cLine)(I:Inv X pins σ H s)(g:DGet H a y o)(ry:RelV y u)(h:∀ s',Inv X pins σ H s'→Q (.bool (!o.isSome)) s') :
  wpAny (model X.prog X.w) A (compareOp .NotIn u (.ref a)) Q E s:=by
 rcases g with⟨kvs,k,e,ey,l⟩|⟨kvs,k,b,e,ey,eb,l⟩
 ·subst ey
  obtain⟨z,hd,vs,rel,dd⟩:=dk_rd I.hok e
  refine wpAny_notIn_of (kV_is ry) hd dd.mapOf ?_
  rw[← (rel.val k).isSome_eq,← l]
  exact h _ (I.tok _)
 ·subst ey
  cases (show u=Value.ref b from ry)
  obtain⟨z,hd,xs,rel,dd⟩:=dt_rd I.hok e
  refine wpAny_notIn_heap (tupleKind_room_in1 hu) (key_of I.hok eb) hd dd ?_
  have q:=(rel.val k).isSome_eq
  rw[Option.isSome_map] at q
  rw[← q,← l]
  exact h _ (I.tok _)
theorem d_write{h':Heap}{t':Nat}{ob:HO}(I:Inv X pins σ H s)(mu:Mut (H a))(hs:Heap.SameBut a s.heap h')(he:∃ q,h'.get? a=some q)(new:ObjOk X.prog X.w (upd H a ob) h' a ob) :
  Inv X pins σ (upd H a ob) { s with heap:=h',toks:=t' } :=
 I.write (x:=a) (e:=a) mu (.inl rfl) (fun b q hb z=>(hs.2 b hb).trans z) he new
theorem dk_new{P:Program}{w:World}{H':Hp}{h':Heap}{kvs:List (Key×V)}{vs:List (Key×Value)}(z:kvs.length≤sizeLine)(hd:(a == sysModules)=false)(rel:KV kvs vs)(dd:h'.DictOf (mixKind P w) a vs) :
  ObjOk P w H' h' a (.dK kvs):=⟨z,hd,vs,rel,dd⟩
theorem d_setItem{H':Hp}{Q:Unit→Shared→Prop}(hu:A.units+1<cLine)(I:Inv X pins σ H s)(g:DPut H a y v H')(ry:RelV y u)(rv:RelV v r)(h:∀ s',Inv X pins σ H' s'→Q () s') :
  wpAny (model X.prog X.w) A (setItem (.ref a) u r) Q E s:=by
 rcases g with⟨kvs,k,e,ey,l,eH⟩|⟨kvs,k,b,e,ey,eb,l,eH⟩
 ·subst ey eH
  obtain⟨z,hd,vs,rel,dd⟩:=dk_of I.hok e
  have hz:vs.length≤sizeLine:=by rw[← rel.length];exact z
  have hl:(putK kvs k v).length≤sizeLine:=by have:=length_putK kvs k v;omega
  refine wpAny_setItem_pairs (hsz:=hz) (kV_is ry) dd fun h' dd' hs=>h _ ?_
  have he:∃ q,h'.get? a=some q:=let ⟨q,_,_,hq,_⟩:=dd';⟨q,hq⟩
  exact d_write I (by rw[e];exact True.intro) hs he (dk_new hl hd (rel.put k rv) dd')
 ·subst ey eH
  cases (show u=Value.ref b from ry)
  obtain⟨z,hd,xs,rel,dd⟩:=dt_of I.hok e
  have hz:xs.length≤sizeLine:=by rw[← Paired.length rel];exact z
  have hl:(putK kvs k v).length≤sizeLine:=by have:=length_putK kvs k v;omega
  refine wpAny_setItem_heap (hsz:=hz) (tupleKind_room_in1 hu) (key_of I.hok eb) dd fun h' dd' hs=>h _ ?_
  obtain⟨q,es,ep,hq,h2,h3,h4,_,h5⟩:=dd'
  refine d_write I (by rw[e];exact True.intro) hs ⟨q,hq⟩ ⟨hl,hd,_,(rel.put k eb rv).keeps fun c ys ec=>?_,q,es,ep,hq,h2,h3,h4,h5⟩
  rw[upd_ne (ne_of ec e (fun z=>nomatch z))]
  exact ec
end
section
variable{X:Cx}{pins:List (Addr×Obj)}{σ:St}{H:Hp}{s:Shared}{a:Addr}{kvs:List (Key×V)}{k:Key}{u:Value}{A:Around}{E:Value→Shared→Prop}
theorem d_pop{v:V}{more:List Value}{Q:Value→Shared→Prop}(I:Inv X pins σ H s)(e:H a=some (.dK kvs))(ry:RelV (kV k) u)(l:valV kvs k=some v)(hm:more=[]∨∃ x,more=[x])
  (h:∀ w' s',Inv X pins σ (upd H a (.dK (dropK kvs k))) s'→RelV v w'→Q w' s'):wpAny (model X.prog X.w) A (call (.builtin "dict.pop") (.ref a::u::more)) Q E s:=by
 obtain⟨z,hd,vs,rel,dd⟩:=dk_of I.hok e
 obtain⟨w',hw,rw'⟩:=RelO.some_of (v:=v) (o:=valueAt vs k) (by rw[← l];exact rel.val k)
 have hp:(keyPart u).isSome=true:=by
  cases k with
  | inl i=>obtain⟨t,q⟩:=(show ∃ t,u=Value.int i t from ry);subst q;rfl
  | inr x=>obtain⟨t,q⟩:=(show ∃ t,u=Value.str x t from ry);subst q;rfl
 have ha:argsOk "dict.pop" ⟨.ref a::u::more,[]⟩:=by
  rcases hm with q|⟨x,q⟩
  ·subst q;exact PySem.F.args_dict_pop_2 _ _
  ·subst q;exact PySem.F.args_dict_pop_3 _ _ _
 refine call_meetsIn PySem.F.slot_dict_pop dd.typeIs PySem.F.entry_dict_pop ha (meets_dict_pop_there (mixKind X.prog X.w) a (kV_is ry) more hm hp)
  ⟨vs,w',dd,by rw[← rel.length];exact z,hw,fun h' dd' hs=>h w' _ ?_ rw'⟩
 have he:∃ q,h'.get? a=some q:=let ⟨q,_,_,hq,_⟩:=dd';⟨q,hq⟩
 exact d_write I (by rw[e];exact True.intro) hs he (dk_new (Nat.le_trans (dropK_le kvs k) z) hd (rel.drop k) dd')
theorem d_popD{r:Value}{Q:Value→Shared→Prop}(I:Inv X pins σ H s)(e:H a=some (.dK kvs))(ry:RelV (kV k) u)(l:valV kvs k=none)(h:∀ s',Inv X pins σ H s'→Q r s') :
  wpAny (model X.prog X.w) A (call (.builtin "dict.pop") [.ref a,u,r]) Q E s:=by
 obtain⟨z,hd,vs,rel,dd⟩:=dk_of I.hok e
 have hn:valueAt vs k=none:=RelO.none_of (by rw[← l];exact rel.val k)
 have hp:(keyPart u).isSome=true:=by
  cases k with
  | inl i=>obtain⟨t,q⟩:=(show ∃ t,u=Value.int i t from ry);subst q;rfl
  | inr x=>obtain⟨t,q⟩:=(show ∃ t,u=Value.str x t from ry);subst q;rfl
 exact call_meetsIn PySem.F.slot_dict_pop dd.typeIs PySem.F.entry_dict_pop (PySem.F.args_dict_pop_3 _ _ _) (meets_dict_pop_default (mixKind X.prog X.w) a (kV_is ry) hd hp r) ⟨vs,dd,hn,h _ (I.tok _)⟩
theorem d_len{Q:Value→Shared→Prop}(I:Inv X pins σ H s)(e:Rd H a (.dK kvs))(h:∀ t s',Inv X pins σ H s'→Q (.int kvs.length t) s'):wpAny (model X.prog X.w) A (call (.builtin "len") [.ref a]) Q E s:=by
 obtain⟨z,hd,vs,rel,dd⟩:=dk_rd I.hok e
 refine call_len_dict hd dd (by rw[← rel.length];rw[sizeLine_eq] at z;omega) ?_
 rw[← rel.length]
 exact h _ _ (I.tok _)
end
theorem dict_typeIs{X:Cx}{pins:List (Addr×Obj)}{σ:St}{H:Hp}{s:Shared}{a:Addr}{y:V}{o:Option V}(I:Inv X pins σ H s)(g:DGet H a y o):s.TypeIs (.ref a) "dict" := by
 rcases g with⟨kvs,k,e,_,_⟩|⟨kvs,k,b,e,_,_,_⟩
 ·obtain⟨_,_,vs,_,dd⟩:=dk_rd I.hok e
  exact dd.typeIs
 ·obtain⟨_,_,xs,_,dd⟩:=dt_rd I.hok e
  exact dd.typeIs
section
variable{X:Cx}{o i e value:Expr}{pos pos' tpos:Pos}{td ty tv:TE}
end
theorem dk_empty{P:Program}{w:World}{H:Hp}(h:Heap)(hb:sysModules<h.objs.size):ObjOk P w H (h.push { cls:=.type "dict",data:=.dict #[] }) h.objs.size (.dK []) :=
 ⟨Nat.zero_le _,beq_eq_false_iff_ne.mpr (Ne.symm (Nat.ne_of_lt hb)),[],.nil,Heap.DictOf.new h⟩
noncomputable def tDNewK:TE:=fun _ H Q=>∀ p,H p=none→Q (.ref p) (upd H p (.dK []))
section
variable{X:Cx}{pos:Pos}
theorem pe_dnewK:PE X (.Dict [] [] pos) tDNewK:=fun pins s σ H Q I h =>
 wpAny_Dict_empty ⟨.ref s.heap.objs.size,_,I.laid (a:=s.heap.objs.size) (o:=.dK []) (t':=s.toks) (fun _ _ q=>Heap.get?_push_of_some _ q) (Nat.le_refl _) (dk_empty s.heap I.big),rfl,h _ (I.hok.fresh (Nat.le_refl _))⟩
end
structure M2(X:Cx)(o:Expr)(m:Str)(apos:Pos)(e f:Expr)(cpos:Pos):Prop where
 base:attributeBase o m X.env (eval o X.env)=eval o X.env
 few:((backTo cpos (starEach [e,f] X.env)).all (fun x=>!x.1) && (backToKw cpos (keywordEach [] X.env)).all (fun x=>x.1.isSome)
  && decide (([e,f]:List Expr).length+([]:List Keyword).length+(if ([]:List Keyword).isEmpty then 0 else 1)<30))=true
 line:(apos.endLine == cpos.line)=true
 trees:backTo cpos (starEach [e,f] X.env)=[(false,eval e X.env),(false,eval f X.env)]
noncomputable def IsD(H:Hp)(a:Addr):Prop:=(∃ kvs,Rd H a (.dK kvs))∨∃ kvs,Rd H a (.dT kvs)
theorem isD_at{X:Cx}{pins:List (Addr×Obj)}{σ:St}{H:Hp}{s:Shared}{a:Addr}(I:Inv X pins σ H s)(d:IsD H a) :
  s.TypeIs (.ref a) "dict" ∧ (∀ b,Value.ref a=.ref b→∃ ob,s.heap.get? b=some ob∧ob.dict=none)∧(a == sysModules)=false:=by
 rcases d with⟨kvs,e⟩|⟨kvs,e⟩
 ·obtain⟨_,hd,vs,_,dd⟩:=dk_rd I.hok e
  refine⟨dd.typeIs,fun b q=>?_,hd⟩
  cases q
  obtain⟨ob,_,_,h1,h2,_⟩:=dd
  exact⟨ob,h1,h2.2.1⟩
 ·obtain⟨_,hd,xs,_,dd⟩:=dt_rd I.hok e
  refine⟨dd.typeIs,fun b q=>?_,hd⟩
  cases q
  obtain⟨ob,_,_,h1,h2,_⟩:=dd
  exact⟨ob,h1,h2.2.1⟩
section
variable{X:Cx}{pins:List (Addr×Obj)}{σ:St}{H:Hp}{s:Shared}{a:Addr}{y d:V}{u r:Value}{o:Option V}{A:Around}{E:Value→Shared→Prop}
theorem d_get2{Q:Value→Shared→Prop}(hu:A.units+1<cLine)(I:Inv X pins σ H s)(g:DGet H a y o)(ry:RelV y u)(rd:RelV d r)(h:∀ w' s',Inv X pins σ H s'→RelV (o.getD d) w'→Q w' s') :
  wpAny (model X.prog X.w) A (call (.builtin "dict.get") [.ref a,u,r]) Q E s:=by
 rcases g with⟨kvs,k,e,ey,l⟩|⟨kvs,k,b,e,ey,eb,l⟩
 ·subst ey
  obtain⟨z,hd,vs,rel,dd⟩:=dk_rd I.hok e
  refine call_meetsIn PySem.F.slot_dict_get dd.typeIs PySem.F.entry_dict_get (PySem.F.args_dict_get_3 _ _ _) (meets_dict_get_default (mixKind X.prog X.w) a (kV_is ry) hd r) ⟨_,dd.mapOf,h _ _ (I.tok _) ?_⟩
  rw[l]
  exact (rel.val k).getD rd
 ·subst ey
  cases (show u=Value.ref b from ry)
  obtain⟨z,hd,xs,rel,dd⟩:=dt_rd I.hok e
  refine call_meetsIn PySem.F.slot_dict_get dd.typeIs PySem.F.entry_dict_get (PySem.F.args_dict_get_3 _ _ _) (meetsH_dict_get_default (tupleKind (mixKind X.prog X.w)) a b hd r) ⟨tupleKind_room_in1 hu,k,xs,key_of I.hok eb,dd,h _ _ (I.tok _) ?_⟩
  rw[l]
  exact (rel.val k).getD rd
end
section
variable{X:Cx}{o e f:Expr}{apos cpos:Pos}{td ty tx:TE}
end
section
variable{X:Cx}{pins:List (Addr×Obj)}{σ:St}{H:Hp}{s:Shared}{a:Addr}{kvs:List (Key×V)}{A:Around}{E:Value→Shared→Prop}
end
section
variable{X:Cx}{pins:List (Addr×Obj)}{σ:St}{H:Hp}{s:Shared}{a:Addr}{y:V}{u:Value}{A:Around}{E:Value→Shared→Prop}
end
end L2
section
namespace L2
open PySem PySem.Spec PyProof.Rows
theorem cellsFrom_inj:∀ (names:List (Str×NameKind)) (n:Nat) (acc:List (Str×Addr)),
  (∀ x y c,acc.lookup x=some c→acc.lookup y=some c→x=y)→(∀ x c,acc.lookup x=some c→c<n) →
  ∀ x y c,(cellsFrom n names acc).lookup x=some c→(cellsFrom n names acc).lookup y=some c→x=y
 | [],_,_,h,_=>h
 | (z,k)::r,n,acc,h,hb=>by
  unfold cellsFrom
  split
  ·refine cellsFrom_inj r (n+1) ((z,n)::acc) ?_ ?_
   ·intro x y c hx hy
    rw[List.lookup_cons] at hx hy
    cases ex:x == z with
    | true =>
     rw[ex] at hx
     have e1:n=c:=Option.some.inj hx
     cases ey:y == z with
     | true=>rw[beq_iff_eq.mp ex,beq_iff_eq.mp ey]
     | false =>
      rw[ey] at hy
      have:=hb y c hy
      rw[← e1] at this
      exact absurd this (Nat.lt_irrefl _)
    | false =>
     rw[ex] at hx
     cases ey:y == z with
     | true =>
      rw[ey] at hy
      have e1:n=c:=Option.some.inj hy
      have:=hb x c hx
      rw[← e1] at this
      exact absurd this (Nat.lt_irrefl _)
     | false =>
      rw[ey] at hy
      exact h x y c hx hy
   ·intro x c hx
    rw[List.lookup_cons] at hx
    cases ex:x == z with
    | true =>
     rw[ex] at hx
     have e1:n=c:=Option.some.inj hx
     rw[← e1]
     exact Nat.lt_succ_self n
    | false =>
     rw[ex] at hx
     exact Nat.lt_succ_of_lt (hb x c hx)
  ·exact cellsFrom_inj r n acc h hb
theorem cellsFrom_low(x:Str)(lo:Nat):∀ (names:List (Str×NameKind)) (n:Nat) (acc:List (Str×Addr)),lo≤n →
  ((x,NameKind.cell)∈names∨∀ c,acc.lookup x=some c→lo≤c)→∀ c,(cellsFrom n names acc).lookup x=some c→lo≤c
 | [],_,_,_,h=>h.elim (fun z=>nomatch z) id
 | (z,k)::r,n,acc,hl,h=>by
  unfold cellsFrom
  split
  ·refine cellsFrom_low x lo r (n+1) ((z,n)::acc) (by omega) ?_
   by_cases ex:x=z
   ·refine .inr fun c hc=>?_
    rw[List.lookup_cons,ex,beq_self_eq_true] at hc
    have:n=c:=Option.some.inj hc
    omega
   ·rcases h with h|h
    ·rcases List.mem_cons.mp h with e|h
     ·exact absurd (Prod.mk.inj e).1 ex
     ·exact .inl h
    ·refine .inr fun c hc=>h c ?_
     rw[List.lookup_cons,beq_false_of_ne ex] at hc
     exact hc
  ·rename_i hk
   refine cellsFrom_low x lo r n acc hl ?_
   rcases h with h|h
   ·rcases List.mem_cons.mp h with e|h
    ·rw[← (Prod.mk.inj e).2] at hk
     exact absurd rfl hk
    ·exact .inl h
   ·exact .inr h
theorem cellsFrom_out{x:Str}:∀ (names:List (Str×NameKind)) (n:Nat) (acc:List (Str×Addr)),(∀ y∈names,y.1=x→y.2≠.cell)→(cellsFrom n names acc).lookup x=acc.lookup x
 | [],_,_,_=>rfl
 | (z,k)::r,n,acc,h=>by
  unfold cellsFrom
  split
  ·rename_i hk
   rw[cellsFrom_out r (n+1) ((z,n)::acc) fun y hy=>h y (List.mem_cons_of_mem _ hy),List.lookup_cons]
   have:x≠z:=fun e=>h (z,k) List.mem_cons_self e.symm (by simpa using hk)
   rw[beq_false_of_ne this]
  ·exact cellsFrom_out r n acc fun y hy=>h y (List.mem_cons_of_mem _ hy)
theorem cellsFrom_or(x:Str):∀ (names:List (Str×NameKind)) (n:Nat) (acc:List (Str×Addr)) (c:Addr),(cellsFrom n names acc).lookup x=some c→n≤c∨acc.lookup x=some c
 | [],_,_,_,h=>.inr h
 | (z,k)::r,n,acc,c,h=>by
  unfold cellsFrom at h
  split at h
  ·rcases cellsFrom_or x r (n+1) ((z,n)::acc) c h with q|q
   ·exact .inl (by omega)
   ·rw[List.lookup_cons] at q
    cases ex:x == z with
    | true=>rw[ex] at q;have:n=c:=Option.some.inj q;exact .inl (by omega)
    | false=>rw[ex] at q;exact .inr q
  ·exact cellsFrom_or x r n acc c h
theorem cellsFrom_isCell:∀ (names:List (Str×NameKind)) (h:Heap) (acc:List (Str×Addr)),(∀ x c,acc.lookup x=some c→∃ v,h.IsCell c v) →
  ∀ x c,(cellsFrom h.objs.size names acc).lookup x=some c→∃ v,(pushCells h names).IsCell c v
 | [],_,_,h=>h
 | (z,k)::r,h,acc,ha=>by
  unfold cellsFrom pushCells
  split
  ·have:=cellsFrom_isCell r (h.push { cls:=.type "cell",data:=.cell none }) ((z,h.objs.size)::acc) (fun x c hx=>by
    rw[List.lookup_cons] at hx
    cases ex:x == z with
    | true =>
     rw[ex] at hx
     cases hx
     exact⟨none,_,Heap.get?_push_size _ rfl,rfl⟩
    | false =>
     rw[ex] at hx
     obtain⟨v,q⟩:=ha x c hx
     exact⟨v,q.keeps fun b o e=>Heap.get?_push_of_some _ e⟩)
   rwa [Heap.size_push] at this
  ·exact cellsFrom_isCell r h acc ha
theorem newEnvC{M:Model}{A:Around}{E:Value→Shared→Prop}{s:Shared}{scope:Scope}{globals:Addr}{cl:List (Str×Addr)}{qual:Str}{env:Env}{Q:Env→Shared→Prop}
  (hQ:Q (newEnv scope s.heap.objs.size globals (cellsFrom (s.heap.objs.size+1) scope.names cl) qual none .none (some env) builtinsNs)
   { s with heap:=pushCells (s.heap.push { cls:=.type "dict",data:=.dict #[] }) scope.names }) :
  wpAny M A (newFunctionEnv scope globals cl [] qual none .none (some env)) Q E s:=by
 simp only[newFunctionEnv,Option.isSome_some,if_true]
 refine wpAny_bind (wpAny_alloc ?_)
 refine wpAny_bind (wpAny_layCells _ (fun name kind cells=>by cases hkc:kind == NameKind.cell<;>simp[hkc]) _ _ _ _ ?_)
 rw[show ({ s with heap:=s.heap.push { cls:=.type "dict",data:=.dict #[] } }:Shared).heap.objs.size=s.heap.objs.size+1 from Heap.size_push ..]
 rw[List.forIn_nil]
 exact wpAny_bind (wpAny_pure (wpAny_pure hQ))
theorem closure_go{env:Env}:∀ (l:List (Str×NameKind)) (acc:List (Str×Addr)),(∀ y∈l,y.2=.free→∃ c,env.cells.lookup y.1=some c) →
  (∀ x c,acc.lookup x=some c→env.cells.lookup x=some c) →
  ∃ cl,(forIn l acc fun (x:Str×NameKind) r=>if (x.2 == .free)=true then (do let a ← cellOf env x.1;pure (ForInStep.yield ((x.1,a)::r))) else pure (ForInStep.yield r):Sem (List (Str×Addr)))=pure cl ∧
   (∀ x c,cl.lookup x=some c→env.cells.lookup x=some c)∧(∀ x,((∃ c,acc.lookup x=some c)∨(x,NameKind.free)∈l)→∃ c,cl.lookup x=some c)
 | [],acc,_,ha=>⟨acc,by rw[List.forIn_nil],ha,fun x hx=>hx.elim id fun z=>nomatch z⟩
 | (z,k)::r,acc,hl,ha=>by
  by_cases hk:k=.free
  ·subst hk
   obtain⟨c,hc⟩:=hl (z,.free) List.mem_cons_self rfl
   obtain⟨cl,h1,h2,h3⟩:=closure_go r ((z,c)::acc) (fun y hy=>hl y (List.mem_cons_of_mem _ hy)) (fun x c' hx=>by
    rw[List.lookup_cons] at hx
    cases ex:x == z with
    | true=>rw[ex] at hx;cases hx;rw[beq_iff_eq.mp ex];exact hc
    | false=>rw[ex] at hx;exact ha x c' hx)
   refine⟨cl,?_,h2,fun x hx=>h3 x ?_⟩
   ·rw[List.forIn_cons]
    have e:cellOf env z=pure c:=by unfold cellOf;rw[show env.cells.lookup z=some c from hc]
    simp only[beq_self_eq_true,if_true,e]
    exact h1
   ·rcases hx with⟨c',hx⟩|hx
    ·refine .inl ?_
     rw[List.lookup_cons]
     cases ex:x == z with
     | true=>exact⟨c,rfl⟩
     | false=>exact⟨c',hx⟩
    ·rcases List.mem_cons.mp hx with e|hx
     ·refine .inl ⟨c,?_⟩
      rw[(Prod.mk.inj e).1,List.lookup_cons,beq_self_eq_true]
     ·exact .inr hx
  ·obtain⟨cl,h1,h2,h3⟩:=closure_go r acc (fun y hy=>hl y (List.mem_cons_of_mem _ hy)) ha
   refine⟨cl,?_,h2,fun x hx=>h3 x ?_⟩
   ·rw[List.forIn_cons]
    have e:(k == NameKind.free)=false:=by simpa using hk
    simp only[e,Bool.false_eq_true,if_false]
    exact h1
   ·rcases hx with hx|hx
    ·exact .inl hx
    ·rcases List.mem_cons.mp hx with e|hx
     ·exact absurd (Prod.mk.inj e).2.symm hk
     ·exact .inr hx
theorem closure_ex{scope:Scope}{env:Env}(h:∀ y∈scope.names,y.2=.free→∃ c,env.cells.lookup y.1=some c) :
  ∃ cl,closureFor scope env=pure cl∧(∀ x c,cl.lookup x=some c→env.cells.lookup x=some c)∧(∀ x,(x,NameKind.free)∈scope.names→∃ c,cl.lookup x=some c):=by
 obtain⟨cl,h1,h2,h3⟩:=closure_go scope.names [] h (fun x c e=>by simp at e)
 refine⟨cl,?_,h2,fun x hx=>h3 x (.inr hx)⟩
 unfold closureFor
 simp only[bind_pure]
 exact h1
noncomputable def relabelS(scope sc:Scope):Scope :=
 { scope with names:=scope.names.map fun (n,k)=>if (k == .free && sc.kind == .function && sc.names.lookup n == some .cell) then (n,.cell) else (n,k) }
theorem relabel_eq(scope:Scope)(env:Env):relabel scope env=relabelS scope env.scope:=rfl
theorem lookup_map_val{α β:Type}(g:Str→α→β)(x:Str):∀ l:List (Str×α),(l.map fun (n,k)=>(n,g n k)).lookup x=(l.lookup x).map (g x)
 | []=>rfl
 | (n,k)::r=>by
  rw[List.map_cons,List.lookup_cons,List.lookup_cons]
  cases e:x == n with
  | true=>rw[beq_iff_eq.mp e];rfl
  | false=>exact lookup_map_val g x r
theorem lookup_relabelS(scope sc:Scope)(x:Str):(relabelS scope sc).names.lookup x=(scope.names.lookup x).map fun k=>if (k == .free && sc.kind == .function && sc.names.lookup x == some .cell) then NameKind.cell else k:=by
 have e:(relabelS scope sc).names=scope.names.map fun (n,k)=>(n,if (k == .free && sc.kind == .function && sc.names.lookup n == some .cell) then NameKind.cell else k):=by
  unfold relabelS
  refine List.map_congr_left fun y _=>?_
  obtain⟨n,k⟩:=y
  show (if _ then _ else _)=(n,if _ then _ else _)
  split<;>rfl
 rw[e]
 exact lookup_map_val (fun n k=>if (k == .free && sc.kind == .function && sc.names.lookup n == some .cell) then NameKind.cell else k) x scope.names
noncomputable def capOk(N0:List Str)(sc0 scope:Scope):List Str→List (Option Nat)→Bool
 | [],[]=>true
 | x::N,none::c=>capOk N0 sc0 scope N c
 | x::N,some j::c=>(N0[j]? == some x) && (sc0.names.lookup x == some .cell || sc0.names.lookup x == some .free) && (scope.names.lookup x == some .free) && (scope.names.all fun y=>y.1 != x || y.2 != .cell) && capOk N0 sc0 scope N c
 | _,_=>false
noncomputable def compOk(N0:List Str)(sc0 scope:Scope)(N:List Str)(cap:List (Option Nat)):Bool :=
 (scope.kind == .function) && (scope.names.all fun y=>y.2 != .local || scope.names.lookup y.1 == some .local) && (scope.names.all fun y=>y.2 != .free || (sc0.names.lookup y.1 == some .cell || sc0.names.lookup y.1 == some .free)) &&
 (scope.names.all fun y=>y.2 != .cell || scope.names.lookup y.1 == some .cell) && capOk N0 sc0 scope N cap
noncomputable def capS(cap:List (Option Nat))(σ:St):St:=cap.map fun o=>match o with
 | none=>none
 | some j=>(σ[j]?).join
theorem capOk_len{N0:List Str}{sc0 scope:Scope}:∀ {N:List Str} {cap:List (Option Nat)},capOk N0 sc0 scope N cap=true→cap.length=N.length
 | [],[],_=>rfl
 | x::N,none::c,h=>by
  have:=capOk_len (N:=N) (cap:=c) h
  simp[this]
 | x::N,some j::c,h=>by
  simp only[capOk,Bool.and_eq_true] at h
  have:=capOk_len (N:=N) (cap:=c) h.2
  simp[this]
 | [],_::_,h=>by simp[capOk] at h
 | _::_,[],h=>by simp[capOk] at h
theorem capOk_at{N0:List Str}{sc0 scope:Scope}:∀ {N:List Str} {cap:List (Option Nat)} {i j:Nat} {x:Str},capOk N0 sc0 scope N cap=true→N[i]?=some x→cap[i]?=some (some j) →
  N0[j]?=some x∧(sc0.names.lookup x=some .cell∨sc0.names.lookup x=some .free)∧scope.names.lookup x=some .free∧∀ y∈scope.names,y.1=x→y.2≠.cell
 | [],[],i,j,x,_,h,_=>by simp at h
 | y::N,none::c,0,j,x,_,_,h=>by simp at h
 | y::N,none::c,i+1,j,x,h,h1,h2=>capOk_at (N:=N) (cap:=c) (i:=i) h (by simpa using h1) (by simpa using h2)
 | y::N,some j'::c,0,j,x,h,h1,h2=>by
  simp at h1 h2
  subst h1 h2
  simp only[capOk,Bool.and_eq_true,Bool.or_eq_true,beq_iff_eq,List.all_eq_true,bne_iff_ne] at h
  exact⟨h.1.1.1.1,h.1.1.1.2,h.1.1.2,fun z hz e=>(h.1.2 z hz).elim (fun q=>absurd e q) id⟩
 | y::N,some j'::c,i+1,j,x,h,h1,h2=>by
  simp only[capOk,Bool.and_eq_true] at h
  exact capOk_at (N:=N) (cap:=c) (i:=i) h.2 (by simpa using h1) (by simpa using h2)
 | [],_::_,_,_,_,h,_,_=>by simp[capOk] at h
 | _::_,[],_,_,_,h,_,_=>by simp[capOk] at h
noncomputable def cxC(X:Cx)(scope:Scope)(cl:List (Str×Addr))(N:List Str)(s:Shared)(H:Hp)(fp:List Addr):Cx where
 prog:=X.prog
 w:=X.w
 K:=X.K
 mg:=X.mg
 base:=X.base
 A:=X.A
 N:=N
 s₀:=s
 H₀:=H
 env:=compEnvC scope (cellsFrom (s.heap.objs.size+1+1) scope.names cl) (s.heap.objs.size+1) X.env
 outer:=X.stack
 stack:=X.stack
 ex:=fp
 fn:=fun x=>scope.names.lookup x == some .cell
 calm:=X.calm
 pn:=[]
 xe:=fun _ _=>False
theorem cxC_inv{X:Cx}{pins:List (Addr×Obj)}{σ:St}{H:Hp}{s:Shared}{scope sc0:Scope}{cl:List (Str×Addr)}{N N0:List Str}{cap:List (Option Nat)}{fp:List Addr}
  (I:Inv X pins σ H s) (hf:∀ b∈fp,FpOk X pins H b) (ho:∀ b∈fp,∃ o,s.heap.get? b=some o∧∀ v,o.data≠.cell v)
  (hs0:X.env.scope=sc0) (hN:X.N=N0) (ok:compOk N0 sc0 scope N cap=true)
  (hcl:∀ x c,cl.lookup x=some c→X.env.cells.lookup x=some c) (hfr:∀ x,(x,NameKind.free)∈scope.names→∃ c,cl.lookup x=some c) :
  Inv (cxC X scope cl N s H fp) [] (capS cap σ) (upd H s.heap.objs.size (.lst [])) { s with heap:=pushCells ((s.heap.push { cls:=.type "list",data:=.seq ([]:List Value).toArray }).push { cls:=.type "dict",data:=.dict #[] }) scope.names }:=by
 simp only[compOk,Bool.and_eq_true,beq_iff_eq] at ok
 obtain⟨⟨⟨⟨hk,hloc⟩,hfree⟩,hcell⟩,hcap⟩:=ok
 have e1:(s.heap.push { cls:=.type "list",data:=.seq ([]:List Value).toArray }).objs.size=s.heap.objs.size+1:=Heap.size_push ..
 have e2:((s.heap.push { cls:=.type "list",data:=.seq ([]:List Value).toArray }).push { cls:=.type "dict",data:=.dict #[] }).objs.size=s.heap.objs.size+1+1:=by rw[Heap.size_push,e1]
 have k1:∀ b o,s.heap.get? b=some o→(pushCells ((s.heap.push { cls:=.type "list",data:=.seq ([]:List Value).toArray }).push { cls:=.type "dict",data:=.dict #[] }) scope.names).get? b=some o :=
  fun b o e=>pushCells_keeps _ _ b o (Heap.get?_push_of_some _ (Heap.get?_push_of_some _ e))
 have kD:(pushCells ((s.heap.push { cls:=.type "list",data:=.seq ([]:List Value).toArray }).push { cls:=.type "dict",data:=.dict #[] }) scope.names).get? s.heap.objs.size=some { cls:=.type "list",data:=.seq ([]:List Value).toArray } :=
  pushCells_keeps _ _ _ _ (Heap.get?_push_of_some _ (Heap.get?_push_size _ rfl))
 have kC:(pushCells ((s.heap.push { cls:=.type "list",data:=.seq ([]:List Value).toArray }).push { cls:=.type "dict",data:=.dict #[] }) scope.names).Ns (s.heap.objs.size+1) fun _=>none:=by
  have q:=(Heap.Ns.new (s.heap.push { cls:=.type "list",data:=.seq ([]:List Value).toArray }) (.type "dict")).keeps (pushCells_keeps scope.names _)
  rw[e1] at q
  exact q
 have hD:H s.heap.objs.size=none:=I.hok.fresh (Nat.le_refl _)
 have clLt:∀ x c,cl.lookup x=some c→c<s.heap.objs.size:=fun x c e=>by
  obtain⟨v,q⟩:=I.cell x c (hcl x c e)
  exact q.lt
 have cells:∀ x c,(cellsFrom (s.heap.objs.size+1+1) scope.names cl).lookup x=some c→s.heap.objs.size+1+1≤c∨cl.lookup x=some c:=fun x c e=>cellsFrom_or x _ _ _ c e
 have fpLt:∀ b∈fp,b<s.heap.objs.size:=fun b hb=>by
  obtain⟨o,e,_⟩:=ho b hb
  exact Heap.lt_size e
 refine⟨⟨I.ok.mod,hk,I.ok.glob,I.ok.blt,Nat.le_succ _,?_,?_,?_,I.ok.hd,I.ok.frames,.inl rfl,?_,I.bs,Nat.le_trans I.ok.bsz I.sz,?_,?_,I.stack,I.stkFree⟩,
  rfl,I.bare,?_,?_,?_,?_,?_,fun p hp=>absurd (show p∈([]:List (Addr×Obj)) from hp) (by simp),?_,?_⟩
 ·-- inj
  refine cellsFrom_inj scope.names _ cl (fun x y c h1 h2=>I.ok.inj x y c (hcl x c h1) (hcl y c h2)) fun x c h=>?_
  exact Nat.lt_succ_of_lt (Nat.lt_succ_of_lt (clLt x c h))
 ·-- has
  intro x hx
  have hx:(relabel scope X.env).names.lookup x=some .cell∨(relabel scope X.env).names.lookup x=some .free:=hx
  rw[relabel_eq,lookup_relabelS] at hx
  have:scope.names.lookup x=some .cell∨scope.names.lookup x=some .free:=by
   cases e:scope.names.lookup x with
   | none=>rw[e] at hx;simp at hx
   | some k =>
    rw[e] at hx
    cases k<;>simp at hx<;>simp
  refine Option.isSome_iff_exists.mp (PySem.W.cellsFrom_some scope.names _ cl ?_)
  rcases this with h|h
  ·exact .inl h
  ·exact .inr (Option.isSome_iff_exists.mpr (hfr x (PySem.mem_of_lookup h)))
 ·-- cab
  intro x c hx hc
  have hx:scope.names.lookup x=some .cell:=by simpa [cxC] using hx
  have:=cellsFrom_low x (s.heap.objs.size+1+1) scope.names (s.heap.objs.size+1+1) cl (Nat.le_refl _) (.inl (PySem.mem_of_lookup hx)) c hc
  exact Nat.le_trans (Nat.le_succ _) (Nat.le_trans (Nat.le_succ _) this)
 ·-- exf
  intro b hb
  have hlt:=fpLt b hb
  refine⟨Nat.ne_of_lt (Nat.lt_succ_of_lt hlt),fun x c e=>?_⟩
  rcases cells x c e with q|q
  ·exact Nat.ne_of_gt (Nat.lt_of_lt_of_le (Nat.lt_succ_of_lt (Nat.lt_succ_of_lt hlt)) q)
  ·exact (hf b hb).2.2.2.2.1 x c (hcl x c q)
 ·-- noex
  intro b o e hb
  rcases (hf b hb).2.2.2.1 with q|q
  ·exact I.ok.noex b o e q
  ·exact absurd (Nat.lt_of_lt_of_le (Heap.lt_size (I.ok.bs b o e).1) q) (Nat.lt_irrefl _)
 ·-- exfs
  intro b hb z
  rcases List.mem_cons.mp (I.stkSub b z) with q|q
  ·exact (hf b hb).2.1 q
  ·exact (hf b hb).2.2.1 q
 ·-- base
  exact Un.laid k1 (Nat.le_refl _) hD
 ·-- loc
  refine⟨_,kC,fun i x v h1 h2 h3=>?_⟩
  have h2:(capS cap σ)[i]?=some (some v):=h2
  unfold capS at h2
  rw[List.getElem?_map] at h2
  cases e:cap[i]? with
  | none=>rw[e] at h2;cases h2
  | some o =>
   rw[e] at h2
   cases o with
   | none=>cases h2
   | some j =>
    have h2:some ((σ[j]?).join)=some (some v):=h2
    have h2:(σ[j]?).join=some v:=Option.some.inj h2
    obtain⟨q1,q2,q3,q4⟩:=capOk_at hcap h1 e
    have q5:σ[j]?=some (some v):=by
     cases es:σ[j]? with
     | none=>rw[es] at h2;cases h2
     | some w'=>rw[es] at h2;cases w' with
      | none=>cases h2
      | some w''=>have:some w''=some v:=h2;rw[this]
    obtain⟨m,hn,hl⟩:=I.loc
    have hk0:X.env.kindOf x=some .cell∨X.env.kindOf x=some .free:=by
     show X.env.scope.names.lookup x=_∨X.env.scope.names.lookup x=_
     rw[hs0];exact q2
    obtain⟨u,r,l⟩:=hl j x v (by rw[hN];exact q1) q5 (hk0.elim (fun z=>.inr (.inl z)) fun z=>.inr (.inr z))
    refine⟨u,r,?_⟩
    rcases l with⟨z,_⟩|⟨_,c,e1,z⟩
    ·rcases hk0 with y|y<;>(rw[y] at z;cases z)
    ·obtain⟨c',hc'⟩:=hfr x (PySem.mem_of_lookup q3)
     have ec:c'=c:=by
      have:=hcl x c' hc'
      rw[e1] at this
      exact (Option.some.inj this).symm
     subst ec
     refine .inr ⟨?_,c',?_,z.keeps k1⟩
     ·show (relabel scope X.env).names.lookup x=_∨(relabel scope X.env).names.lookup x=_
      rw[relabel_eq,lookup_relabelS,q3]
      by_cases hz:(NameKind.free == NameKind.free && X.env.scope.kind == ScopeKind.function && X.env.scope.names.lookup x == some NameKind.cell)=true
      ·left;show some (if _ then _ else _)=_;rw[if_pos hz]
      ·right;show some (if _ then _ else _)=_;rw[if_neg hz]
     ·show (cellsFrom (s.heap.objs.size+1+1) scope.names cl).lookup x=some c'
      rw[cellsFrom_out _ _ _ q4]
      exact hc'
 ·-- cell
  intro x c e
  have e:(cellsFrom (s.heap.objs.size+1+1) scope.names cl).lookup x=some c:=e
  rw[← e2] at e
  exact cellsFrom_isCell scope.names _ cl (fun y d hy=>by
   obtain⟨v,q⟩:=I.cell y d (hcl y d hy)
   exact⟨v,q.keeps fun b o z=>Heap.get?_push_of_some _ (Heap.get?_push_of_some _ z)⟩) x c e
 ·-- free
  show upd H s.heap.objs.size (.lst []) (s.heap.objs.size+1)=none
  rw[upd_ne (Nat.ne_of_gt (Nat.lt_succ_self _))]
  exact I.hok.fresh (Nat.le_succ _)
 ·-- freeC
  intro x c e
  rcases cells x c e with q|q
  ·have q2:s.heap.objs.size<c:=Nat.lt_of_lt_of_le (Nat.lt_succ_of_lt (Nat.lt_succ_self _)) q
   rw[upd_ne (Nat.ne_of_gt q2)]
   exact I.hok.fresh (Nat.le_of_lt q2)
  ·have:=clLt x c q
   rw[upd_ne (Nat.ne_of_lt this)]
   exact I.freeC x c (hcl x c q)
 ·-- hok
  refine I.hok.laid k1 (Nat.le_refl _) ⟨Nat.zero_le _,[],0,.nil,kD⟩
 ·show (capS cap σ).length=N.length
  unfold capS
  rw[List.length_map,capOk_len hcap]
end L2
end
section
namespace L2
open PySem PySem.Spec PyProof.Rows
noncomputable def PIfs(X:Cx)(ifs:List Expr)(t:TT):Prop:=∀ (pins:List (Addr×Obj)) (s:Shared) (σ:St) (H:Hp) (Q:Bool→Hp→Prop),Inv X pins σ H s→t σ H Q →
 wpAny (model X.prog X.w) X.A (forIn ifs true fun c r=>if r=true then do let ok ← isTrue c X.env (eval c X.env);pure (ForInStep.yield ok) else pure (ForInStep.yield r)) (TP X pins σ Q) X.xe s
noncomputable def tAll:TT:=fun _ H Q=>Q true H
theorem pifs_nil{X:Cx}:PIfs X [] tAll:=fun _ _ _ H _ I h=>wpAny_tests_nil ⟨H,I,h⟩
theorem pifs_one{X:Cx}{c:Expr}{t:TT}(h:PT X c t):PIfs X [c] t:=fun pins s σ H Q I q=>wpAny_tests_one (h pins s σ H Q I q)
noncomputable def CompW(J:It)(g:TG)(tt:TT)(te:TE)(D:Addr)(σ:St)(H:Hp)(Qe:Hp→Prop):Prop :=
 ∃ W:Nat→Nat→St→Hp→Prop,(∃ m,W 0 m σ H)∧∀ i m σ H,W i m σ H →
  (J.stop i H∧Qe H)∨(J.go i H∧∃ N:St→Hp→Prop,(∀ σ' H',N σ' H'→∃ m',m' < m∧W (i+1) m' σ' H') ∧
   ∀ x H',J.yld i H x H'→g x σ H' fun σ2 H2=>tt σ2 H2 fun b H3=>if b=true then te σ2 H3 fun y H4=>∃ xs,H4 D=some (.lst xs)∧xs.length<sizeLine∧N σ2 (upd H4 D (.lst (xs++[y]))) else N σ2 H3)
theorem comp_turns{X:Cx}{tg iter elt:Expr}{ifs:List Expr}{scope:Scope}{pos:Pos}{it D:Addr}{fp:List Addr}{tn:Nat→Heap→Prop}{J:It}{g:TG}{tt:TT}{te:TE}{R:Result→Shared→Prop}{s:Shared}{σ:St}{H:Hp}{Qe:Hp→Prop}
  (hc:X.calm=true) (hxe:∀ e s,X.xe e s→False) (hg:PG X tg g) (ht:PIfs X ifs tt) (he:PE X elt te) (T:Turn X.prog X.w X.K tg J fp it tn)
  (fpk:∀ H',(∀ b∈fp,H' b=none)→∀ b∈fp,FpOk X [] H' b) (I:Inv X [] σ H s) (st:tn 0 s.heap) (fr:∀ b∈fp,H b=none)
  (h:CompW J g tt te D σ H Qe) (hR:∀ σ' H' s',Inv X [] σ' H' s'→Qe H'→R (.ok .next) s') :
  codeAny (model X.prog X.w) X.A (.compLoop (.ListComp elt [⟨tg,iter,ifs,0⟩] scope pos) 0 (.ref it) (.ref D) X.env) R s:=by
 obtain⟨W,⟨m0,w0⟩,turn⟩:=h
 refine codeAny_loop rfl (fun n s'=>∃ i σ' H',Inv X [] σ' H' s'∧tn i s'.heap∧(∀ b∈fp,H' b=none)∧W i n σ' H') (fun n s3 hI=>?_) m0 ⟨0,σ,H,I,st,fr,w0⟩
 obtain⟨i,σ3,H3,I3,st3,fr3,w3⟩:=hI
 show wpAny _ X.A ((compTurn (.ListComp elt [⟨tg,iter,ifs,0⟩] scope pos) 0 (.ref it) (.ref D) X.env).onRaise (fun x=>do noteFrame x X.env;theTreesLotGoes x)) _ _ s3
 refine wpAny_noted ?_
 rw[compTurn_list]
 refine wpAny_bind (wpAny_standAt (wpAny_bind ?_))
 rcases turn i n σ3 H3 w3 with⟨stop,qn⟩|⟨go,N,hN,step⟩
 ·refine wpAny_mono (T.done X rfl rfl rfl hc i [] s3 σ3 H3 (fun _ _=>False) I3 (fpk H3 fr3) st3 stop) (fun r s4 hr=>?_) (fun _ _ f=>f.elim)
  obtain⟨hr,I4⟩:=hr
  subst hr
  exact wpAny_pure (hR σ3 H3 s4 I4 qn)
 ·refine wpAny_mono (T.item X rfl rfl rfl hc i [] s3 σ3 H3 (fun _ _=>False) I3 (fpk H3 fr3) st3 go) (fun r s4 hr=>?_) (fun _ _ f=>f.elim)
  obtain⟨u,hr,h4⟩:=hr
  subst hr
  refine wpAny_bind (wpAny_mono h4 (fun _ s5 h5=>?_) fun _ _ f=>f.elim)
  obtain⟨x,H5,I5,r5,y5,st5,fr5⟩:=h5
  have I5':=I5.pinned (fpk H5 fr5) (T.obj _ _ st5)
  refine wpAny_bind (wpAny_mono (hg _ s5 σ3 H5 x u _ I5' r5 (step x H5 y5)) (fun _ s6 h6=>?_) fun e s f=>(hxe e s f).elim)
  obtain⟨σ6,H6,I6,q6⟩:=h6
  refine wpAny_bind (wpAny_mono (ht _ s6 σ6 H6 _ I6 q6) (fun ok s7 h7=>?_) fun e s f=>(hxe e s f).elim)
  obtain⟨H7,I7,q7⟩:=h7
  have again:∀ {s7:Shared} {σ7:St} {H7:Hp},Inv X ([]++pinsAt fp s5.heap) σ7 H7 s7→N σ7 H7→∃ m,m<n∧∃ i σ' H',Inv X [] σ' H' s7∧tn i s7.heap∧(∀ b∈fp,H' b=none)∧W i m σ' H':=fun {s7 σ7 H7} I7 n7=>by
   obtain⟨m',hm,w7⟩:=hN σ7 H7 n7
   refine⟨m',hm,i+1,σ7,H7,I7.unpinned,T.keep _ _ _ st5 fun b hb o e=>(I7.pin (b,o) (List.mem_append_right _ (List.mem_append_right _ (mem_pinsAt hb e)))).1,fun b hb=>?_,w7⟩
   obtain⟨o,e,d⟩:=T.obj _ _ st5 b hb
   exact (I7.pin (b,o) (List.mem_append_right _ (List.mem_append_right _ (mem_pinsAt hb e)))).2.1
  cases ok with
  | false=>exact wpAny_pure ⟨rfl,again I7 q7⟩
  | true =>
   refine wpAny_bind (wpAny_bind (wpAny_mono (he _ s7 σ6 H7 _ I7 q7) (fun y s8 h8=>wpAny_bind ?_) fun e s f=>(hxe e s f).elim))
   obtain⟨v8,H8,I8,r8,xs,hD,hz,n8⟩:=h8
   refine wpAny_mono (mt_append (X:=X) _ s8 σ6 H8 (.ref D) [v8] (.ref D) [y] (fun _ H9=>N σ6 H9) I8 rfl (.cons r8 .nil) ⟨D,xs,v8,rfl,rfl,hD,hz,n8⟩) (fun _ s9 h9=>?_) fun e s f=>(hxe e s f).elim
   obtain⟨_,H9,I9,_,n9⟩:=h9
   exact wpAny_pure (wpAny_pure ⟨rfl,again I9 n9⟩)
theorem cxC_back{X:Cx}{pins pins':List (Addr×Obj)}{σ σ':St}{H H':Hp}{s s':Shared}{scope:Scope}{cl:List (Str×Addr)}{N:List Str}{fp:List Addr}(I:Inv X pins σ H s)(hf:∀ b∈fp,FpOk X pins H b)
  (J:Inv (cxC X scope cl N s H fp) pins' σ' H' s'):Inv X pins σ H' s' :=
 I.call' (ch:=fp) J.os J.base J.hok J.bare fun b hb=>⟨(hf b hb).2.2.2.1,(hf b hb).2.1,(hf b hb).2.2.2.2.1,(hf b hb).2.2.2.2.2⟩
noncomputable def tComp(cap:List (Option Nat))(wi:TI)(g:TG)(tt:TT)(te:TE):TE:=fun σ H Q=>wi σ H fun J H1=>∀ D,H1 D=none→CompW J g tt te D (capS cap σ) (upd H1 D (.lst [])) fun H2=>Q (.ref D) H2
theorem comp_core{X:Cx}{sc0 scope:Scope}{N0 N:List Str}{cap:List (Option Nat)}{tg iter elt:Expr}{ifs:List Expr}{pos pos':Pos}{wi:TI}{g:TG}{tt:TT}{te:TE}{use:Option (Value→Sem Unit)}{Qv:Value→Shared→Prop}
  {pins:List (Addr×Obj)} {s:Shared} {σ:St} {H:Hp} {Q:VK}
  (hc:X.calm=true) (hs0:X.env.scope=sc0) (hN:X.N=N0) (ok:compOk N0 sc0 scope N cap=true) (hi:PI X tg iter wi)
  (hg:∀ cl s H fp,PG (cxC X scope cl N s H fp) tg g) (ht:∀ cl s H fp,PIfs (cxC X scope cl N s H fp) ifs tt) (he:∀ cl s H fp,PE (cxC X scope cl N s H fp) elt te) (hfs:∀ x,foldedSetIterable iter X.env x=pure x)
  (I:Inv X pins σ H s) (h:tComp cap wi g tt te σ H Q)
  (hend:∀ (D C:Addr) (m:Str→Option Value) (H':Hp) (s':Shared),Inv X pins σ H' s'→s'.heap.Ns C m→H' C=none→C≠X.env.locals→X.s₀.heap.objs.size≤C→(∀ x c,X.env.cells.lookup x=some c→c≠C)→(∀ p∈X.pn++pins,p.1≠C)→Q (.ref D) H' →
   compPost (model X.prog X.w) X.A X.xe use Qv (.ref D) C (.ok .next) s') :
  wpAny (model X.prog X.w) X.A (comprehension (.ListComp elt [⟨tg,iter,ifs,0⟩] scope pos) scope X.env pos' (newList []) false (eval iter X.env) use) Qv X.xe s:=by
 have ok':=ok
 simp only[compOk,Bool.and_eq_true,beq_iff_eq,List.all_eq_true,Bool.or_eq_true,bne_iff_ne] at ok'
 obtain⟨⟨⟨⟨hk,hloc⟩,hfree⟩,hcell⟩,hcap⟩:=ok'
 obtain⟨cl,hcl1,hcl2,hcl3⟩:=closure_ex (scope:=scope) (env:=X.env) (fun y hy e=>I.ok.has y.1 (by
  show X.env.scope.names.lookup y.1=_∨X.env.scope.names.lookup y.1=_
  rw[hs0]
  rcases hfree y hy with z|z
  ·exact absurd e z
  ·exact z))
 refine wpAny_comprehension_free rfl hfs hcl1 hk (fun y hy e=>by
  rcases hloc y hy with z|z
  ·exact absurd e z
  ·exact z) (wpAny_mono (hi pins s σ H _ I h) (fun v s1 h1=>wpAny_mono h1 (fun itv s2 h2=>?_) fun _ _ e=>e) fun _ _ e=>e)
 obtain⟨it,fp,tn,J,H2,e,I2,T,st2,f2,q2⟩:=h2
 subst e
 refine wpAny_newObj_type (newEnvC ?_)
 have I3:=cxC_inv I2 f2 (T.obj _ _ st2) hs0 hN ok hcl2 hcl3
 have eC:(s2.heap.push { cls:=.type "list",data:=.seq ([]:List Value).toArray }).objs.size=s2.heap.objs.size+1:=Heap.size_push ..
 show codeAny _ _ (.compStart (.ListComp elt [⟨tg,iter,ifs,0⟩] scope pos) 0 (.ref it) (.ref s2.heap.objs.size)
  (compEnvC scope (cellsFrom ((s2.heap.push { cls:=.type "list",data:=.seq ([]:List Value).toArray }).objs.size+1) scope.names cl) ((s2.heap.push { cls:=.type "list",data:=.seq ([]:List Value).toArray }).objs.size) X.env))
  (compPost _ _ _ use Qv (.ref s2.heap.objs.size) ((s2.heap.push { cls:=.type "list",data:=.seq ([]:List Value).toArray }).objs.size)) _
 rw[eC]
 have fpk:∀ H',(∀ b∈fp,H' b=none)→∀ b∈fp,FpOk (cxC X scope cl N s2 H2 fp) [] H' b:=fun H' hn b hb =>
  ⟨hn b hb,(I3.ok.exf b hb).1,I3.ok.exfs b hb,.inl hb,(I3.ok.exf b hb).2,fun p hp=>absurd (show p∈([]:List (Addr×Obj)) from hp) (by simp)⟩
 have fpLt:∀ b∈fp,b<s2.heap.objs.size:=fun b hb=>by
  obtain⟨o,e,_⟩:=T.obj _ _ st2 b hb
  exact Heap.lt_size e
 have k1:∀ b o,s2.heap.get? b=some o→(pushCells ((s2.heap.push { cls:=.type "list",data:=.seq ([]:List Value).toArray }).push { cls:=.type "dict",data:=.dict #[] }) scope.names).get? b=some o :=
  fun b o e=>pushCells_keeps _ _ b o (Heap.get?_push_of_some _ (Heap.get?_push_of_some _ e))
 have st3:=T.keep 0 s2.heap (pushCells ((s2.heap.push { cls:=.type "list",data:=.seq ([]:List Value).toArray }).push { cls:=.type "dict",data:=.dict #[] }) scope.names) st2 fun b _ o e=>k1 b o e
 have loop:=comp_turns (X:=cxC X scope cl N s2 H2 fp) (iter:=iter) (scope:=scope) (pos:=pos) (it:=it) (D:=s2.heap.objs.size) (R:=compPost (model X.prog X.w) X.A X.xe use Qv (.ref s2.heap.objs.size) (s2.heap.objs.size+1)) hc (fun _ _ f=>f) (hg cl s2 H2 fp) (ht cl s2 H2 fp) (he cl s2 H2 fp) T fpk I3 st3
  (fun b hb=>by rw[upd_ne (Nat.ne_of_lt (fpLt b hb))];exact (f2 b hb).1) (q2 _ (I2.hok.fresh (Nat.le_refl _))) (fun σ' H' s' J' q=>by
   obtain⟨m,hm,_⟩:=id J'.loc
   refine hend _ _ m H' s' (cxC_back I2 f2 J') hm J'.free ?_ ?_ ?_ ?_ q
   ·exact Nat.ne_of_gt (Nat.lt_succ_of_lt I2.lt)
   ·exact Nat.le_succ_of_le I2.sz
   ·intro x c e
    obtain⟨v,q⟩:=I2.cell x c e
    exact Nat.ne_of_lt (Nat.lt_succ_of_lt q.lt)
   ·intro p hp
    exact Nat.ne_of_lt (Nat.lt_succ_of_lt (Heap.lt_size (I2.pin p hp).1)))
 exact codeAny_compStart_list loop (T.self X.A 0 _ _ _ st3 loop)
theorem pe_comp{X:Cx}{sc0 scope:Scope}{N0 N:List Str}{cap:List (Option Nat)}{tg iter elt:Expr}{ifs:List Expr}{pos:Pos}{wi:TI}{g:TG}{tt:TT}{te:TE}
  (hc:X.calm=true) (hs0:X.env.scope=sc0) (hN:X.N=N0) (ok:compOk N0 sc0 scope N cap=true) (hi:PI X tg iter wi)
  (hg:∀ cl s H fp,PG (cxC X scope cl N s H fp) tg g) (ht:∀ cl s H fp,PIfs (cxC X scope cl N s H fp) ifs tt) (he:∀ cl s H fp,PE (cxC X scope cl N s H fp) elt te) (hfs:∀ x,foldedSetIterable iter X.env x=pure x:=by intro _;rfl) :
  PE X (.ListComp elt [⟨tg,iter,ifs,0⟩] scope pos) (tComp cap wi g tt te):=by
 intro pins s σ H Q I h
 rw[eval_ListComp]
 refine comp_core hc hs0 hN ok hi hg ht he hfs I h fun D C m H' s' J hm hC1 hC2 hC3 hC4 hC5 q=>⟨m,hm,fun h' hs=>?_⟩
 exact⟨.ref D,H',J.turned (t':=s'.toks) (fun b o hb e=>(hs.2 b hb).trans e) hC1 hC2 (.inr hC3) hC4 hC5,rfl,q⟩
theorem ps_setC{X:Cx}{sc0 scope:Scope}{N0 N:List Str}{cap:List (Option Nat)}{tg iter elt:Expr}{ifs:List Expr}{pos spos pos':Pos}{wi:TI}{g:TG}{tt:TT}{te:TE}{i:Nat}{x:Str}
  (hNd:X.N.Nodup) (hix:X.N[i]?=some x) (hx:X.env.scope.names.lookup x=some .local)
  (hc:X.calm=true) (hs0:X.env.scope=sc0) (hN:X.N=N0) (ok:compOk N0 sc0 scope N cap=true) (hi:PI X tg iter wi)
  (hg:∀ cl s H fp,PG (cxC X scope cl N s H fp) tg g) (ht:∀ cl s H fp,PIfs (cxC X scope cl N s H fp) ifs tt) (he:∀ cl s H fp,PE (cxC X scope cl N s H fp) elt te) (hfs:∀ x,foldedSetIterable iter X.env x=pure x:=by intro _;rfl)
  (hsw:swapsWith (.ListComp elt [⟨tg,iter,ifs,0⟩] scope pos) (some (.Name x pos')) spos.line X.env=pure true:=by rfl) :
  PS X (.Assign [.Name x pos'] (.ListComp elt [⟨tg,iter,ifs,0⟩] scope pos) spos) (tAsg (tComp cap wi g tt te) (gName i)):=by
 intro pins s σ H D I h
 rw[exec_Assign_Name_used _ _ _ _ hsw]
 refine wpAny_bind (wpAny_standAt (wpAny_bind ?_))
 show wpAny _ X.A (do let _ ← comprehension (.ListComp elt [⟨tg,iter,ifs,0⟩] scope pos) scope X.env _ (newList []) false (eval iter X.env) (some (assign (.Name x pos') X.env))) _ _ s
 refine wpAny_bind (wpAny_mono (comp_core (use:=some (assign (.Name x pos') X.env)) (Qv:=fun _ s'=>SP X pins D .next s') hc hs0 hN ok hi hg ht he hfs I h fun A C m H' s' J hm hC1 hC2 hC3 hC4 hC5 q=>?_) (fun _ s' hq=>wpAny_pure (wpAny_pure hq)) fun _ _ e=>e)
 show wpAny _ X.A (assign (.Name x pos') X.env (.ref A)) _ _ s'
 refine wpAny_assign_Name (store_ok2 (v:=.ref A) J hNd hix (.inl hx) rfl (fun s2 J2 hs2=>?_) (.inr hx))
 obtain⟨a,hs2,ha⟩:=hs2
 have hCa:C≠a:=by
  rcases ha with z|z
  ·rw[z];exact hC2
  ·exact fun e=>hC4 _ _ z e.symm
 refine⟨m,hm.sameBut hs2 hCa,fun h' hs=>?_⟩
 exact⟨_,H',J2.turned (t':=s2.toks) (fun b o hb e=>(hs.2 b hb).trans e) hC1 hC2 (.inr hC3) hC4 hC5,q⟩
end L2
end
section
namespace L2
open PySem PySem.Spec PyProof.Rows
structure FunD(K:W.Frag)(x qual:Str)(st:Stmt)(dV:Value)(f:Addr)(fd:FuncData):Prop where
 ex:∃ (oc:Value) (od:Option Addr) (kV doc pm:Value) (an:Option Addr) (cdv ct:Value) (osl:Array (Option Value)),
  fd=PySem.W.fnOf x qual (defArgs st) (defBody st) (defScope st) dV kV doc pm an cdv ct∧K.lookup f=some ⟨oc,od,.func fd,osl⟩∧PySem.W.codeIn K cdv qual=true
 kp:PySem.W.keepIn K (.ref f)=true
section
variable{P:Program}{w:World}{K:W.Frag}{mg:Str→Option Value}{base:Heap}{CX:CXT}
theorem FunD.ok{x qual:Str}{st:Stmt}{dV:Value}{f:Addr}{fd:FuncData}{N ps:List Str}{k:Nat}{sp:Sp}(F:FunD K x qual st dV f fd)(S:FnScope N ps (defScope st))(len:∀ vs H Q E,sp vs H Q E→vs.length=ps.length)
  (hbody:∀ (cdv:Value) (A:Around) (outer:List Env) (s:Shared) (H:Hp) (vs:List V) (Q:VK) (E:XK),Room k (A.deeper (envOfC qual (defScope st) s.heap.objs.size f cdv))→sp vs H Q E →
   ∃ t,PSs (cxOf CX P w K mg base N qual (defScope st) f cdv A outer s H E).nox (defBody st) t∧t { nx:=fun _ H'=>Q .non H',rt:=Q } (start N vs) H):FnOk P w K mg base CX (k+1) f fd ps sp:=by
 obtain⟨oc,od,kV,doc,pm,an,cdv,ct,osl,rfl,lk,hcd⟩:=F.ex
 refine fn_of lk hcd S len fun A outer s H vs Q E hr hsp=>?_
 obtain⟨t,h,q⟩:=hbody cdv A outer s H vs Q E hr hsp
 exact⟨t,h.nox,q⟩
end
structure Cal(P:Program)(w:World)(K:W.Frag)(mg:Str→Option Value)(base:Heap)(CX:CXT)(k:Nat)(x:Str)(ps:List Str)(dvs:List V)(sp:Sp):Prop where
 ex:∃ (f:Addr) (fd:FuncData) (ds:List Value),FnOk P w K mg base CX k f fd ps sp∧mg x=some (.ref f)∧PySem.W.keepIn K (.ref f)=true∧Binds K fd ps ds∧Vals dvs ds
structure Tx(K:W.Frag)(mg:Str→Option Value)(x:Str)(st:Stmt)(ps:List Str)(dvss:List (List V)):Prop where
 ex:∃ (dV:Value) (f:Addr) (fd:FuncData),FunD K x x st dV f fd∧mg x=some (.ref f)∧∀ dvs∈dvss,∃ ds,Binds K fd ps ds∧Vals dvs ds
theorem Cal.mono{P:Program}{w:World}{K:W.Frag}{mg:Str→Option Value}{base:Heap}{CX:CXT}{j k:Nat}{x:Str}{ps:List Str}{dvs:List V}{sp:Sp}(c:Cal P w K mg base CX j x ps dvs sp)(h:j≤k):Cal P w K mg base CX k x ps dvs sp :=
 let ⟨f,fd,ds,h1,h2⟩:=c.ex
 ⟨f,fd,ds,h1.mono h,h2⟩
theorem Tx.cal{P:Program}{w:World}{K:W.Frag}{mg:Str→Option Value}{base:Heap}{CX:CXT}{x:Str}{st:Stmt}{N ps:List Str}{dvss:List (List V)}{k:Nat}{sp:Sp}(T:Tx K mg x st ps dvss)(S:FnScope N ps (defScope st))
  (len:∀ vs H Q E,sp vs H Q E→vs.length=ps.length)
  (hbody:∀ (f:Addr) (cdv:Value) (A:Around) (outer:List Env) (s:Shared) (H:Hp) (vs:List V) (Q:VK) (E:XK),Room k (A.deeper (envOfC x (defScope st) s.heap.objs.size f cdv))→sp vs H Q E →
   ∃ t,PSs (cxOf CX P w K mg base N x (defScope st) f cdv A outer s H E).nox (defBody st) t∧t { nx:=fun _ H'=>Q .non H',rt:=Q } (start N vs) H) :
  ∀ dvs∈dvss,Cal P w K mg base CX (k+1) x ps dvs sp:=by
 obtain⟨dV,f,fd,F,m,b⟩:=T.ex
 intro dvs hd
 obtain⟨ds,b1,b2⟩:=b dvs hd
 exact⟨f,fd,ds,F.ok S len (fun cdv A outer s H vs Q E hr h=>hbody f cdv A outer s H vs Q E hr h),m,F.kp,b1,b2⟩
section
variable{X:Cx}{CX:CXT}{k:Nat}{ps:List Str}{sp:Sp}{dvs:List V}{E:XK}{x:Str}{p pos:Pos}{e:Expr}{es:List Expr}{t:TA}
theorem pe_cal(c:Cal X.prog X.w X.K X.mg X.base CX k x ps dvs sp)(hr:Room k X.A)(hg:Gl X x)(hx:Passes CX X E)(ha:PA X (e::es) t)(hdb:(x == ("__debug__" : Str))=false:=by decide)
  (he:starEach (e::es) X.env=(false,eval e X.env)::starEach es X.env:=by rfl) (hpl:(backTo pos (starEach es X.env)).any (·.1)=false:=by rfl) :
  PE X (.Call (.Name x p) (e::es) [] pos) (tCall sp dvs E t):=by
 obtain⟨f,fd,ds,h1,h2,h3,h4,h5⟩:=c.ex
 exact pe_call h1 hr hg h2 h3 h4 h5 hx ha hdb he hpl
end
section
variable{X:Cx}
noncomputable def clsV:V→Option Value
 | .ty n=>some (.type n)
 | .ref a=>some (.ref a)
 | _=>none
theorem clsV_rel{c:V}{cv u:Value}(h:clsV c=some cv)(r:RelV c u):u=cv:=by
 cases c<;>simp[clsV] at h
 ·subst h;exact r
 ·subst h;exact r
noncomputable def rIsi(K:W.Frag):List V→Hp→VK→Prop:=fun xs H Q=>∃ x c t cv b,xs=[x,c]∧clsV c=some cv∧TyOf K H x t∧PySem.W.kitOne K t cv=some b∧Q (.bl b) H
noncomputable def rLen(K:W.Frag):List V→Hp→VK→Prop:=fun xs H Q=>∃ p ys,xs=[.ref p]∧(SqL K H p ys∨SqT K H p ys)∧Q (.int ys.length) H
noncomputable def rTpl(K:W.Frag):List V→Hp→VK→Prop:=fun xs H Q=>∃ p ys,xs=[.ref p]∧((SqL K H p ys∧∀ l,H l=none→Q (.ref l) (upd H l (.tup ys)))∨(SqT K H p ys∧Q (.ref p) H))
theorem call_lenS:CallR X (.builtin "len") (rLen X.K):=call_len_seq
theorem call_tupS:CallR X (.type "tuple") (rTpl X.K):=call_tuple_of
theorem call_isiS:CallR X (.builtin "isinstance") (rIsi X.K):=by
 intro pins s σ H xs us Q I r h
 obtain⟨x,c,t,cv,b,rfl,hc,ty,e,q⟩:=h
 obtain⟨u,w',rfl,r1,r2⟩:=vals2 r
 rw[clsV_rel hc r2]
 exact isinst_ok I r1 ty e fun tk=>⟨.bl b,H,I.tok tk,rfl,q⟩
end
section
variable{X:Cx}
end
noncomputable def XObj(ea:Addr)(c:Value)(d:Option Addr):Heap→Prop:=fun h=>∃ o vs,h.get? ea=some o∧o.cls=c∧o.dict=d∧o.data=.fields vs
noncomputable def hX(ea:Addr)(c:Value)(d:Option Addr):HO:=.ext (XObj ea c d)
noncomputable def XDct(d:Addr)(fs:List (Str×V)):Heap→Prop:=fun h=>∃ mA,h.Ns1 d mA∧(∀ f,RelO (fs.lookup f) (mA f))∧PySem.Within mA (fs.map (·.1))
noncomputable def hXD(d:Addr)(fs:List (Str×V)):HO:=.ext (XDct d fs)
noncomputable def keyD:Key→PyData
 | .inl i=>.int i
 | .inr x=>.str x
noncomputable abbrev dJ:PyData:=.dict [(.none,.none)]
mutual
inductive Rep(K:W.Frag)(H:Hp):V→PyData→Prop
 | non:Rep K H .non .none
 | bl (b:Bool):Rep K H (.bl b) (.bool b)
 | int (i:Int):Rep K H (.int i) (.int i)
 | str (x:Str):Rep K H (.str x) (.str x)
 | lst {a:Addr} {xs:List V} {ds:List PyData}:SqL K H a xs→Reps K H xs ds→Rep K H (.ref a) (.list ds)
 | tup {a:Addr} {xs:List V} {ds:List PyData}:H a=some (.tup xs)→Reps K H xs ds→Rep K H (.ref a) (.tuple ds)
 | exc {ea C:Addr} {kvs:List (PyData×PyData)}:H ea=some (hX ea (.ref C) none)→kvs=[(.none,.int C)]→Rep K H (.ref ea) (.dict kvs)
 | excF {ea C a:Addr} {vs:List (Str×V)} {ds:List PyData} {kvs:List (PyData×PyData)}:H ea=some (hX ea (.ref C) (some a))→H a=some (hXD a vs)→Reps K H (vs.map Prod.snd) ds→kvs=(.none,.int C)::(vs.map fun p=>PyData.str p.1).zip ds→Rep K H (.ref ea) (.dict kvs)
 | dK {a:Addr} {ks:List (Key×V)} {ds:List PyData} {kvs:List (PyData×PyData)}:Rd H a (.dK ks)→Reps K H (ks.map Prod.snd) ds→kvs=(ks.map fun p=>keyD p.1).zip ds→Rep K H (.ref a) (.dict kvs)
 | dT {a:Addr} {ks:List (List Key×V)} {ds:List PyData} {kvs:List (PyData×PyData)}:Rd H a (.dT ks)→Reps K H (ks.map Prod.snd) ds→kvs=(ks.map fun p=>PyData.tuple (p.1.map keyD)).zip ds→Rep K H (.ref a) (.dict kvs)
 | dN {a:Addr} {ks:List ((Key×List Key)×V)} {ds:List PyData} {kvs:List (PyData×PyData)}:ks≠[]→Rd H a (.dN ks)→Reps K H (ks.map Prod.snd) ds→kvs=(ks.map fun p=>PyData.tuple [keyD p.1.1,.tuple (p.1.2.map keyD)]).zip ds→Rep K H (.ref a) (.dict kvs)
 | junk {v:V}:Rep K H v dJ
inductive Reps(K:W.Frag)(H:Hp):List V→List PyData→Prop
 | nil:Reps K H [] []
 | cons {x:V} {d:PyData} {xs:List V} {ds:List PyData}:Rep K H x d→Reps K H xs ds→Reps K H (x::xs) (d::ds)
end
theorem zipK_ne{ks:List (Key×V)}{ds:List PyData}{y:PyData}{r:List (PyData×PyData)}:(.none,y)::r≠(ks.map fun p=>keyD p.1).zip ds:=by
 cases ks with
 | nil=>simp
 | cons k ks=>cases ds with
  | nil=>simp
  | cons d ds =>
   intro z
   have:=congrArg Prod.fst (List.cons.inj z).1
   obtain⟨k|k,v⟩:=k<;>cases this
theorem zipT_ne{ks:List (List Key×V)}{ds:List PyData}{y:PyData}{r:List (PyData×PyData)}:(.none,y)::r≠(ks.map fun p=>PyData.tuple (p.1.map keyD)).zip ds:=by
 cases ks with
 | nil=>simp
 | cons k ks=>cases ds with
  | nil=>simp
  | cons d ds =>
   intro z
   have:=congrArg Prod.fst (List.cons.inj z).1
   cases this
theorem zipN_ne{ks:List ((Key×List Key)×V)}{ds:List PyData}{y:PyData}{r:List (PyData×PyData)}:(.none,y)::r≠(ks.map fun p=>PyData.tuple [keyD p.1.1,.tuple (p.1.2.map keyD)]).zip ds:=by
 cases ks with
 | nil=>simp
 | cons k ks=>cases ds with
  | nil=>simp
  | cons d ds =>
   intro z
   have:=congrArg Prod.fst (List.cons.inj z).1
   cases this
section
variable{X:Cx}{pins:List (Addr×Obj)}{σ:St}{H H':Hp}{s:Shared}{K:W.Frag}
theorem Rep.indF{K:W.Frag}{H:Hp}{M:V→PyData→Prop}{N:List V→List PyData→Prop}(h1:M .non .none)(h2:∀ b,M (.bl b) (.bool b))(h3:∀ i,M (.int i) (.int i))(h4:∀ x,M (.str x) (.str x))
  (h5:∀ {a xs ds},SqL K H a xs→N xs ds→M (.ref a) (.list ds)) (h6:∀ {a xs ds},H a=some (.tup xs)→N xs ds→M (.ref a) (.tuple ds)) (h7:∀ v l,M v (.dict l)) (n:N [] []) (c:∀ {x d xs ds},M x d→N xs ds→N (x::xs) (d::ds)):(∀ {v d},Rep K H v d→M v d)∧∀ {vs ds},Reps K H vs ds→N vs ds :=
 ⟨fun h=>Rep.rec (motive_1:=fun v d _=>M v d) (motive_2:=fun v d _=>N v d) h1 h2 h3 h4 (fun h _=>h5 h) (fun h _=>h6 h) (fun _ _=>h7 _ _) (fun _ _ _ _ _=>h7 _ _) (fun _ _ _ _=>h7 _ _) (fun _ _ _ _=>h7 _ _) (fun _ _ _ _ _=>h7 _ _) (h7 _ _) n (fun _ _=>c) h,
  fun h=>Reps.rec (motive_1:=fun v d _=>M v d) (motive_2:=fun v d _=>N v d) h1 h2 h3 h4 (fun h _=>h5 h) (fun h _=>h6 h) (fun _ _=>h7 _ _) (fun _ _ _ _ _=>h7 _ _) (fun _ _ _ _=>h7 _ _) (fun _ _ _ _=>h7 _ _) (fun _ _ _ _ _=>h7 _ _) (h7 _ _) n (fun _ _=>c) h⟩
theorem Rep.reads(I:Inv X pins σ H s){v:V}{d:PyData}{u:Value}(hn:d.canLay0=true)(h:Rep X.K H v d)(r:RelV v u):∃ as,Reads s.heap u d as:=by
 refine (Rep.indF (M:=fun v d=>∀ u,d.canLay0=true→RelV v u→∃ as,Reads s.heap u d as) (N:=fun vs ds=>∀ us,PyData.canLayAll0 ds=true→Vals vs us→∃ as,ReadsAll s.heap us ds as) ?_ ?_ ?_ ?_ ?_ ?_ ?_ ?_ ?_).1 h u hn r
 ·intro u _ r;cases (show u=Value.none from r);exact⟨_,Reads.none⟩
 ·intro b u _ r;cases (show u=Value.bool b from r);exact⟨_,Reads.bool b⟩
 ·intro i u _ r;obtain⟨t,q⟩:=(show ∃ t,u=Value.int i t from r);cases q;exact⟨_,Reads.int i t⟩
 ·intro x u _ r;obtain⟨t,q⟩:=(show ∃ t,u=Value.str x t from r);cases q;exact⟨_,Reads.str x t⟩
 ·intro a xs ds h ih u hn r
  cases (show u=Value.ref a from r)
  obtain⟨its,rv,p,_⟩:=I.list h
  obtain⟨as,q⟩:=ih _ (by simpa [PyData.canLay0] using hn) rv
  obtain⟨o,h1,h2,n,h3⟩:=p.isList
  exact⟨_,Reads.list h1 h2 h3 (by simpa using q)⟩
 ·intro a xs ds h ih u hn r
  cases (show u=Value.ref a from r)
  obtain⟨its,rv,p,_⟩:=I.tuple (SqT.of h)
  obtain⟨as,q⟩:=ih _ (by simpa [PyData.canLay0] using hn) rv
  obtain⟨o,h1,h2,n,h3⟩:=p
  exact⟨_,Reads.tuple h1 h2 h3 (by simpa using q)⟩
 ·intro v l u hn;simp[PyData.canLay0] at hn
 ·intro us _ q;cases q;exact⟨_,ReadsAll.nil⟩
 ·intro x d xs ds i1 i2 us hn q
  simp only[PyData.canLayAll0,Bool.and_eq_true] at hn
  cases q with
  | cons q qs =>
   obtain⟨as,h1⟩:=i1 _ hn.1 q
   obtain⟨bs,h2⟩:=i2 _ hn.2 qs
   exact⟨_,ReadsAll.cons h1 h2⟩
theorem Same.rd(e:Same H H'){a:Addr}{u:HO}(h:Rd H a u):Rd H' a u:=h.imp (fun h=>e _ _ h) fun⟨o,h⟩=>⟨o,e _ _ h⟩
theorem Same.tupS(e:Same H H'){a:Addr}{xs:List V}(h:SqT K H a xs):SqT K H' a xs:=by
 rcases h with (h|⟨o,h⟩)|h
 ·exact .inl (.inl (e _ _ h))
 ·exact .inl (.inr ⟨o,e _ _ h⟩)
 ·exact .inr h
noncomputable def Low(G G':Hp):Prop:=∀ b o,G b=some o→(∀ ob c,o≠.frz ob (.own c))→G' b=some o
theorem Low.rd(e:Low H H'){a:Addr}{u:HO}(n:∀ ob c,u≠.frz ob (.own c))(n2:∀ c,u≠.own c)(h:Rd H a u):Rd H' a u:=h.imp (fun h=>e _ _ h n) fun⟨o,h⟩=>⟨o,e _ _ h fun ob c z=>by cases z;exact n2 _ rfl⟩
theorem Low.seq(e:Low H H'){a:Addr}{xs:List V}(h:SqL K H a xs):SqL K H' a xs:=by
 rcases h with (h|⟨o,h⟩)|h
 ·exact .inl (.inl (e _ _ h fun _ _ z=>by cases z))
 ·exact .inl (.inr ⟨o,e _ _ h fun _ _ z=>by cases z⟩)
 ·exact .inr h
theorem Rep.low(e:Low H H'){v:V}{d:PyData}(h:Rep K H v d):Rep K H' v d :=
 Rep.rec (motive_1:=fun v d _=>Rep K H' v d) (motive_2:=fun v d _=>Reps K H' v d) .non .bl .int .str (fun h _ i=>.lst (e.seq h) i) (fun h _ i=>.tup (e _ _ h (by intro _ _ z;cases z)) i) (fun h z=>.exc (e _ _ h (by intro _ _ z;cases z)) z) (fun h k _ z i=>.excF (e _ _ h (by intro _ _ z;cases z)) (e _ _ k (by intro _ _ z;cases z)) i z)
  (fun h _ z i=>.dK (e.rd (by intro _ _ z;cases z) (by intro _ z;cases z) h) i z) (fun h _ z i=>.dT (e.rd (by intro _ _ z;cases z) (by intro _ z;cases z) h) i z) (fun n h _ z i=>.dN n (e.rd (by intro _ _ z;cases z) (by intro _ z;cases z) h) i z) .junk .nil (fun _ _=>.cons) h
theorem Reps.imp(f:∀ {v d},Rep K H v d→Rep K H' v d):∀ {vs:List V} {ds:List PyData},Reps K H vs ds→Reps K H' vs ds
 | _,_,.nil=>.nil
 | _,_,.cons r rs=>.cons (f r) (Reps.imp f rs)
theorem Reps.low(e:Low H H'){vs:List V}{ds:List PyData}(h:Reps K H vs ds):Reps K H' vs ds:=Reps.imp (fun r=>r.low e) h
theorem Rep.same(e:Same H H'){v:V}{d:PyData}(h:Rep K H v d):Rep K H' v d:=h.low fun b o z _=>e b o z
theorem Reps.same(e:Same H H'){vs:List V}{ds:List PyData}(h:Reps K H vs ds):Reps K H' vs ds:=Reps.imp (fun r=>r.same e) h
theorem Reps.length:∀ {vs:List V} {ds:List PyData},Reps K H vs ds→vs.length=ds.length
 | _,_,.nil=>rfl
 | _,_,.cons _ rs=>by rw[List.length_cons,List.length_cons,Reps.length rs]
theorem Reps.get:∀ {vs:List V} {ds:List PyData} {i:Nat} {d:PyData},Reps K H vs ds→ds[i]?=some d→∃ v,vs[i]?=some v∧Rep K H v d
 | _,_,i,d,.nil,e=>by simp at e
 | _,_,0,d,.cons r _,e=>by simp at e;subst e;exact⟨_,rfl,r⟩
 | _,_,i+1,d,.cons _ rs,e=>by
  obtain⟨v,h1,h2⟩:=Reps.get (i:=i) rs (by simpa using e)
  exact⟨v,by simpa using h1,h2⟩
theorem Reps.append:∀ {vs ws:List V} {ds es:List PyData},Reps K H vs ds→Reps K H ws es→Reps K H (vs++ws) (ds++es)
 | _,_,_,_,.nil,h=>h
 | _,_,_,_,.cons r rs,h=>.cons r (Reps.append rs h)
theorem Reps.ints(ns:List Int):Reps K H (ns.map V.int) (ns.map PyData.int):=by
 induction ns with
 | nil=>exact .nil
 | cons n ns ih=>exact .cons (.int n) ih
theorem same_new{p:Addr}{o:HO}(h:H p=none):Same H (upd H p o):=fun b u e=>by rw[upd_ne (ne_of_none e h)];exact e
noncomputable def dOk(d:PyData):Prop:=SeqAt.shaped d=true
noncomputable def rEqD(K:W.Frag):R2:=fun x y H Q=>∃ d e,Rep K H x d∧Rep K H y e∧dOk d∧dOk e∧Q (.bl (PyData.eqv d e)) H
noncomputable def rNeD(K:W.Frag):R2:=fun x y H Q=>∃ d e,Rep K H x d∧Rep K H y e∧dOk d∧dOk e∧Q (.bl (!PyData.eqv d e)) H
theorem op_eqD(hu:X.A.units+64<cLine):OpR X (compareOp .Eq) (rEqD X.K):=by
 intro pins s σ H x y v u Q I rx ry h
 obtain⟨d,e,h1,h2,h3,h4,q⟩:=h
 obtain⟨as,k1⟩:=Rep.reads I (SeqAt.canLay_of_shaped h3) h1 rx
 obtain⟨bs,k2⟩:=Rep.reads I (SeqAt.canLay_of_shaped h4) h2 ry
 exact eq_dataH k1 k2 h3 h4 hu ⟨.bl _,H,I,rfl,q⟩
theorem op_neD(hu:X.A.units+64<cLine):OpR X (compareOp .NotEq) (rNeD X.K):=by
 intro pins s σ H x y v u Q I rx ry h
 obtain⟨d,e,h1,h2,h3,h4,q⟩:=h
 obtain⟨as,k1⟩:=Rep.reads I (SeqAt.canLay_of_shaped h3) h1 rx
 obtain⟨bs,k2⟩:=Rep.reads I (SeqAt.canLay_of_shaped h4) h2 ry
 exact ne_dataH k1 k2 h3 h4 hu ⟨.bl _,H,I,rfl,q⟩
end
structure Enc{α:Type}(f:α→PyData)(n:Nat):Prop where
 eqv:∀ a b,PyData.eqv (f a) (f b)=true↔a=b
 lay:∀ a,(f a).canLay0=true
 dep:∀ a,(f a).depth≤n
theorem Enc.ok{α:Type}{f:α→PyData}{n:Nat}(E:Enc f n)(hn:n≤32)(a:α):dOk (f a):=by
 unfold dOk SeqAt.shaped
 rw[E.lay a,Bool.true_and]
 exact decide_eq_true (Nat.le_trans (E.dep a) (Nat.le_trans hn (by decide)))
theorem eqvAll_map{α:Type}{f:α→PyData}(h:∀ a b,PyData.eqv (f a) (f b)=true↔a=b):∀ xs ys:List α,PyData.eqvAll (xs.map f) (ys.map f)=true↔xs=ys
 | [],[]=>by simp[PyData.eqvAll]
 | [],_::_=>by simp[PyData.eqvAll]
 | _::_,[]=>by simp[PyData.eqvAll]
 | x::xs,y::ys=>by simp[PyData.eqvAll,h x y,eqvAll_map h xs ys]
theorem layAll_map{α:Type}{f:α→PyData}(h:∀ a,(f a).canLay0=true):∀ xs:List α,PyData.canLayAll0 (xs.map f)=true
 | []=>rfl
 | x::xs=>by simp[PyData.canLayAll0,h x,layAll_map h xs]
theorem depAll_map{α:Type}{f:α→PyData}{n:Nat}(h:∀ a,(f a).depth≤n):∀ xs:List α,PyData.depthAll (xs.map f)≤n
 | []=>Nat.zero_le _
 | x::xs=>by
  have h1:=h x
  have h2:=depAll_map h xs
  simp only[List.map_cons,PyData.depthAll]
  omega
theorem Enc.list{α:Type}{f:α→PyData}{n:Nat}(E:Enc f n):Enc (fun xs:List α=>PyData.list (xs.map f)) (n+1) :=
 ⟨fun a b=>by simp only[PyData.eqv];exact eqvAll_map E.eqv a b,fun a=>by simp only[PyData.canLay0];exact layAll_map E.lay a,fun a=>by simp only[PyData.depth];have:=depAll_map E.dep a;omega⟩
theorem Enc.dec{α:Type}{f:α→PyData}{n:Nat}[DecidableEq α](E:Enc f n)(a b:α):PyData.eqv (f a) (f b)=decide (a=b):=by
 by_cases h:a=b
 ·rw[decide_eq_true h];exact (E.eqv a b).mpr h
 ·rw[decide_eq_false h];exact Bool.eq_false_iff.mpr fun z=>h ((E.eqv a b).mp z)
end L2
end
section
namespace L2
open PySem PySem.Spec PyProof.Rows
theorem pe_cst{X:Cx}{x:Str}{i:Int}{pos:Pos}(hm:∃ t,X.mg x=some (.int i t))(hg:Gl X x)(hd:(x == ("__debug__" : Str))=false:=by decide):PE X (.Name x pos) (tC (.int i)):=by
 obtain⟨t,h⟩:=hm
 exact pe_glob hg h ⟨t,rfl⟩ hd
section
variable{σ:St}{H:Hp}{Q:VK}{v:V}{ta tb te:TE}{nx bk ct:St→Hp→Prop}{rt:VK}{t u:TS}{i j:Int}
theorem rd_eqI(h:Q (.bl (decide (i=j))) H):rEq (.int i) (.int j) H Q:=⟨rfl,by have e:decide (V.int i=V.int j)=decide (i=j):=by { by_cases z:i=j<;>simp[z] };rw[e];exact h⟩
theorem rd_neI(h:Q (.bl (!decide (i=j))) H):rNe (.int i) (.int j) H Q:=⟨rfl,by have e:decide (V.int i=V.int j)=decide (i=j):=by { by_cases z:i=j<;>simp[z] };rw[e];exact h⟩
theorem rd_tyL{K:W.Frag}{a:Addr}{xs:List V}{P:Prop}(h:H a=some (.lst xs))(q:P):tyV K "list" (.ref a) H∧P:=⟨.inl ⟨rfl,xs,SqL.of h⟩,q⟩
end
end L2
end
section
namespace L2
open PySem PySem.Spec PyProof.Rows
section
variable{K:W.Frag}{h:Heap}{mg:Str→Option Value}
theorem tx_mk{x:Str}{st:Stmt}{ps:List Str}{f:Addr}{oc kV doc pm cd ct:Value}{od an:Option Addr}{sl:Array (Option Value)}(X:K.In h)(G:h.Ns mainGlobals mg)
  (a:PySem.W.nsIn K mainGlobals x=some (some (.ref f))) (l:K.lookup f=some ⟨oc,od,.func (PySem.W.fnOf x x (defArgs st) (defBody st) (defScope st) .none kV doc pm an cd ct),sl⟩)
  (c:PySem.W.codeIn K cd x=true) (k:PySem.W.keepIn K (.ref f)=true)
  (hb:∀ (us:List Value),us.length=ps.length→bindArgs (PySem.W.fnOf x x (defArgs st) (defBody st) (defScope st) .none kV doc pm an cd ct) ⟨us,[]⟩=pure (ps.zip us)):Tx K mg x st ps [[]] :=
 ⟨.none,f,_,⟨⟨oc,od,kV,doc,pm,an,cd,ct,sl,rfl,l,c⟩,k⟩,PySem.W.mg_of X G a,fun dvs hd=>by
  have e:dvs=[]:=by simpa using hd
  subst e
  exact⟨[],.all hb,.nil⟩⟩
theorem tx_mkD{x:Str}{st:Stmt}{ps:List Str}{f Tt:Addr}{oc kV doc pm cd ct oc':Value}{od an od':Option Addr}{sl sl':Array (Option Value)}{i:Int}{tk:Tok}{n:Nat}(X:K.In h)(G:h.Ns mainGlobals mg)
  (a:PySem.W.nsIn K mainGlobals x=some (some (.ref f))) (l:K.lookup f=some ⟨oc,od,.func (PySem.W.fnOf x x (defArgs st) (defBody st) (defScope st) (.ref Tt) kV doc pm an cd ct),sl⟩)
  (d:K.lookup Tt=some ⟨oc',od',.seq #[.int i tk] n,sl'⟩) (c:PySem.W.codeIn K cd x=true) (k:PySem.W.keepIn K (.ref f)=true)
  (hb:∀ (s:Shared) (us:List Value),K.In s.heap→us.length=ps.length→BindsTo s (PySem.W.fnOf x x (defArgs st) (defBody st) (defScope st) (.ref Tt) kV doc pm an cd ct) ⟨us,[]⟩ (ps.zip us))
  (hb2:∀ (s:Shared) (us:List Value),K.In s.heap→us.length+1=ps.length→BindsTo s (PySem.W.fnOf x x (defArgs st) (defBody st) (defScope st) (.ref Tt) kV doc pm an cd ct) ⟨us,[]⟩ (ps.zip (us++[.int i tk]))):Tx K mg x st ps [[],[.int i]] :=
 ⟨.ref Tt,f,_,⟨⟨oc,od,kV,doc,pm,an,cd,ct,sl,rfl,l,c⟩,k⟩,PySem.W.mg_of X G a,fun dvs hd=>by
  rcases List.mem_cons.mp hd with e|hd
  ·subst e
   exact⟨[],fun s us KX hl=>by rw[List.append_nil] at hl ⊢;exact hb s us KX hl,.nil⟩
  ·have e:dvs=[.int i]:=by simpa using hd
   subst e
   exact⟨[.int i tk],fun s us KX hl=>hb2 s us KX (by simpa using hl),.cons ⟨tk,rfl⟩ .nil⟩⟩
theorem cst_mk{x:Str}{i:Int}{t:Tok}(X:K.In h)(G:h.Ns mainGlobals mg)(a:PySem.W.nsIn K mainGlobals x=some (some (.int i t))):∃ t,mg x=some (.int i t):=⟨t,PySem.W.mg_of X G a⟩
end
end L2
end
section
namespace L2
open PySem PySem.Spec PyProof.Rows
theorem rd_eqD{α:Type}[DecidableEq α]{f:α→PyData}{n:Nat}{K:W.Frag}{H:Hp}{x y:V}{a b:α}{Q:VK}(E:Enc f n)(h1:Rep K H x (f a))(h2:Rep K H y (f b))(q:Q (.bl (decide (a=b))) H)(hn:n≤32:=by decide):rEqD K x y H Q :=
 ⟨_,_,h1,h2,E.ok hn a,E.ok hn b,by rw[E.dec];exact q⟩
theorem rd_neD{α:Type}[DecidableEq α]{f:α→PyData}{n:Nat}{K:W.Frag}{H:Hp}{x y:V}{a b:α}{Q:VK}(E:Enc f n)(h1:Rep K H x (f a))(h2:Rep K H y (f b))(q:Q (.bl (!decide (a=b))) H)(hn:n≤32:=by decide):rNeD K x y H Q :=
 ⟨_,_,h1,h2,E.ok hn a,E.ok hn b,by rw[E.dec];exact q⟩
theorem iteN{c A B:Prop}[Decidable c](hc:¬ c)(h:B):if decide c=true then A else B:=by
 rw[decide_eq_false hc]
 exact iteF h
theorem Rep.ints{K:W.Frag}{H:Hp}{a:Addr}{ns:List Int}(h:SqL K H a (ns.map V.int)):Rep K H (.ref a) (PyData.list (ns.map PyData.int)):=.lst h (Reps.ints ns)
end L2
end
section
namespace L2
open PySem PySem.Spec PyProof.Rows
section
variable{K:W.Frag}{H H':Hp}{v x:V}{Q:VK}{k i:Int}{d:PyData}{ds:List PyData}
theorem Rep.int_inv(h:Rep K H v (.int i)):v=.int i:=by cases h;rfl
theorem Rep.list_inv(h:Rep K H v (.list ds)):∃ a xs,v=.ref a∧SqL K H a xs∧Reps K H xs ds:=by
 cases h with
 | lst h r=>exact⟨_,_,rfl,h,r⟩
theorem Rep.tuple_inv(h:Rep K H v (.tuple ds)):∃ a xs,v=.ref a∧SqT K H a xs∧Reps K H xs ds:=by
 cases h with
 | tup h r=>exact⟨_,_,rfl,SqT.of h,r⟩
theorem Rep.tuple_at(h:Rep K H v (.tuple ds)):∃ a xs,v=.ref a∧H a=some (.tup xs)∧Reps K H xs ds:=by
 cases h with
 | tup h r=>exact⟨_,_,rfl,h,r⟩
theorem atI_of{α:Type}{xs:List α}{y:α}(h0:0≤k)(h:xs[k.toNat]?=some y):atI xs k=some y:=by
 obtain⟨j,rfl⟩:∃ j:Nat,k=j:=⟨k.toNat,by omega⟩
 exact atI_nat (by simpa using h)
theorem rd_lenRL(h:Rep K H x (.list ds))(q:Q (.int ds.length) H):rLen K [x] H Q:=by
 obtain⟨a,xs,rfl,h1,h2⟩:=h.list_inv
 exact⟨a,xs,rfl,.inl h1,by rw[h2.length];exact q⟩
mutual
noncomputable def noLst:PyData→Bool
 | .none=>true
 | .bool _=>true
 | .int _=>true
 | .str _=>true
 | .list _=>false
 | .tuple ds=>noLsts ds
 | .dict _=>false
noncomputable def noLsts:List PyData→Bool
 | []=>true
 | d::ds=>noLst d && noLsts ds
end
theorem noLsts_ints:∀ ns:List Int,noLsts (ns.map PyData.int)=true
 | []=>rfl
 | n::ns=>by simp[noLsts,noLst,noLsts_ints ns]
theorem noLsts_map{α:Type}{f:α→PyData}(h:∀ a,noLst (f a)=true):∀ xs:List α,noLsts (xs.map f)=true
 | []=>rfl
 | x::xs=>by simp[noLsts,h x,noLsts_map h xs]
theorem Same.updF{D:Addr}{o:HO}(s:Same H H')(hD:H D=none):Same H (upd H' D o):=fun b u e=>by rw[upd_ne (ne_of_none e hD)];exact s b u e
noncomputable def dI(ns:List Int):PyData:=.list (ns.map .int)
noncomputable def tI(ns:List Int):PyData:=.tuple (ns.map .int)
end
end L2
end
section
namespace L2
open PySem PySem.Spec PyProof.Rows
noncomputable def lig(b:Int):Nat→Int→List Int
 | 0,_=>[]
 | f+1,n=>if 0<n then (n%b)::lig b f (n / b) else []
theorem div_lt{b n:Int}(hb:2≤b)(hb':b≤5)(hn:0<n):0≤n / b∧n / b<n∧2*(n / b)≤n:=by
 have:b=2∨b=3∨b=4∨b=5:=by omega
 rcases this with rfl|rfl|rfl|rfl<;>omega
theorem lig_eq{b:Int}(hb:2≤b)(hb':b≤5):∀ (f g:Nat) (n:Int),n.toNat≤f→n.toNat≤g→lig b f n=lig b g n
 | 0,0,_,_,_=>rfl
 | 0,g+1,n,h,_=>by
  have:¬ 0<n:=by omega
  simp only[lig,if_neg this]
 | f+1,0,n,_,h=>by
  have:¬ 0<n:=by omega
  simp only[lig,if_neg this]
 | f+1,g+1,n,h1,h2=>by
  by_cases h:0<n
  ·simp only[lig,if_pos h]
   have:=div_lt hb hb' h
   rw[lig_eq hb hb' f g (n / b) (by omega) (by omega)]
  ·simp only[lig,if_neg h]
noncomputable def dig(b n:Int):List Int:=lig b n.toNat n
theorem dig_pos{b n:Int}(hb:2≤b)(hb':b≤5)(h:0<n):dig b n=n%b::dig b (n / b):=by
 unfold dig
 obtain⟨k,hk⟩:∃ k,n.toNat=k+1:=⟨n.toNat-1,by omega⟩
 have:=div_lt hb hb' h
 rw[hk,lig,if_pos h,lig_eq hb hb' k (n / b).toNat (n / b) (by omega) (Nat.le_refl _)]
theorem dig_zero{b n:Int}(h:¬ 0<n):dig b n=[]:=by
 unfold dig
 have:n.toNat=0:=by omega
 rw[this,lig]
noncomputable def figs(b n:Int):List Int:=(dig b n).reverse
noncomputable def Lig(b n:Int)(ds:List Int)(r:Int):Prop:=0≤r∧ds++dig b r=dig b n∧∃ k,r.toNat<2 ^ k∧ds.length+k=900
theorem Lig.start{b n:Int}(h0:0≤n)(h1:n.toNat<2 ^ 900):Lig b n [] n:=⟨h0,rfl,900,h1,rfl⟩
theorem Lig.step{b n r:Int}{ds:List Int}(hb:2≤b)(hb':b≤5)(L:Lig b n ds r)(h:0<r):Lig b n (ds++[r%b]) (r / b)∧ds.length<900∧(r / b).toNat<r.toNat:=by
 obtain⟨h0,h1,k,h2,h3⟩:=L
 have hd:=div_lt hb hb' h
 match k,h2,h3 with
 | 0,h2,_=>simp at h2;omega
 | k+1,h2,h3 =>
  rw[Nat.pow_succ] at h2
  refine⟨⟨hd.1,?_,k,by omega,by simp;omega⟩,by omega,by omega⟩
  rw[List.append_assoc,← h1,dig_pos hb hb' h]
  rfl
theorem Lig.done{b n r:Int}{ds:List Int}(L:Lig b n ds r)(h:¬ 0<r):ds=dig b n∧ds.length≤900:=by
 obtain⟨h0,h1,k,h2,h3⟩:=L
 rw[dig_zero h,List.append_nil] at h1
 exact⟨h1,by omega⟩
noncomputable def cat(ns:List Int)(k:Int):Int:=if k<ns.length then ns.getD k.toNat 0 else 0
noncomputable def sprd(ns:List Int)(k:Int):Int:=(cat ns k%1000000007*48271+(k+3)*(k+5)*69621)%2147483647*16807%2147483629
theorem sprd_range(ns:List Int)(k:Int):0≤sprd ns k∧sprd ns k<2147483629:=⟨Int.emod_nonneg _ (by decide),Int.emod_lt_of_pos _ (by decide)⟩
end L2
end
section
namespace L2
open PySem PySem.Spec PyProof.Rows
section
variable{X:Cx}{K:W.Frag}
theorem call_tupK(h:X.K=K):CallR X (.type "tuple") (rTpl K):=h▸call_tupS
theorem op_catTK(h:X.K=K):OpR X (binaryOp .Add) (rCatT K):=h▸op_catT
theorem op_eqDK(h:X.K=K)(hu:X.A.units+64<cLine):OpR X (compareOp .Eq) (rEqD K):=h▸op_eqD hu
theorem op_neDK(h:X.K=K)(hu:X.A.units+64<cLine):OpR X (compareOp .NotEq) (rNeD K):=h▸op_neD hu
theorem pg_tupK{es:List Expr}{k:Nat}{t:TGs}{n:Nat}{pos:Pos}(h:X.K=K)(hc:X.calm=true)(hg:PGs X es t)(hn:(assignEach es X.env).length=n:=by rfl)(hst:(assignEach es X.env).findIdx? (·.1)=none:=by rfl):PG X (.Tuple es k pos) (gTup K n t):=h▸pg_tup hc hg hn hst
variable{o e:Expr}{es:List Expr}{to:TE}{t:TA}{name:Str}{apos cpos:Pos}{T id:String}{r:V→List V→Hp→VK→Prop}
theorem pe_bm0K(h:X.K=K)(pa:PlainAttrs T)(slot:Slot T name id)(hty:typeOf (.builtin id)=pure (.type "method_descriptor"))(hm:MtR X id r)(ho:PE X o to)
  (hbase:attributeBase o name X.env (eval o X.env)=eval o X.env:=by rfl) (hline:(apos.endLine == cpos.line)=true:=by rfl):PE X (.Call (.Attribute o name apos) [] [] cpos) (tBM0 K T r to):=h▸pe_bm0 pa slot hty hm ho hbase hline
theorem pe_bmK(h:X.K=K)(pa:PlainAttrs T)(slot:Slot T name id)(hty:typeOf (.builtin id)=pure (.type "method_descriptor"))(hm:MtR X id r)(ho:PE X o to)(ha:PA X (e::es) t)
  (hbase:attributeBase o name X.env (eval o X.env)=eval o X.env:=by rfl)
  (hfew:((backTo cpos (starEach (e::es) X.env)).all (fun x=>!x.1) && (backToKw cpos (keywordEach [] X.env)).all (fun x=>x.1.isSome)
   && decide ((e::es).length+([]:List Keyword).length+(if ([]:List Keyword).isEmpty then 0 else 1)<30))=true:=by rfl)
  (hline:(apos.endLine == cpos.line)=true:=by rfl) (hs:starEach (e::es) X.env=(false,eval e X.env)::starEach es X.env:=by rfl) (hplain:(backTo cpos (starEach es X.env)).any (·.1)=false:=by rfl) :
  PE X (.Call (.Attribute o name apos) (e::es) [] cpos) (tBM K T r to t):=h▸pe_bm pa slot hty hm ho ha hbase hfew hline hs hplain
end
end L2
end
section
namespace L2
open PySem PySem.Spec PyProof.Rows
noncomputable def Ite(K:W.Frag)(a:Addr):It :=
  ⟨fun i H=>∃ xs x,SqL K H a xs∧xs[i]?=some x,
   fun i H v H'=>∃ p x,H p=none∧v=.ref p∧H'=upd H p (.tup [.int i,x])∧∀ xs,SqL K H a xs→xs[i]?=some x,
   fun i H=>∃ xs,SqL K H a xs∧xs.length≤i⟩
theorem Inv.enumed{X:Cx}{pins:List (Addr×Obj)}{σ:St}{H:Hp}{s:Shared}{h':Heap}{t':Nat}{e it:Addr}{xs:List V}{us:List Value}(I:Inv X pins σ H s)
  (fe:FpOk X pins H e) (fi:FpOk X pins H it) (k:∀ b o,b≠e→b≠it→s.heap.get? b=some o→h'.get? b=some o)
  (ht:h'.get? s.heap.objs.size=some { cls:=.type "tuple",data:=.seq us.toArray }) (hv:Vals xs us) (hz:xs.length≤sizeLine) :
  Inv X pins σ (upd H s.heap.objs.size (.tup xs)) { s with heap:=h',toks:=t' }:=by
 have hp:H s.heap.objs.size=none:=I.hok.fresh (Nat.le_refl _)
 have ne:∀ b o,s.heap.get? b=some o→b≠s.heap.objs.size:=fun b o q=>Nat.ne_of_lt (Heap.lt_size q)
 have nt:∀ b u,H b=some u→b≠e∧b≠it:=fun b u q=>⟨(ne_of_none q fe.1),(ne_of_none q fi.1)⟩
 have np:∀ b u,H b=some u→b≠s.heap.objs.size:=fun b u q=>ne_of_none q hp
 refine I.step (g':=s.gens) (d':=s.drawn) (ch:=[e,it]) (fun b hb=>?_) (fun b o _ _ hc q _=>k b o (fun z=>hc (by simp[z])) (fun z=>hc (by simp[z])) q)
  (fun b o _ _ hc q _=>⟨o.slots,k b o (fun z=>hc (by simp[z])) (fun z=>hc (by simp[z])) q⟩) (fun b o _ q n=>by rw[upd_ne (ne b o q)];exact n)
  (fun b o hc q=>⟨o,k b o (fun z=>hc (by simp[z])) (fun z=>hc (by simp[z])) q⟩) (fun b ys q=>by rw[upd_ne (np b _ q)];exact q) (fun b o u q=>by rw[upd_ne (np b _ q)];exact q)
  (fun b ps q=>⟨#[],by rw[upd_ne (np b _ q),q];simp⟩) (fun m hm=>?_) (fun b u q=>?_) I.bare
 ·have hb:b=e∨b=it:=by simpa using hb
  rcases hb with rfl|rfl
  ·exact⟨fe.2.2.2.1,fe.2.1,fe.2.2.2.2.1,fe.2.2.2.2.2⟩
  ·exact⟨fi.2.2.2.1,fi.2.1,fi.2.2.2.2.1,fi.2.2.2.2.2⟩
 ·obtain⟨o,es,ep,ho,r⟩:=hm
  exact⟨o,es,ep,k _ o (Ne.symm fe.2.1) (Ne.symm fi.2.1) ho,r⟩
 ·by_cases hb:b=s.heap.objs.size
  ·subst hb
   rw[upd_same] at q
   cases q
   exact⟨hz,us,hv,⟨_,ht,rfl,_,rfl⟩⟩
  ·rw[upd_ne hb] at q
   refine (I.hok b u q).stay (fun c v hc r=>?_) (fun c r=>by rw[upd_ne (np c _ r)];exact r) fun c ys r=>by rw[upd_ne (np c _ r)];exact r
   rcases hc with z|z
   ·rw[z] at r ⊢;exact k _ _ (nt b u q).1 (nt b u q).2 r
   ·exact k _ _ (nt c _ z).1 (nt c _ z).2 r
theorem turn_enum{P:Program}{w:World}{K:W.Frag}{es:List Expr}{x1}{tp:Pos}(a e it:Addr)(hne:e≠it):Turn P w K (.Tuple es x1 tp) (Ite K a) [e,it] e (fun i h=>(∃ old,IsEnum h e it i old)∧h.IsListIter it a i) where
 mem:=by simp
 obj:=fun i h st b hb=>by
  obtain⟨⟨old,he⟩,o,hi,hc,hd⟩:=st
  have hb:b=e∨b=it:=by simpa using hb
  rcases hb with rfl|rfl
  ·exact⟨_,he,fun v z=>by cases (show Data.fields _=Data.cell v from z)⟩
  ·exact⟨o,hi,fun v z=>by rw[hd] at z;cases z⟩
 keep:=fun i h h' st k=>by
  obtain⟨⟨old,he⟩,hi⟩:=st
  exact⟨⟨old,k e (by simp) _ he⟩,hi.at fun o q=>k it (by simp) o q⟩
 item:=by
  intro X hP hw hK hc i pins s σ H E I hf st hg
  subst hP hw hK
  obtain⟨xs,x,hq,hx⟩:=hg
  obtain⟨⟨old,he⟩,hi⟩:=st
  obtain⟨its,rv,p,hz⟩:=I.list hq
  obtain⟨u,hu,ru⟩:=rv.get hx
  refine wpAny_pyNext_enum_item he hi p.isList (x:=u) (by simpa using hu) hne fun h' ho hi' ht hsz k=>?_
  refine⟨_,rfl,wpAny_letOwnedTupleGo_enum ho fun h2 he2 hs2=>?_⟩
  have fe:=hf e (by simp)
  have fi:=hf it (by simp)
  have I1:Inv X pins σ (upd H s.heap.objs.size (.tup [.int i,x])) { s with heap:=h',toks:=s.toks+1 }:=I.enumed fe fi k ht (.cons ⟨_,rfl⟩ (.cons ru .nil)) (by show 2≤sizeLine;decide)
  have he1:e≠s.heap.objs.size:=Nat.ne_of_lt (Heap.lt_size he)
  have hi1:it≠s.heap.objs.size:=by obtain⟨_,q,_⟩:=hi;exact Nat.ne_of_lt (Heap.lt_size q)
  have I2:=I1.turned (h':=h2) (t':=s.toks+1) (it:=e) (fun b o hb q=>(hs2.2 b hb).trans q) (by rw[upd_ne he1];exact fe.1) fe.2.1 fe.2.2.2.1 fe.2.2.2.2.1 fe.2.2.2.2.2
  refine⟨.ref s.heap.objs.size,_,I2,rfl,⟨s.heap.objs.size,x,I.hok.fresh (Nat.le_refl _),rfl,rfl,fun ys hy=>by rw[I.list_inj hy hq];exact hx⟩,⟨⟨u,by simpa using he2⟩,hi'.at fun o q=>(hs2.2 it hne.symm).trans q⟩,fun b hb=>?_⟩
  have hb:b=e∨b=it:=by simpa using hb
  rcases hb with rfl|rfl
  ·rw[upd_ne he1];exact fe.1
  ·rw[upd_ne hi1];exact fi.1
 done:=by
  intro X hP hw hK hc i pins s σ H E I hf st hg
  subst hP hw hK
  obtain⟨xs,hq,hx⟩:=hg
  obtain⟨⟨old,he⟩,hi⟩:=st
  obtain⟨its,rv,p,hz⟩:=I.list hq
  obtain⟨f0,f1,f2,f3,f4,f5⟩:=hf it (by simp)
  have hl:=rv.length
  exact wpAny_pyNext_enum_end (I.ok.hd hc) he hi p.isList (by simp;omega) fun h' eb=>⟨rfl,I.turned (t':=s.toks) (fun b o hb e=>eb b o hb e) f0 f1 f3 f4 f5⟩
 self:=fun _ _ _ _ _ st h=>by
  obtain⟨⟨old,he⟩,_⟩:=st
  exact wpAny_pyIter_enum he h
noncomputable def iEnum(K:W.Frag)(ta:TA):TI:=fun σ H R=>ta σ H fun vs H1=>∃ a,vs=[.ref a]∧(∃ xs,SqL K H1 a xs)∧R (Ite K a) H1
theorem pi_enumK{X:Cx}{K:W.Frag}{a:Expr}{ta:TA}{es:List Expr}{x1}{tp p pos:Pos}(hK:X.K=K)(hg:Gl X "enumerate")(hm:X.mg "enumerate" = none)(ha:PA X [a] ta)(hs:starEach [a] X.env=[(false,eval a X.env)]:=by rfl) :
  PI X (.Tuple es x1 tp) (.Call (.Name "enumerate" p) [a] [] pos) (iEnum K ta):=by
 subst hK
 intro pins s σ H R I h
 refine Call_ (ld_blt I hg hm PyProof.Rows.boot_enumerate (PyProof.Rows.callWith_type1 (thn (ha pos pins s σ H _ I h) fun us s1 h1=>?_) hs rfl))
 obtain⟨vs,H1,I1,r1,a,e,⟨xs,hq⟩,q⟩:=h1
 subst e
 cases r1 with
 | cons r rr =>
  cases rr
  cases (show _=Value.ref a from r)
  obtain⟨its,rv,p,hz⟩:=I1.list hq
  refine call_enumerate_list p.isList fun h' he hi hsz k=>?_
  refine wpAny_pyIter_enum he ?_
  have I2:Inv X pins σ H1 { s1 with heap:=h' }:=I1.kept (t':=s1.toks) k
  refine⟨_,[s1.heap.objs.size+1,s1.heap.objs.size],_,Ite X.K a,H1,rfl,I2,turn_enum a _ _ (Nat.ne_of_gt (Nat.lt_succ_self _)),⟨⟨_,he⟩,hi⟩,fun b hb=>?_,q⟩
  have hb:b=s1.heap.objs.size+1∨b=s1.heap.objs.size:=by simpa using hb
  rcases hb with rfl|rfl
  ·exact I1.fpOk (Nat.le_succ _) (I1.hok.fresh (Nat.le_succ _))
  ·exact I1.fpOk (Nat.le_refl _) (I1.hok.fresh (Nat.le_refl _))
end L2
end
section
namespace L2
open PySem PySem.Spec PyProof.Rows
noncomputable def tyD:PyData→String
 | .none => "NoneType"
 | .bool _ => "bool"
 | .int _ => "int"
 | .str _ => "str"
 | .list _ => "list"
 | .tuple _ => "tuple"
 | .dict _ => "dict"
noncomputable def isD:PyData→Bool
 | .dict _=>true
 | _=>false
noncomputable def rIsiD(K:W.Frag):List V→Hp→VK→Prop:=fun xs H Q=>∃ x c d cv b,xs=[x,c]∧clsV c=some cv∧isD d=false∧Rep K H x d∧PySem.W.kitOne K (.type (tyD d)) cv=some b∧Q (.bl b) H
theorem call_isiD{X:Cx}:CallR X (.builtin "isinstance") (rIsiD X.K):=by
 intro pins s σ H xs us Q I r h
 obtain⟨x,c,d,cv,b,rfl,hc,nd,hd,e,q⟩:=h
 obtain⟨u,w',rfl,rx,r2⟩:=vals2 r
 rw[clsV_rel hc r2]
 have fin:∀ tk,EP X pins σ Q (.bool b) { s with toks:=tk }:=fun tk=>⟨.bl b,H,I.tok tk,rfl,q⟩
 cases hd with
 | non=>cases (show u=Value.none from rx);exact PySem.W.kia_one PySem.W.kitx_none I.kIn True.intro e (fun z=>nomatch z) fin
 | bl y=>cases (show u=Value.bool y from rx);exact PySem.W.kia_one PySem.W.kitx_bool I.kIn True.intro e (fun z=>nomatch z) fin
 | int i=>obtain⟨t,q'⟩:=(show ∃ t,u=Value.int i t from rx);cases q';exact PySem.W.kia_one PySem.W.kitx_int I.kIn True.intro e (fun z=>nomatch z) fin
 | str y=>obtain⟨t,q'⟩:=(show ∃ t,u=Value.str y t from rx);cases q';exact PySem.W.kia_one PySem.W.kitx_str I.kIn True.intro e (fun z=>nomatch z) fin
 | @lst a ys ds h1 h2 =>
  cases (show u=Value.ref a from rx)
  obtain⟨its,rv,p,_⟩:=I.list h1
  obtain⟨o,k1,k2,_⟩:=p.isList
  exact PySem.W.kia_one PySem.W.kitx_list I.kIn ⟨o,k1,k2⟩ e (fun z=>nomatch z) fin
 | @tup a ys ds h1 h2 =>
  cases (show u=Value.ref a from rx)
  obtain⟨its,rv,p,_⟩:=I.tuple (SqT.of h1)
  obtain⟨o,k1,k2,_⟩:=p
  exact PySem.W.kia_one PySem.W.kitx_tuple I.kIn ⟨o,k1,k2⟩ e (fun z=>nomatch z) fin
 | exc _ _=>cases nd
 | excF _ _ _ _=>cases nd
 | dK _ _ _=>cases nd
 | dT _ _ _=>cases nd
 | dN _ _ _ _=>cases nd
 | junk=>cases nd
noncomputable def rIsi2(K:W.Frag):List V→Hp→VK→Prop:=fun xs H Q=>rIsi K xs H Q∨rIsiD K xs H Q
theorem call_isi2K{X:Cx}{K:W.Frag}(h:X.K=K):CallR X (.builtin "isinstance") (rIsi2 K):=h▸CallR.or call_isiS call_isiD
theorem rd_isiD{K:W.Frag}{H:Hp}{Q:VK}{x c:V}{d:PyData}{cv:Value}{b:Bool}(hd:Rep K H x d)(nd:isD d=false)(hc:clsV c=some cv)(e:PySem.W.kitOne K (.type (tyD d)) cv=some b)(q:Q (.bl b) H):rIsi2 K [x,c] H Q:=.inr ⟨x,c,d,cv,b,rfl,hc,nd,hd,e,q⟩
noncomputable abbrev FK:=Value→Option Addr→St→Hp→Prop
noncomputable def toF(E:XK):FK:=fun c d _ H=>E c d H
end L2
end
section
namespace L2
open PySem PySem.Spec PyProof.Rows
theorem d_KT{P:Program}{w:World}{h:Heap}{a:Addr}(x:h.DictOf (mixKind P w) a []):h.DictOfH (tupleKind (mixKind P w)) a []:=by
 obtain⟨o,es,ep,h3,h4,h5,h6,h7,h8⟩:=x
 refine⟨o,es,ep,h3,h4,h5,?_,⟨fun x z=>absurd z (by simp),List.nodup_nil⟩⟩
 generalize es.toList=l at h7
 cases h7
 rfl
theorem d_TK{P:Program}{w:World}{h:Heap}{a:Addr}(x:h.DictOfH (tupleKind (mixKind P w)) a []):h.DictOf (mixKind P w) a []:=by
 obtain⟨o,es,ep,h3,h4,h5,h6,h7,h8⟩:=x
 have e:es.toList=[]:=by simpa using h6
 refine⟨o,es,ep,h3,h4,h5,fun k hk=>?_,by rw[e];exact .nil,List.nodup_nil⟩
 have:k∈es.toList:=by simpa using hk
 rw[e] at this
 exact nomatch this
theorem dk_dt{P:Program}{w:World}{H H':Hp}{h:Heap}{a:Addr}(x:ObjOk P w H h a (.dK [])):ObjOk P w H' h a (.dT []):=by
 obtain⟨h1,h2,vs,rel,dd⟩:=x
 cases rel
 obtain⟨o,es,ep,h3,h4,h5,h6,_,h7⟩:=d_KT dd
 exact⟨h1,h2,[],.nil,o,es,ep,h3,h4,h5,h6,h7⟩
theorem dt_dk{P:Program}{w:World}{H H':Hp}{h:Heap}{a:Addr}(x:ObjOk P w H h a (.dT [])):ObjOk P w H' h a (.dK []):=by
 obtain⟨h1,h2,xs,rel,o,es,ep,h3,h4,h5,h6,h7⟩:=x
 cases rel
 exact⟨h1,h2,[],.nil,d_TK ⟨o,es,ep,h3,h4,h5,h6,⟨fun x z=>absurd z (by simp),h7⟩⟩⟩
noncomputable def KeyN(H:Hp)(b:Addr)(k:Key×List Key):Prop:=∃ c,H b=some (.tup [kV k.1,.ref c])∧H c=some (.tup (k.2.map kV))
theorem keyN_of{P:Program}{w:World}{H:Hp}{h:Heap}{b:Addr}{k:Key×List Key}(ok:HOk P w H h)(e:KeyN H b k):(pairKind (mixKind P w)).is h k b:=by
 obtain⟨c,e1,e2⟩:=e
 obtain⟨_,its,r,o,h1,h2,n,h3⟩:=(show ObjOk P w H h b (.tup [kV k.1,.ref c]) from ok b _ e1)
 cases r with
 | cons r1 r =>
  cases r with
  | cons r2 r =>
   cases r
   have r2:_=Value.ref c:=r2
   subst r2
   exact⟨o,_,n,_,c,h1,h2,h3,rfl,kV_is r1,key_of ok e2⟩
noncomputable abbrev KN(H:Hp):List ((Key×List Key)×V)→List ((Key×List Key)×Addr×Value)→Prop:=Paired fun p q=>p.1=q.1∧(∃ b,H q.2.1=some (.tup [kV p.1.1,.ref b])∧H b=some (.tup (p.1.2.map kV)))∧RelV p.2 q.2.2
theorem KN.val{H:Hp}{kvs:List ((Key×List Key)×V)}{xs:List ((Key×List Key)×Addr×Value)}(r:KN H kvs xs)(k:Key×List Key):RelO (valV kvs k) ((atKey xs k).map (·.2)):=by
 induction r with
 | nil=>exact True.intro
 | @cons p q ps qs h t ih =>
  by_cases e:p.1=k
  ·have b:atKey (q::qs) k=some q.2:=by simp[atKey,List.find?_cons,h.1.symm.trans e]
   rw[valV_pos e,b];exact h.2.2
  ·have e':¬ q.1=k:=fun z=>e (h.1.trans z)
   have b:atKey (q::qs) k=atKey qs k:=by simp[atKey,List.find?_cons,e']
   rw[valV_neg e,b];exact ih
theorem KN.put{H:Hp}{kvs:List ((Key×List Key)×V)}{xs:List ((Key×List Key)×Addr×Value)}(r:KN H kvs xs)(k:Key×List Key){b:Addr}{y:V}{u:Value}(hb:KeyN H b k)(ry:RelV y u):KN H (putK kvs k y) (storedH xs k b u):=by
 have e:(kvs.any fun kv=>decide (kv.1=k))=(atKey xs k).isSome:=by
  rw[valV_any,(r.val k).isSome_eq,Option.isSome_map]
 unfold putK storedH
 rw[e]
 by_cases q:(atKey xs k).isSome=true
 ·rw[if_pos q,if_pos q]
  clear e q
  induction r with
  | nil=>exact .nil
  | @cons p q ps qs h t ih =>
   rw[List.map_cons,List.map_cons]
   refine .cons ?_ ih
   unfold putAt
   by_cases e:p.1=k
   ·rw[if_pos e,if_pos (h.1.symm.trans e)];exact⟨h.1,h.2.1,ry⟩
   ·rw[if_neg e,if_neg (fun z=>e (h.1.trans z))];exact h
 ·rw[if_neg q,if_neg q]
  exact Paired.snoc r ⟨rfl,hb,ry⟩
theorem KN.keeps{H H':Hp}{kvs:List ((Key×List Key)×V)}{xs:List ((Key×List Key)×Addr×Value)}(r:KN H kvs xs)(ht:∀ b ys,H b=some (.tup ys)→H' b=some (.tup ys)):KN H' kvs xs :=
 Paired.mapP r fun _ _ z=>⟨z.1,let ⟨b,z1,z2⟩:=z.2.1;⟨b,ht _ _ z1,ht _ _ z2⟩,z.2.2⟩
theorem dn_rd{P:Program}{w:World}{H:Hp}{h:Heap}{a:Addr}{kvs:List ((Key×List Key)×V)}(ok:HOk P w H h)(e:Rd H a (.dN kvs)):kvs.length≤sizeLine∧(a == sysModules)=false∧∃ xs,KN H kvs xs∧h.DictOfH (pairKind (mixKind P w)) a xs:=by
 obtain⟨z,y,xs,r,o,es,ep,h1,h2,h3,h4,h5⟩:=(show ObjOk P w H h a (.dN kvs) from rd_of ok e)
 refine⟨z,y,xs,r,o,es,ep,h1,h2,h3,h4,fun x hx=>?_,h5⟩
 have all:∀ {l:List ((Key×List Key)×V)} {m:List ((Key×List Key)×Addr×Value)},KN H l m→∀ x∈m,(pairKind (mixKind P w)).is h x.1 x.2.1:=by
  intro l m q
  induction q with
  | nil=>intro x hx;exact nomatch hx
  | @cons p q ps qs hq t ih =>
   intro x hx
   rcases List.mem_cons.mp hx with e|hx
   ·subst e
    exact keyN_of ok (by rw[← hq.1];exact hq.2.1)
   ·exact ih x hx
 exact all r x hx
theorem d_KN{P:Program}{w:World}{h:Heap}{a:Addr}(x:h.DictOf (mixKind P w) a []):h.DictOfH (pairKind (mixKind P w)) a []:=by
 obtain⟨o,es,ep,h3,h4,h5,h6,h7,h8⟩:=x
 refine⟨o,es,ep,h3,h4,h5,?_,⟨fun x z=>absurd z (by simp),List.nodup_nil⟩⟩
 generalize es.toList=l at h7
 cases h7
 rfl
theorem dk_dn{P:Program}{w:World}{H H':Hp}{h:Heap}{a:Addr}(x:ObjOk P w H h a (.dK [])):ObjOk P w H' h a (.dN []):=by
 obtain⟨h1,h2,vs,rel,dd⟩:=x
 cases rel
 obtain⟨o,es,ep,h3,h4,h5,h6,_,h7⟩:=d_KN dd
 exact⟨h1,h2,[],.nil,o,es,ep,h3,h4,h5,h6,h7⟩
theorem dk_rdE{P:Program}{w:World}{H:Hp}{h:Heap}{a:Addr}(ok:HOk P w H h)(e:Rd H a (.dK [])∨Rd H a (.dT [])):(a == sysModules)=false∧h.DictOf (mixKind P w) a []:=by
 rcases e with e|e
 ·obtain⟨z,hd,vs,rel,dd⟩:=dk_rd ok e
  cases rel
  exact⟨hd,dd⟩
 ·obtain⟨z,hd,vs,rel,dd⟩:=dt_rd ok e
  cases rel
  exact⟨hd,d_TK dd⟩
theorem pair_room{P:Program}{w:World}{A:Around}(hu:A.units+2<cLine):(pairKind (mixKind P w)).room A.in1:=⟨by show A.units+1<cLine;omega,by show A.units+1+1<cLine;omega⟩
noncomputable def DGetN(H:Hp)(a:Addr)(y:V)(r:Option V):Prop:=∃ kvs k b,Rd H a (.dN kvs)∧y=.ref b∧KeyN H b k∧r=valV kvs k
noncomputable def DGetA(H:Hp)(a:Addr)(y:V)(r:Option V):Prop:=DGet H a y r∨DGetN H a y r
noncomputable def DGet0(H:Hp)(a:Addr)(y:V)(r:Option V):Prop:=DGet H a y r∨(r=none∧(∃ k,y=kV k)∧Rd H a (.dT []))∨(r=none∧(∃ (k:List Key) (b:Addr),y=.ref b∧H b=some (.tup (k.map kV)))∧Rd H a (.dK []))∨DGetN H a y r∨(r=none∧(∃ (k:Key×List Key) (b:Addr),y=.ref b∧KeyN H b k)∧(Rd H a (.dK [])∨Rd H a (.dT [])))
noncomputable def DPut0(H:Hp)(a:Addr)(y v:V)(H':Hp):Prop:=DPut H a y v H'∨(∃ k,y=kV k∧H a=some (.dT [])∧H'=upd H a (.dK [(k,v)]))∨(∃ (k:List Key) (b:Addr),y=.ref b∧H b=some (.tup (k.map kV))∧H a=some (.dK [])∧H'=upd H a (.dT [(k,v)]))∨(∃ kvs k b,H a=some (.dN kvs)∧y=.ref b∧KeyN H b k∧kvs.length<sizeLine∧H'=upd H a (.dN (putK kvs k v)))∨(∃ (k:Key×List Key) (b:Addr),y=.ref b∧KeyN H b k∧(H a=some (.dK [])∨H a=some (.dT []))∧H'=upd H a (.dN [(k,v)]))
section
variable{X:Cx}{pins:List (Addr×Obj)}{σ:St}{H:Hp}{s:Shared}{a:Addr}{y v:V}{u r:Value}{o:Option V}{A:Around}{E:Value→Shared→Prop}
theorem d_setN{kvs:List ((Key×List Key)×V)}{k:Key×List Key}{b:Addr}{Q:Unit→Shared→Prop}(hu:A.units+2<cLine)(I:Inv X pins σ H s)(e:H a=some (.dN kvs))(eb:KeyN H b k)(l:kvs.length<sizeLine)(ry:RelV (.ref b) u)(rv:RelV v r)(h:∀ s',Inv X pins σ (upd H a (.dN (putK kvs k v))) s'→Q () s') :
  wpAny (model X.prog X.w) A (setItem (.ref a) u r) Q E s:=by
 cases (show u=Value.ref b from ry)
 obtain⟨z,hd,xs,rel,dd⟩:=dn_rd I.hok (.inl e)
 have hz:xs.length≤sizeLine:=by rw[← Paired.length rel];exact z
 have hl:(putK kvs k v).length≤sizeLine:=by have:=length_putK kvs k v;omega
 refine wpAny_setItem_heap (hsz:=hz) (pair_room hu) (keyN_of I.hok eb) dd fun h' dd' hs=>h _ ?_
 obtain⟨q,es,ep,hq,h2,h3,h4,_,h5⟩:=dd'
 refine d_write I (by rw[e];exact True.intro) hs ⟨q,hq⟩ ⟨hl,hd,_,(rel.put k eb rv).keeps fun c ys ec=>?_,q,es,ep,hq,h2,h3,h4,h5⟩
 rw[upd_ne (ne_of ec e (fun z=>nomatch z))]
 exact ec
theorem d_getN{k:Key×List Key}{b:Addr}{kvs:List ((Key×List Key)×V)}{Q:Value→Shared→Prop}(hu:A.units+2<cLine)(I:Inv X pins σ H s)(e:Rd H a (.dN kvs))(eb:KeyN H b k)(l:some v=valV kvs k)(ry:RelV (.ref b) u)(h:∀ w' s',Inv X pins σ H s'→RelV v w'→Q w' s') :
  wpAny (model X.prog X.w) A (getItem (.ref a) u) Q E s:=by
 cases (show u=Value.ref b from ry)
 obtain⟨z,hd,xs,rel,dd⟩:=dn_rd I.hok e
 obtain⟨w',hw,rw'⟩:=RelO.some_of (v:=v) (o:=(atKey xs k).map (·.2)) (by rw[l];exact rel.val k)
 obtain⟨p,hp,hp2⟩:=Option.map_eq_some_iff.mp hw
 refine wpAny_getItem_heap (pair_room hu) (keyN_of I.hok eb) dd hp ?_
 rw[hp2]
 exact h w' _ (I.tok _) rw'
theorem d_in0{Q:Value→Shared→Prop}(hu:A.units+2<cLine)(I:Inv X pins σ H s)(g:DGet0 H a y o)(ry:RelV y u)(h:∀ s',Inv X pins σ H s'→Q (.bool o.isSome) s') :
  wpAny (model X.prog X.w) A (compareOp .In u (.ref a)) Q E s:=by
 rcases g with g|⟨rfl,⟨k,rfl⟩,e⟩|⟨rfl,⟨k,b,rfl,eb⟩,e⟩|⟨kvs,k,b,e,rfl,eb,rfl⟩|⟨rfl,⟨k,b,rfl,eb⟩,e⟩
 ·exact d_in (by omega) I g ry h
 ·obtain⟨z,hd,vs,rel,dd⟩:=dt_rd I.hok e
  cases rel
  exact wpAny_in_of (kV_is ry) hd (d_TK dd).mapOf (h _ (I.tok _))
 ·obtain⟨z,hd,vs,rel,dd⟩:=dk_rd I.hok e
  cases rel
  cases (show u=Value.ref b from ry)
  exact wpAny_in_heap (tupleKind_room_in1 (by omega)) (key_of I.hok eb) hd (d_KT dd) (h _ (I.tok _))
 ·obtain⟨z,hd,xs,rel,dd⟩:=dn_rd I.hok e
  cases (show u=Value.ref b from ry)
  refine wpAny_in_heap (pair_room hu) (keyN_of I.hok eb) hd dd ?_
  have q:=(rel.val k).isSome_eq
  rw[Option.isSome_map] at q
  rw[← q]
  exact h _ (I.tok _)
 ·obtain⟨hd,dd⟩:=dk_rdE I.hok e
  cases (show u=Value.ref b from ry)
  exact wpAny_in_heap (pair_room hu) (keyN_of I.hok eb) hd (d_KN dd) (h _ (I.tok _))
theorem d_notIn0{Q:Value→Shared→Prop}(hu:A.units+2<cLine)(I:Inv X pins σ H s)(g:DGet0 H a y o)(ry:RelV y u)(h:∀ s',Inv X pins σ H s'→Q (.bool (!o.isSome)) s') :
  wpAny (model X.prog X.w) A (compareOp .NotIn u (.ref a)) Q E s:=by
 rcases g with g|⟨rfl,⟨k,rfl⟩,e⟩|⟨rfl,⟨k,b,rfl,eb⟩,e⟩|⟨kvs,k,b,e,rfl,eb,rfl⟩|⟨rfl,⟨k,b,rfl,eb⟩,e⟩
 ·exact d_notIn (by omega) I g ry h
 ·obtain⟨z,hd,vs,rel,dd⟩:=dt_rd I.hok e
  cases rel
  exact wpAny_notIn_of (kV_is ry) hd (d_TK dd).mapOf (h _ (I.tok _))
 ·obtain⟨z,hd,vs,rel,dd⟩:=dk_rd I.hok e
  cases rel
  cases (show u=Value.ref b from ry)
  exact wpAny_notIn_heap (tupleKind_room_in1 (by omega)) (key_of I.hok eb) hd (d_KT dd) (h _ (I.tok _))
 ·obtain⟨z,hd,xs,rel,dd⟩:=dn_rd I.hok e
  cases (show u=Value.ref b from ry)
  refine wpAny_notIn_heap (pair_room hu) (keyN_of I.hok eb) hd dd ?_
  have q:=(rel.val k).isSome_eq
  rw[Option.isSome_map] at q
  rw[← q]
  exact h _ (I.tok _)
 ·obtain⟨hd,dd⟩:=dk_rdE I.hok e
  cases (show u=Value.ref b from ry)
  exact wpAny_notIn_heap (pair_room hu) (keyN_of I.hok eb) hd (d_KN dd) (h _ (I.tok _))
theorem d_setItem0{H':Hp}{Q:Unit→Shared→Prop}(hu:A.units+2<cLine)(I:Inv X pins σ H s)(g:DPut0 H a y v H')(ry:RelV y u)(rv:RelV v r)(h:∀ s',Inv X pins σ H' s'→Q () s') :
  wpAny (model X.prog X.w) A (setItem (.ref a) u r) Q E s:=by
 have big:([]:List (Key×V)).length<sizeLine:=by decide
 have big':([]:List (List Key×V)).length<sizeLine:=by decide
 rcases g with g|⟨k,rfl,e,rfl⟩|⟨k,b,rfl,eb,e,rfl⟩|⟨kvs,k,b,e,rfl,eb,l,rfl⟩|⟨k,b,rfl,eb,e,rfl⟩
 ·exact d_setItem (by omega) I g ry rv h
 ·have x:=I.hok a _ e
  obtain⟨q,hq⟩:∃ q,s.heap.get? a=some q:=by obtain⟨_,_,_,_,q,_,_,hq,_⟩:=x;exact⟨q,hq⟩
  have J:Inv X pins σ (upd H a (.dK [])) s:=d_write (t':=s.toks) I (by rw[e];exact True.intro) (Heap.SameBut.refl a s.heap) ⟨q,hq⟩ (dt_dk x)
  refine d_setItem (by omega) J (DPut.k (k:=k) (v:=v) upd_same big) ry rv fun s' J'=>h s' ?_
  rw[upd_upd] at J'
  exact J'
 ·have x:=I.hok a _ e
  obtain⟨q,hq⟩:∃ q,s.heap.get? a=some q:=by obtain⟨_,_,_,_,q,_,_,hq,_⟩:=x;exact⟨q,hq⟩
  have J:Inv X pins σ (upd H a (.dT [])) s:=d_write (t':=s.toks) I (by rw[e];exact True.intro) (Heap.SameBut.refl a s.heap) ⟨q,hq⟩ (dk_dt x)
  refine d_setItem (by omega) J (DPut.t (k:=k) (v:=v) upd_same (by rw[upd_ne (ne_of eb e (fun z=>nomatch z))];exact eb) big') ry rv fun s' J'=>h s' ?_
  rw[upd_upd] at J'
  exact J'
 ·exact d_setN hu I e eb l ry rv h
 ·have x:ObjOk X.prog X.w H s.heap a (.dK []):=by
   rcases e with e|e
   ·exact I.hok a _ e
   ·exact dt_dk (I.hok a _ e)
  obtain⟨q,hq⟩:∃ q,s.heap.get? a=some q:=by obtain⟨_,_,_,_,q,_,_,hq,_⟩:=x;exact⟨q,hq⟩
  have mu:Mut (H a):=by rcases e with e|e<;>rw[e]<;>exact True.intro
  have J:Inv X pins σ (upd H a (.dN [])) s:=d_write (t':=s.toks) I mu (Heap.SameBut.refl a s.heap) ⟨q,hq⟩ (dk_dn x)
  have nt:∀ c ys,H c=some (.tup ys)→upd H a (.dN []) c=some (.tup ys):=fun c ys ec=>by
   rw[upd_ne (by rcases e with e|e<;>exact ne_of ec e (fun z=>nomatch z))];exact ec
  refine d_setN hu J upd_same (let ⟨c,e1,e2⟩:=eb;⟨c,nt _ _ e1,nt _ _ e2⟩) (by decide) ry rv fun s' J'=>h s' ?_
  rw[upd_upd] at J'
  exact J'
end
section
variable{X:Cx}
noncomputable def rInDc(neg:Bool):R2:=fun x y H Q=>∃ a r,y=.ref a∧DGet0 H a x r∧Q (.bl (if neg then !r.isSome else r.isSome)) H
theorem op_inDc(hu:X.A.units+64<cLine):OpR X (compareOp .In) (rInDc false):=by
 intro pins s σ H x y v u Q I rx ry h
 obtain⟨a,r,rfl,g,q⟩:=h
 cases ry
 exact d_in0 (by omega) I g rx fun s' J=>⟨.bl _,H,J,rfl,q⟩
theorem op_notInDc(hu:X.A.units+64<cLine):OpR X (compareOp .NotIn) (rInDc true):=by
 intro pins s σ H x y v u Q I rx ry h
 obtain⟨a,r,rfl,g,q⟩:=h
 cases ry
 exact d_notIn0 (by omega) I g rx fun s' J=>⟨.bl _,H,J,rfl,q⟩
noncomputable def rIxDc:R2:=fun x y H Q=>∃ a v,x=.ref a∧DGetA H a y (some v)∧Q v H
theorem ix_dct(hu:X.A.units+64<cLine):IxR X rIxDc:=by
 intro value slice pins s σ H x y v u Q I rx ry h hs
 obtain⟨a,w',rfl,g,q⟩:=h
 cases rx
 have hT:s.TypeIs (.ref a) "dict" := by
  rcases g with g|⟨kvs,k,b,e,_⟩
  ·exact dict_typeIs I g
  ·obtain⟨_,_,xs,_,o,es,ep,h1,h2,_⟩:=dn_rd I.hok e
   exact⟨o,h1,h2.1⟩
 unfold subscriptTail
 refine wpAny_bind ?_
 rw[getitemInPython_of_ne hT.not_modules]
 refine wpAny_bind (wpAny_specialOf hT PySem.F.slot_dict_getitem.lookup ?_)
 have fin:wpAny (model X.prog X.w) X.A (subscripted slice false (.ref a) u) (fun r s₃=>wpAny (model X.prog X.w) X.A (letTemporaryGo value (.ref a) r >>= fun _=>pure r) (EP X pins σ Q) X.xe s₃) X.xe s:=by
  rw[hs]
  rcases g with g|⟨kvs,k,b,e,rfl,eb,l⟩
  ·exact wpAny_operating (d_getItem (by omega) I g ry fun r s' J rr=>wpAny_bind (wpAny_letTemporaryGo (wpAny_pure ⟨w',H,J,rr,q⟩)))
  ·exact wpAny_operating (d_getN (by omega) I e eb l ry fun r s' J rr=>wpAny_bind (wpAny_letTemporaryGo (wpAny_pure ⟨w',H,J,rr,q⟩)))
 first
  | exact wpAny_pure (wpAny_bind fin)
  | exact wpAny_bind (wpAny_pure (wpAny_bind fin))
  | exact wpAny_bind fin
noncomputable def rSetDc:TSet:=fun o i v H Q=>∃ a H',o=.ref a∧DPut0 H a i v H'∧Q H'
noncomputable def rSetA:TSet:=fun o i v H Q=>rSetL o i v H Q∨rSetDc o i v H Q
theorem set_any(hu:X.A.units+64<cLine):PSet X rSetA:=by
 intro pins s σ H o i v ov iv u Q I ro ri rv h
 rcases h with h|⟨a,H',rfl,g,q⟩
 ·exact set_list pins s σ H o i v ov iv u Q I ro ri rv h
 ·cases ro
  exact d_setItem0 (by omega) I g ri rv fun s' J=>⟨H',J,q⟩
end
section
variable{κ:Type}[DecidableEq κ]{α:Type}[DecidableEq α]
noncomputable def getA{β:Type}(kvs:List (α×β))(k:α):Option β:=(kvs.find? fun kv=>decide (kv.1=k)).map (·.2)
noncomputable def putA{β:Type}(kvs:List (α×β))(k:α)(v:β):List (α×β):=if (getA kvs k).isSome then kvs.map fun kv=>if kv.1=k then (kv.1,v) else kv else kvs++[(k,v)]
end
section
variable{X:Cx}{K:W.Frag}
noncomputable def anyD(d:PyData)(es:List PyData):Bool:=es.any fun e=>PyData.eqv e d
noncomputable def rInD(K:W.Frag)(neg:Bool):R2:=fun x y H Q=>∃ d es,Rep K H x d∧(Rep K H y (.list es)∨Rep K H y (.tuple es))∧d.canLay0=true∧PyData.canLayAll0 es=true∧d.depth≤32∧Q (.bl (if neg then !anyD d es else anyD d es)) H
theorem op_inD(hK:X.K=K)(hu:X.A.units+64<cLine):OpR X (compareOp .In) (rInD K false):=by
 subst hK
 intro pins s σ H x y v u Q I rx ry h
 obtain⟨d,es,h1,h2,h3,h4,h5,q⟩:=h
 obtain⟨as,k1⟩:=Rep.reads I h3 h1 rx
 rcases h2 with h2|h2
 ·obtain⟨bs,k2⟩:=Rep.reads I (by simpa [PyData.canLay0] using h4) h2 ry
  exact SeqAt.in_list_reads k2 k1 h4 h3 (by omega) ⟨.bl _,H,I,rfl,q⟩
 ·obtain⟨bs,k2⟩:=Rep.reads I (by simpa [PyData.canLay0] using h4) h2 ry
  exact SeqAt.in_tuple_reads k2 k1 h4 h3 (by omega) ⟨.bl _,H,I,rfl,q⟩
theorem op_notInD(hK:X.K=K)(hu:X.A.units+64<cLine):OpR X (compareOp .NotIn) (rInD K true):=by
 subst hK
 intro pins s σ H x y v u Q I rx ry h
 obtain⟨d,es,h1,h2,h3,h4,h5,q⟩:=h
 obtain⟨as,k1⟩:=Rep.reads I h3 h1 rx
 rcases h2 with h2|h2
 ·obtain⟨bs,k2⟩:=Rep.reads I (by simpa [PyData.canLay0] using h4) h2 ry
  exact SeqAt.notIn_list_reads k2 k1 h4 h3 (by omega) ⟨.bl _,H,I,rfl,q⟩
 ·obtain⟨bs,k2⟩:=Rep.reads I (by simpa [PyData.canLay0] using h4) h2 ry
  exact SeqAt.notIn_tuple_reads k2 k1 h4 h3 (by omega) ⟨.bl _,H,I,rfl,q⟩
end
noncomputable def rInS(neg:Bool):R2:=fun x y H Q=>∃ i j,x=.str i∧y=.str j∧Q (.bl (if neg then !(!(Builtin.Str.occurrences j i 0 j.length 1).isEmpty) else !(Builtin.Str.occurrences j i 0 j.length 1).isEmpty)) H
noncomputable def rInA(K:W.Frag)(neg:Bool):R2:=fun x y H Q=>rInD K neg x y H Q∨rInDc neg x y H Q∨rInS neg x y H Q
theorem op_inA{X:Cx}{K:W.Frag}(hK:X.K=K)(hu:X.A.units+64<cLine):OpR X (compareOp .In) (rInA K false):=(op_inD hK hu).or ((op_inDc hu).or op_in_str)
theorem op_notInA{X:Cx}{K:W.Frag}(hK:X.K=K)(hu:X.A.units+64<cLine):OpR X (compareOp .NotIn) (rInA K true):=(op_notInD hK hu).or ((op_notInDc hu).or op_notIn_str)
end L2
end
section
namespace VL
open PySem PySem.Spec L2
inductive AV where
 | d (x:PyData)
 | own (xs:List AV)
 | tup (xs:List AV)
 | dic (kvs:List (PyData×PyData))
 | obj (φ:V→Hp→Prop)
inductive TV where
 | av (a:AV)
 | bor (x:PyData)
 | raw (v:V)
noncomputable abbrev Sl:=List (Option AV)
noncomputable abbrev Fp:=Addr→Nat
mutual
noncomputable def AV.data:AV→PyData
 | .d x=>x
 | .own xs=>.list (AV.datas xs)
 | .tup xs=>.tuple (AV.datas xs)
 | .dic kvs=>.dict kvs
 | .obj _=>dJ
noncomputable def AV.datas:List AV→List PyData
 | []=>[]
 | x::xs=>x.data::AV.datas xs
end
theorem AV.datas_map:∀ xs:List AV,AV.datas xs=xs.map AV.data
 | []=>rfl
 | x::xs=>by rw[AV.datas,AV.datas_map xs];rfl
noncomputable def DicAt(K:W.Frag)(G:Hp)(o:HO)(kvs:List (PyData×PyData)):Prop :=
 (∃ (ks:List (Key×V)) (ds:List PyData),o=.dK ks∧Reps K G (ks.map Prod.snd) ds∧kvs=(ks.map fun p=>keyD p.1).zip ds) ∨
 (∃ (ks:List (List Key×V)) (ds:List PyData),o=.dT ks∧Reps K G (ks.map Prod.snd) ds∧kvs=(ks.map fun p=>PyData.tuple (p.1.map keyD)).zip ds) ∨
 ∃ (ks:List ((Key×List Key)×V)) (ds:List PyData),ks≠[]∧o=.dN ks∧Reps K G (ks.map Prod.snd) ds∧kvs=(ks.map fun p=>PyData.tuple [keyD p.1.1,.tuple (p.1.2.map keyD)]).zip ds
theorem DicAt.mono{K:W.Frag}{G G':Hp}{o:HO}{kvs:List (PyData×PyData)}(h:DicAt K G o kvs)(m:Same G G'):DicAt K G' o kvs:=by
 rcases h with⟨ks,ds,e,r,z⟩|⟨ks,ds,e,r,z⟩|⟨ks,ds,n,e,r,z⟩
 ·exact .inl ⟨ks,ds,e,r.same m,z⟩
 ·exact .inr (.inl ⟨ks,ds,e,r.same m,z⟩)
 ·exact .inr (.inr ⟨ks,ds,n,e,r.same m,z⟩)
theorem DicAt.rep{K:W.Frag}{G:Hp}{o:HO}{kvs:List (PyData×PyData)}{a:Addr}(h:DicAt K G o kvs)(e:G a=some o):Rep K G (.ref a) (.dict kvs):=by
 rcases h with⟨ks,ds,rfl,r,z⟩|⟨ks,ds,rfl,r,z⟩|⟨ks,ds,n,rfl,r,z⟩
 ·exact .dK (.inl e) r z
 ·exact .dT (.inl e) r z
 ·exact .dN n (.inl e) r z
noncomputable def Mu:HO→Prop
 | .lst _=>True
 | .dK _=>True
 | .dT _=>True
 | .dN _=>True
 | _=>False
theorem DicAt.mu{K:W.Frag}{G:Hp}{o:HO}{kvs:List (PyData×PyData)}(h:DicAt K G o kvs):Mu o:=by
 rcases h with⟨ks,ds,rfl,_⟩|⟨ks,ds,rfl,_⟩|⟨ks,ds,_,rfl,_⟩<;>trivial
mutual
inductive RA(K:W.Frag)(G H:Hp):V→AV→Fp→Prop
 | d {v:V} {x:PyData} {p:Fp}:Rep K G v x→(∀ b,p b=0)→RA K G H v (.d x) p
 | own {a:Addr} {vs:List V} {xs:List AV} {p q:Fp}:H a=some (.lst vs)→RAs K G H vs xs p→(∀ b,q b=(if b=a then 1 else 0)+p b)→RA K G H (.ref a) (.own xs) q
 | tup {a:Addr} {vs:List V} {xs:List AV} {p:Fp}:G a=some (.tup vs)→RAs K G H vs xs p→RA K G H (.ref a) (.tup xs) p
 | dic {a:Addr} {o:HO} {kvs:List (PyData×PyData)} {q:Fp}:H a=some o→DicAt K G o kvs→(∀ b,q b=if b=a then 1 else 0)→RA K G H (.ref a) (.dic kvs) q
 | obj {v:V} {φ:V→Hp→Prop} {p:Fp}:φ v G→(∀ G1 G2:Hp,Same G1 G2→φ v G1→φ v G2)→(∀ b,p b=0)→RA K G H v (.obj φ) p
inductive RAs(K:W.Frag)(G H:Hp):List V→List AV→Fp→Prop
 | nil {p:Fp}:(∀ b,p b=0)→RAs K G H [] [] p
 | cons {v:V} {x:AV} {vs:List V} {xs:List AV} {p q r:Fp}:RA K G H v x p→RAs K G H vs xs q→(∀ b,r b=p b+q b)→RAs K G H (v::vs) (x::xs) r
end
theorem RA.ind{K:W.Frag}{G H:Hp}{M:V→AV→Fp→Prop}{N:List V→List AV→Fp→Prop}(h1:∀ {v x p},Rep K G v x→(∀ b,p b=0)→M v (.d x) p)(h2:∀ {a vs xs p q},H a=some (.lst vs)→N vs xs p→(∀ b,q b=(if b=a then 1 else 0)+p b)→M (.ref a) (.own xs) q)
  (h3:∀ {a vs xs p},G a=some (.tup vs)→N vs xs p→M (.ref a) (.tup xs) p) (h4:∀ {a o kvs q},H a=some o→DicAt K G o kvs→(∀ b,q b=if b=a then 1 else 0)→M (.ref a) (.dic kvs) q) (h5:∀ {v φ p},φ v G→(∀ G1 G2:Hp,Same G1 G2→φ v G1→φ v G2)→(∀ b,p b=0)→M v (.obj φ) p)
  (n:∀ {p},(∀ b,p b=0)→N [] [] p) (c:∀ {v x vs xs p q r},M v x p→N vs xs q→(∀ b,r b=p b+q b)→N (v::vs) (x::xs) r):(∀ {v a p},RA K G H v a p→M v a p)∧∀ {vs xs p},RAs K G H vs xs p→N vs xs p :=
 ⟨fun h=>RA.rec (motive_1:=fun v a p _=>M v a p) (motive_2:=fun v a p _=>N v a p) h1 (fun h _ e i=>h2 h i e) (fun h _ i=>h3 h i) h4 h5 n (fun _ _ e i j=>c i j e) h,fun h=>RAs.rec (motive_1:=fun v a p _=>M v a p) (motive_2:=fun v a p _=>N v a p) h1 (fun h _ e i=>h2 h i e) (fun h _ i=>h3 h i) h4 h5 n (fun _ _ e i j=>c i j e) h⟩
inductive RSl(K:W.Frag)(G H:Hp):St→Sl→Fp→Prop
 | nil {p:Fp}:(∀ b,p b=0)→RSl K G H [] [] p
 | no {o:Option V} {σ:St} {ρ:Sl} {p:Fp}:RSl K G H σ ρ p→RSl K G H (o::σ) (none::ρ) p
 | so {v:V} {a:AV} {σ:St} {ρ:Sl} {p q r:Fp}:RA K G H v a p→RSl K G H σ ρ q→(∀ b,r b=p b+q b)→RSl K G H (some v::σ) (some a::ρ) r
inductive RT(K:W.Frag)(G H:Hp):V→TV→Fp→Prop
 | av {v:V} {a:AV} {p:Fp}:RA K G H v a p→RT K G H v (.av a) p
 | bor {v:V} {x:PyData} {p:Fp}:Rep K H v x→(∀ b,p b=0)→RT K G H v (.bor x) p
 | raw {v:V} {p:Fp}:(∀ b,p b=0)→RT K G H v (.raw v) p
inductive RTs(K:W.Frag)(G H:Hp):List V→List TV→Fp→Prop
 | nil {p:Fp}:(∀ b,p b=0)→RTs K G H [] [] p
 | cons {v:V} {x:TV} {vs:List V} {xs:List TV} {p q r:Fp}:RT K G H v x p→RTs K G H vs xs q→(∀ b,r b=p b+q b)→RTs K G H (v::vs) (x::xs) r
noncomputable def hid(H:Hp)(p q:Fp):Hp:=fun b=>if p b+q b=0 then H b else none
structure SR(K:W.Frag)(H0:Hp)(σ:St)(ρ:Sl)(ts:List V)(as:List TV)(H:Hp):Prop where
 ex:∃ p q,RSl K (hid H p q) H σ ρ p∧RTs K (hid H p q) H ts as q∧(∀ b,p b+q b≤1)∧∀ b,0<p b+q b→H0 b=none
 same:Same H0 H
section
variable{K:W.Frag}{G G' H H' H0:Hp}{σ:St}{ρ:Sl}{ts:List V}{as:List TV}
theorem RA.monoB(hG:Same G G'):(∀ {v:V} {a:AV} {p:Fp},RA K G H v a p→(∀ b o,0<p b→H b=some o→H' b=some o)→RA K G' H' v a p)∧∀ {vs:List V} {xs:List AV} {p:Fp},RAs K G H vs xs p→(∀ b o,0<p b→H b=some o→H' b=some o)→RAs K G' H' vs xs p :=
 RA.ind (M:=fun v a p=>(∀ b o,0<p b→H b=some o→H' b=some o)→RA K G' H' v a p) (N:=fun vs xs p=>(∀ b o,0<p b→H b=some o→H' b=some o)→RAs K G' H' vs xs p) (fun r e _=>.d (r.same hG) e) (fun {a _ _ _ _} h i e hH=>.own (hH a _ (by have:=e a;simp at this;omega) h) (i fun b o z=>hH b o (by have:=e b;omega)) e)
  (fun h i hH=>.tup (hG _ _ h) (i hH)) (fun {a _ _ _} h d e hH=>.dic (hH a _ (by have:=e a;simp at this;omega) h) (d.mono hG) e) (fun h m e _=>.obj (m _ _ hG h) m e) (fun e _=>.nil e) fun i j e hH=>.cons (i fun b o z=>hH b o (by have:=e b;omega)) (j fun b o z=>hH b o (by have:=e b;omega)) e
theorem RA.mono(hG:Same G G'){v:V}{a:AV}{p:Fp}(hH:∀ b o,0<p b→H b=some o→H' b=some o)(h:RA K G H v a p):RA K G' H' v a p:=(RA.monoB hG).1 h hH
theorem RAs.mono(hG:Same G G'){vs:List V}{xs:List AV}{p:Fp}(hH:∀ b o,0<p b→H b=some o→H' b=some o)(h:RAs K G H vs xs p):RAs K G' H' vs xs p:=(RA.monoB hG).2 h hH
theorem RA.lstB:(∀ {v:V} {a:AV} {p:Fp},RA K G H v a p→∀ b,0<p b→∃ o,H b=some o∧Mu o)∧∀ {vs:List V} {xs:List AV} {p:Fp},RAs K G H vs xs p→∀ b,0<p b→∃ o,H b=some o∧Mu o:=by
 refine RA.ind (M:=fun v a p=>∀ b,0<p b→∃ o,H b=some o∧Mu o) (N:=fun vs xs p=>∀ b,0<p b→∃ o,H b=some o∧Mu o) (fun r e b z=>absurd (e b) (Nat.ne_of_gt z)) (fun {a vs xs p q} h i e b z=>?_) (fun h i b z=>i b z) (fun {a o kvs q} h d e b z=>?_) (fun _ _ e b z=>absurd (e b) (Nat.ne_of_gt z)) (fun e b z=>absurd (e b) (Nat.ne_of_gt z)) fun {v x vs xs p q r} i j e b z=>?_
 ·by_cases hb:b=a
  ·subst hb;exact⟨_,h,trivial⟩
  ·exact i b (by have:=e b;simp[hb] at this;omega)
 ·by_cases hb:b=a
  ·subst hb;exact⟨_,h,d.mu⟩
  ·have:=e b;simp[hb] at this;omega
 ·have:=e b
  rcases Nat.eq_zero_or_pos (p b) with h|h
  ·exact j b (by omega)
  ·exact i b h
theorem RA.lst{v:V}{a:AV}{p:Fp}(h:RA K G H v a p):∀ b,0<p b→∃ o,H b=some o∧Mu o:=RA.lstB.1 h
theorem RAs.lst{vs:List V}{xs:List AV}{p:Fp}(h:RAs K G H vs xs p):∀ b,0<p b→∃ o,H b=some o∧Mu o:=RA.lstB.2 h
theorem RSl.mono(hG:Same G G'){p:Fp}(r:RSl K G H σ ρ p):(∀ b o,0<p b→H b=some o→H' b=some o)→RSl K G' H' σ ρ p:=by
 induction r with
 | nil e=>exact fun _=>.nil e
 | no _ ih=>exact fun h=>.no (ih h)
 | so r _ e ih=>exact fun h=>.so (r.mono hG (fun b o z=>h b o (by have:=e b;omega))) (ih fun b o z=>h b o (by have:=e b;omega)) e
theorem RSl.lst{p:Fp}(r:RSl K G H σ ρ p):∀ b,0<p b→∃ o,H b=some o∧Mu o:=by
 induction r with
 | nil e=>intro b z;have:=e b;omega
 | no _ ih=>exact ih
 | @so v a σ ρ p1 q1 r1 r _ e ih =>
  intro b z
  have:=e b
  rcases Nat.eq_zero_or_pos (p1 b) with h|h
  ·exact ih b (by omega)
  ·exact r.lst b h
theorem RT.mono{v:V}{a:TV}{p:Fp}(hG:Same G G')(hH:Same H H')(r:RT K G H v a p):RT K G' H' v a p:=by
 cases r with
 | av r=>exact .av (r.mono hG fun b o _=>hH b o)
 | bor r e=>exact .bor (r.same hH) e
 | raw e=>exact .raw e
theorem RT.lst{v:V}{a:TV}{p:Fp}(r:RT K G H v a p):∀ b,0<p b→∃ o,H b=some o∧Mu o:=by
 cases r with
 | av r=>exact r.lst
 | bor r e=>intro b z;have:=e b;omega
 | raw e=>intro b z;have:=e b;omega
theorem RTs.mono{p:Fp}(hG:Same G G')(hH:Same H H')(r:RTs K G H ts as p):RTs K G' H' ts as p:=by
 induction r with
 | nil e=>exact .nil e
 | cons r _ e ih=>exact .cons (r.mono hG hH) ih e
theorem RTs.lst{p:Fp}(r:RTs K G H ts as p):∀ b,0<p b→∃ o,H b=some o∧Mu o:=by
 induction r with
 | nil e=>intro b z;have:=e b;omega
 | @cons v x vs xs p1 q1 r1 r _ e ih =>
  intro b z
  have:=e b
  rcases Nat.eq_zero_or_pos (p1 b) with h|h
  ·exact ih b (by omega)
  ·exact r.lst b h
noncomputable def Stb(as:List TV):Prop:=∀ a∈as,∃ x,a=.av (.d x)
theorem Stb.nil:Stb []:=fun _ h=>nomatch h
theorem Stb.cons{x:PyData}(h:Stb as):Stb (.av (.d x)::as):=fun b hb=>by
 rcases List.mem_cons.mp hb with e|e
 ·exact⟨x,e⟩
 ·exact h b e
theorem RTs.monoS{p:Fp}(hG:Same G G')(r:RTs K G H ts as p):Stb as→(∀ b o,0<p b→H b=some o→H' b=some o)→RTs K G' H' ts as p:=by
 induction r with
 | nil e=>exact fun _ _=>.nil e
 | cons r _ e ih =>
  intro hS hH
  refine .cons ?_ (ih (fun a ha=>hS a (.tail _ ha)) fun b o z=>hH b o (by have:=e b;omega)) e
  cases r with
  | av r=>exact .av (r.mono hG fun b o z=>hH b o (by have:=e b;omega))
  | bor _ _=>obtain⟨x,e⟩:=hS _ (.head _);cases e
  | raw e=>exact .raw e
theorem same_hid{p q:Fp}(h:Same H H'):Same (hid H p q) (hid H' p q):=fun b o e=>by
 unfold hid at e ⊢
 split at e
 ·rename_i z;rw[if_pos z];exact h b o e
 ·cases e
theorem hid_le{p q:Fp}:Same (hid H p q) H:=fun b o e=>by
 unfold hid at e
 split at e
 ·exact e
 ·cases e
theorem hid_more{p q p' q':Fp}(h:∀ b,p b+q b=0→p' b+q' b=0):Same (hid H p q) (hid H p' q'):=fun b o e=>by
 unfold hid at e ⊢
 split at e
 ·rename_i z;rw[if_pos (h b z)];exact e
 ·cases e
theorem hid_eq{p q p' q':Fp}(h:∀ b,p b+q b=p' b+q' b):hid H p q=hid H p' q':=by
 funext b;unfold hid;rw[h b]
theorem SR.ext(h:SR K H0 σ ρ ts as H)(e:Same H H'):SR K H0 σ ρ ts as H':=by
 obtain⟨⟨p,q,h1,h2,h3,h4⟩,s⟩:=h
 exact⟨⟨p,q,h1.mono (same_hid e) (fun b o _=>e b o),h2.mono (same_hid e) e,h3,h4⟩,s.trans e⟩
theorem tup_hid{p q:Fp}{a:Addr}{xs:List V}(hl:∀ b,0<p b+q b→∃ o,H b=some o∧Mu o)(h:H a=some (.tup xs)):VL.hid H p q a=some (.tup xs):=by
 unfold VL.hid
 rw[if_pos]
 ·exact h
 ·rcases Nat.eq_zero_or_pos (p a+q a) with z|z
  ·exact z
  ·obtain⟨vs,e,mu⟩:=hl a z;rw[h] at e;cases e;exact mu.elim
theorem Rep.hidB{p q:Fp}(hl:∀ b,0<p b+q b→∃ o,H b=some o∧Mu o):(∀ {v:V} {x:PyData},Rep K H v x→noLst x=true→Rep K (VL.hid H p q) v x)∧∀ {vs:List V} {xs:List PyData},Reps K H vs xs→noLsts xs=true→Reps K (VL.hid H p q) vs xs :=
 Rep.indF (M:=fun v x=>noLst x=true→Rep K (VL.hid H p q) v x) (N:=fun vs xs=>noLsts xs=true→Reps K (VL.hid H p q) vs xs) (fun _=>.non) (fun b _=>.bl b) (fun i _=>.int i) (fun x _=>.str x) (fun _ _ hn=>by simp[noLst] at hn) (fun h i hn=>.tup (tup_hid hl h) (i (by simpa [noLst] using hn))) (fun _ _ hn=>by simp[noLst] at hn) (fun _=>.nil) fun i j hn=>by
  simp only[noLsts,Bool.and_eq_true] at hn
  exact .cons (i hn.1) (j hn.2)
theorem Rep.hid{p q:Fp}(hl:∀ b,0<p b+q b→∃ o,H b=some o∧Mu o){v:V}{x:PyData}(hn:noLst x=true)(h:Rep K H v x):Rep K (VL.hid H p q) v x:=(Rep.hidB hl).1 h hn
theorem Reps.hid{p q:Fp}(hl:∀ b,0<p b+q b→∃ o,H b=some o∧Mu o){vs:List V}{xs:List PyData}(hn:noLsts xs=true)(h:Reps K H vs xs):Reps K (VL.hid H p q) vs xs:=(Rep.hidB hl).2 h hn
theorem RA.frzB(hG:Same G G'):(∀ {v:V} {a:AV} {p:Fp},RA K G H v a p→(∀ b o,0<p b→H b=some o→G' b=some o)→Rep K G' v a.data)∧∀ {vs:List V} {xs:List AV} {p:Fp},RAs K G H vs xs p→(∀ b o,0<p b→H b=some o→G' b=some o)→Reps K G' vs (AV.datas xs) :=
 RA.ind (M:=fun v a p=>(∀ b o,0<p b→H b=some o→G' b=some o)→Rep K G' v a.data) (N:=fun vs xs p=>(∀ b o,0<p b→H b=some o→G' b=some o)→Reps K G' vs (AV.datas xs)) (fun r _ _=>r.same hG) (fun {a _ _ _ _} e i z h=>.lst (SqL.of (h a _ (by have:=z a;simp at this;omega) e)) (i fun b o y=>h b o (by have:=z b;omega)))
  (fun e i h=>.tup (hG _ _ e) (i h)) (fun {a _ _ _} e d z h=>(d.mono hG).rep (h a _ (by have:=z a;simp at this;omega) e)) (fun _ _ _ _=>.junk) (fun _ _=>.nil) fun i j z h=>.cons (i fun b o y=>h b o (by have:=z b;omega)) (j fun b o y=>h b o (by have:=z b;omega))
theorem RA.frz(hG:Same G G'){v:V}{a:AV}{p:Fp}(hH:∀ b o,0<p b→H b=some o→G' b=some o)(h:RA K G H v a p):Rep K G' v a.data:=(RA.frzB hG).1 h hH
theorem RAs.frz(hG:Same G G'){vs:List V}{xs:List AV}{p:Fp}(hH:∀ b o,0<p b→H b=some o→G' b=some o)(h:RAs K G H vs xs p):Reps K G' vs (AV.datas xs):=(RA.frzB hG).2 h hH
theorem RA.rep(hG:Same G H){v:V}{a:AV}{p:Fp}(h:RA K G H v a p):Rep K H v a.data:=h.frz hG fun _ _ _ z=>z
theorem RAs.rep(hG:Same G H){vs:List V}{xs:List AV}{p:Fp}(h:RAs K G H vs xs p):Reps K H vs (AV.datas xs):=h.frz hG fun _ _ _ z=>z
noncomputable def TV.data:TV→PyData
 | .av a=>a.data
 | .bor x=>x
 | .raw _=>.none
theorem RT.rep{v:V}{a:TV}{p:Fp}(hG:Same G H)(hr:∀ v,a≠.raw v)(r:RT K G H v a p):Rep K H v a.data:=by
 cases r with
 | av r=>exact r.rep hG
 | bor r _=>exact r
 | raw _=>exact absurd rfl (hr _)
end
end VL
end
section
namespace VL
open PySem PySem.Spec L2
structure Exc where
 cls:Addr
 fs:List (Str×PyData):=[]
noncomputable def XRep(K:W.Frag)(H:Hp)(e:Exc)(c:Value)(d:Option Addr):Prop :=
 c=.ref e.cls∧((e.fs=[]∧d=none)∨∃ a vs,d=some a∧H a=some (hXD a vs)∧vs.map Prod.fst=e.fs.map Prod.fst∧Reps K H (vs.map Prod.snd) (e.fs.map Prod.snd))
class Tabs where
 ts:List (Addr×(Nat→Nat→Str))
variable[Tabs]
noncomputable def TabsIn(H:Hp):Prop:=∀ p∈Tabs.ts,H p.1=some (.tbq p.2)
theorem TabsIn.same{H H':Hp}(t:TabsIn H)(s:Same H H'):TabsIn H':=fun p hp=>s _ _ (t p hp)
structure XOk(K:W.Frag)(E:FK)(X:Exc→Sl→Prop)(H0:Hp):Prop where
 x:∀ e ρ,X e ρ→∀ c d σ H',SR K H0 σ ρ [] [] H'→XRep K H' e c d→E c d σ H'
 t:TabsIn H0
noncomputable def NE:Exc→Sl→Prop:=fun _ _=>False
theorem XOk.ne{K:W.Frag}{E:FK}{H0:Hp}(t:TabsIn H0):XOk K E NE H0:=⟨fun _ _ z=>z.elim,t⟩
structure VEnds where
 nx:Sl→Prop
 rt:TV→Prop
 bk:Sl→Prop:=fun _=>False
 ct:Sl→Prop:=fun _=>False
structure Fit(K:W.Frag)(H0:Hp)(ts:List V)(as:List TV)(DV:VEnds)(D:Ends):Prop where
 nx:∀ ρ,DV.nx ρ→∀ σ H,SR K H0 σ ρ ts as H→D.nx σ H
 bk:∀ ρ,DV.bk ρ→∀ σ H,SR K H0 σ ρ ts as H→D.bk σ H
 ct:∀ ρ,DV.ct ρ→∀ σ H,SR K H0 σ ρ ts as H→D.ct σ H
 rt:∀ a,DV.rt a→∀ v σ ρ H,SR K H0 σ ρ (v::ts) (a::as) H→D.rt v H
noncomputable def TV.sto:TV→Option AV
 | .av a=>some a
 | .bor x=>if noLst x=true then some (.d x) else none
 | .raw _=>none
section
variable(K:W.Frag)(E:FK)(X:Exc→Sl→Prop)
noncomputable def Ev(t:TE)(ρ:Sl)(Q:TV→Prop):Prop :=
 ∀ (H0:Hp) (σ:St) (ts:List V) (as:List TV) (H:Hp) (QV:VK),SR K H0 σ ρ ts as H→XOk K E X H0→(∀ a,Q a→∀ v H',SR K H0 σ ρ (v::ts) (a::as) H'→QV v H')→t σ H QV
noncomputable def Tv(t:TT)(ρ:Sl)(Q:Bool→Prop):Prop :=
 ∀ (H0:Hp) (σ:St) (ts:List V) (as:List TV) (H:Hp) (QV:Bool→Hp→Prop),SR K H0 σ ρ ts as H→XOk K E X H0→(∀ b,Q b→∀ H',SR K H0 σ ρ ts as H'→QV b H')→t σ H QV
noncomputable def Ea(t:TA)(ρ:Sl)(Q:List TV→Prop):Prop :=
 ∀ (H0:Hp) (σ:St) (ts:List V) (as:List TV) (H:Hp) (QV:List V→Hp→Prop),SR K H0 σ ρ ts as H→XOk K E X H0→(∀ bs,Q bs→∀ vs H',SR K H0 σ ρ (vs++ts) (bs++as) H'→vs.length=bs.length→QV vs H')→t σ H QV
noncomputable def Op(r:R2)(a b:TV)(Q:TV→Prop):Prop :=
 ∀ (H0:Hp) (σ:St) (ρ:Sl) (ts:List V) (as:List TV) (H:Hp) (x y:V) (QV:VK),SR K H0 σ ρ (y::x::ts) (b::a::as) H→XOk K E X H0→(∀ c,Q c→∀ v H',SR K H0 σ ρ (v::ts) (c::as) H'→QV v H')→r x y H QV
noncomputable def Un1(r:V→Hp→VK→Prop)(a:TV)(Q:TV→Prop):Prop :=
 ∀ (H0:Hp) (σ:St) (ρ:Sl) (ts:List V) (as:List TV) (H:Hp) (x:V) (QV:VK),SR K H0 σ ρ (x::ts) (a::as) H→XOk K E X H0→(∀ c,Q c→∀ v H',SR K H0 σ ρ (v::ts) (c::as) H'→QV v H')→r x H QV
noncomputable def Bi(r:List V→Hp→VK→Prop)(bs:List TV)(Q:TV→Prop):Prop :=
 ∀ (H0:Hp) (σ:St) (ρ:Sl) (ts:List V) (as:List TV) (H:Hp) (vs:List V) (QV:VK),SR K H0 σ ρ (vs++ts) (bs++as) H→vs.length=bs.length→XOk K E X H0→(∀ c,Q c→∀ v H',SR K H0 σ ρ (v::ts) (c::as) H'→QV v H')→r vs H QV
noncomputable def Sv(t:TS)(ρ:Sl)(DV:VEnds):Prop :=
 ∀ (H0:Hp) (σ:St) (ts:List V) (as:List TV) (H:Hp) (D:Ends),Stb as→SR K H0 σ ρ ts as H→XOk K E X H0→Fit K H0 ts as DV D→t D σ H
end
section
variable{K:W.Frag}{G G' H H' H0:Hp}{σ:St}{ρ:Sl}{ts:List V}{as:List TV}{v x y:V}{a b:TV}
theorem SR.top(h:SR K H0 σ ρ (v::ts) (a::as) H)(hr:∀ v,a≠.raw v):Rep K H v a.data:=by
 obtain⟨⟨p,q,_,h2,_⟩,_⟩:=h
 cases h2 with
 | cons r _ _=>exact r.rep hid_le hr
theorem SR.top_d{x:PyData}(h:SR K H0 σ ρ (v::ts) (.av (.d x)::as) H):Rep K H v x:=h.top (a:=.av (.d x)) (fun _ z=>nomatch z)
theorem SR.raw{u:V}(h:SR K H0 σ ρ (v::ts) (.raw u::as) H):v=u:=by
 obtain⟨⟨p,q,_,h2,_⟩,_⟩:=h
 cases h2 with
 | cons r _ _=>cases r;rfl
theorem SR.pop(h:SR K H0 σ ρ (v::ts) (a::as) H):SR K H0 σ ρ ts as H:=by
 obtain⟨⟨p,q,h1,h2,h3,h4⟩,s⟩:=h
 cases h2 with
 | @cons _ _ _ _ p1 q1 _ r rs e =>
  refine⟨⟨p,q1,h1.mono (hid_more fun b z=>by have:=e b;omega) (fun _ _ _ z=>z),rs.mono (hid_more fun b z=>by have:=e b;omega) (fun _ _ z=>z),fun b=>by have:=e b;have:=h3 b;omega,fun b z=>h4 b (by have:=e b;omega)⟩,s⟩
theorem SR.push(h:SR K H0 σ ρ ts as H){x:PyData}(r:∀ G,Rep K G v x):SR K H0 σ ρ (v::ts) (.av (.d x)::as) H:=by
 obtain⟨⟨p,q,h1,h2,h3,h4⟩,s⟩:=h
 exact⟨⟨p,q,h1,.cons (.av (.d (p:=fun _=>0) (r _) fun _=>rfl)) h2 (fun b=>by simp),h3,h4⟩,s⟩
theorem SR.pushB(h:SR K H0 σ ρ ts as H){x:PyData}(r:Rep K H v x):SR K H0 σ ρ (v::ts) (.bor x::as) H:=by
 obtain⟨⟨p,q,h1,h2,h3,h4⟩,s⟩:=h
 exact⟨⟨p,q,h1,.cons (.bor (p:=fun _=>0) r fun _=>rfl) h2 (fun b=>by simp),h3,h4⟩,s⟩
theorem SR.pushR(h:SR K H0 σ ρ ts as H):SR K H0 σ ρ (v::ts) (.raw v::as) H:=by
 obtain⟨⟨p,q,h1,h2,h3,h4⟩,s⟩:=h
 exact⟨⟨p,q,h1,.cons (.raw (p:=fun _=>0) fun _=>rfl) h2 (fun b=>by simp),h3,h4⟩,s⟩
theorem SR.lsts{p q:Fp}(h1:RSl K G H σ ρ p)(h2:RTs K G H ts as q):∀ b,0<p b+q b→∃ o,H b=some o∧Mu o:=fun b z=>by
 rcases Nat.eq_zero_or_pos (p b) with e|e
 ·exact h2.lst b (by omega)
 ·exact h1.lst b e
theorem SR.pushF(h:SR K H0 σ ρ ts as H){x:PyData}(hx:noLst x=true)(r:Rep K H v x):SR K H0 σ ρ (v::ts) (.av (.d x)::as) H:=by
 obtain⟨⟨p,q,h1,h2,h3,h4⟩,s⟩:=h
 exact⟨⟨p,q,h1,.cons (.av (.d (p:=fun _=>0) (Rep.hid (SR.lsts h1 h2) hx r) fun _=>rfl)) h2 (fun b=>by simp),h3,h4⟩,s⟩
theorem SR.int(h:SR K H0 σ ρ ts as H)(i:Int):SR K H0 σ ρ (.int i::ts) (.av (.d (.int i))::as) H:=h.push fun _=>.int i
theorem SR.bl(h:SR K H0 σ ρ ts as H)(i:Bool):SR K H0 σ ρ (.bl i::ts) (.av (.d (.bool i))::as) H:=h.push fun _=>.bl i
theorem SR.sto{a':AV}(h:SR K H0 σ ρ (v::ts) (a::as) H)(e:a.sto=some a'):SR K H0 σ ρ (v::ts) (.av a'::as) H:=by
 cases a with
 | av a=>cases e;exact h
 | raw u=>cases e
 | bor x =>
  unfold TV.sto at e
  by_cases z:noLst x=true
  ·simp only[z,if_true,Option.some.injEq] at e
   subst e
   exact h.pop.pushF z (h.top (a:=.bor x) fun _ z=>nomatch z)
  ·simp[z] at e
theorem SR.frzT{a:AV}(h:SR K H0 σ ρ (v::ts) (.av a::as) H):SR K H0 σ ρ (v::ts) (.av (.d a.data)::as) H:=by
 obtain⟨⟨p,q,h1,h2,h3,h4⟩,s⟩:=h
 cases h2 with
 | @cons _ _ _ _ p1 q1 _ r rs e =>
  cases r with
  | av r =>
   have m:Same (hid H p q) (hid H p q1):=hid_more fun b z=>by have:=e b;omega
   refine⟨⟨p,q1,h1.mono m (fun _ _ _ z=>z),.cons (.av (.d (p:=fun _=>0) (r.frz m fun b o y z=>?_) fun _=>rfl)) (rs.mono m fun _ _ z=>z) (fun b=>by simp),fun b=>by have:=e b;have:=h3 b;omega,fun b z=>h4 b (by have:=e b;omega)⟩,s⟩
   unfold hid
   rw[if_pos (by have:=e b;have:=h3 b;omega)]
   exact z
theorem RSl.frz{i:Nat}{a:AV}{p:Fp}{ρ:Sl}{σ:St}(r:RSl K G H σ ρ p)(hi:ρ[i]?=some (some a))(hp:∀ b o,0<p b→H b=some o→True) :
  ∃ (p1 p2:Fp) (v:V),(∀ b,p b=p1 b+p2 b)∧σ[i]?=some (some v)∧RA K G H v a p1∧∀ (G' H':Hp) (v':V) (a':AV) (p1' r':Fp),Same G G'→(∀ b o,0<p2 b→H b=some o→H' b=some o)→RA K G' H' v' a' p1'→(∀ b,r' b=p1' b+p2 b)→RSl K G' H' (σ.set i (some v')) (ρ.set i (some a')) r':=by
 induction r generalizing i with
 | nil _=>simp at hi
 | @no o σ ρ p r ih =>
  cases i with
  | zero=>simp at hi
  | succ i =>
   obtain⟨p1,p2,v,e1,e2,e3,e4⟩:=ih (by simpa using hi) (fun _ _ _ _=>trivial)
   exact⟨p1,p2,v,e1,by simpa using e2,e3,fun G' H' v' a' p1' r' m n ra z=>.no (e4 G' H' v' a' p1' r' m n ra z)⟩
 | @so v a0 σ ρ pa pb pr ra r e ih =>
  cases i with
  | zero =>
   have:a0=a:=by simpa using hi
   subst this
   exact⟨pa,pb,v,e,rfl,ra,fun G' H' v' a' p1' r' m n ra' z=>.so ra' (r.mono m n) z⟩
  | succ i =>
   obtain⟨p1,p2,w,e1,e2,e3,e4⟩:=ih (by simpa using hi) (fun _ _ _ _=>trivial)
   refine⟨p1,fun b=>pa b+p2 b,w,fun b=>by have:=e b;have:=e1 b;dsimp only;omega,by simpa using e2,e3,fun G' H' v' a' p1' r' m n ra' z=>?_⟩
   exact .so (ra.mono m fun b o y=>n b o (by dsimp only;omega)) (e4 G' H' v' a' p1' (fun b=>p1' b+p2 b) m (fun b o y=>n b o (by dsimp only;omega)) ra' fun _=>rfl) (fun b=>by have:=z b;dsimp only at this ⊢;omega)
theorem set_same{α:Type}:∀ {l:List α} {i:Nat} {x:α},l[i]?=some x→l.set i x=l
 | [],_,_,h=>by simp at h
 | y::l,0,x,h=>by simp at h;simp[h]
 | y::l,i+1,x,h=>by simp at h;simp[set_same h]
theorem RSl.len{p:Fp}(r:RSl K G H σ ρ p):σ.length=ρ.length:=by
 induction r with
 | nil _=>rfl
 | no _ ih=>simp[ih]
 | so _ _ _ ih=>simp[ih]
theorem SR.len(h:SR K H0 σ ρ ts as H):σ.length=ρ.length:=let ⟨⟨_,_,h1,_⟩,_⟩:=h;h1.len
theorem RSl.set{i:Nat}{w:V}{a:AV}{p p1:Fp}(r:RSl K G H σ ρ p)(hi:i<ρ.length)(ra:RA K G H w a p1):∃ p2:Fp,(∀ b,p2 b≤p b)∧RSl K G H (σ.set i (some w)) (ρ.set i (some a)) (fun b=>p1 b+p2 b):=by
 induction r generalizing i with
 | nil _=>simp at hi
 | @no o σ ρ p r ih =>
  cases i with
  | zero=>exact⟨p,fun _=>Nat.le_refl _,.so ra r fun _=>rfl⟩
  | succ i =>
   obtain⟨p2,e1,e2⟩:=ih (by simpa using hi)
   exact⟨p2,e1,.no e2⟩
 | @so v a0 σ ρ pa pb pr ra0 r e ih =>
  cases i with
  | zero=>exact⟨pb,fun b=>by have:=e b;omega,.so ra r fun _=>rfl⟩
  | succ i =>
   obtain⟨p2,e1,e2⟩:=ih (by simpa using hi)
   exact⟨fun b=>pa b+p2 b,fun b=>by have:=e b;have:=e1 b;dsimp only;omega,.so ra0 e2 fun b=>by dsimp only;omega⟩
theorem SR.of_le{p p' q q':Fp}(s:Same H0 H)(h3:∀ b,p b+q b≤1)(h4:∀ b,0<p b+q b→H0 b=none)(hp:∀ b,p' b+q' b≤p b+q b)(h1:RSl K (hid H p q) H σ ρ p')(h2:RTs K (hid H p q) H ts as q'):SR K H0 σ ρ ts as H :=
 ⟨⟨p',q',h1.mono (hid_more fun b z=>by have:=hp b;omega) (fun _ _ _ z=>z),h2.mono (hid_more fun b z=>by have:=hp b;omega) (fun _ _ z=>z),fun b=>by have:=hp b;have:=h3 b;omega,fun b z=>h4 b (by have:=hp b;omega)⟩,s⟩
theorem SR.store{i:Nat}{a:AV}(h:SR K H0 σ ρ (v::ts) (.av a::as) H)(hi:i<ρ.length):SR K H0 (σ.set i (some v)) (ρ.set i (some a)) ts as H:=by
 obtain⟨⟨p,q,h1,h2,h3,h4⟩,s⟩:=h
 cases h2 with
 | @cons _ _ _ _ p1 q1 _ r rs e =>
  cases r with
  | av r =>
   obtain⟨p2,e1,e2⟩:=h1.set hi r
   refine SR.of_le (p:=p) (q:=q) (p':=fun b=>p1 b+p2 b) (q':=q1) s h3 h4 (fun b=>?_) e2 rs
   have:=e b;have:=e1 b;omega
theorem RSl.drop{i:Nat}{o:Option V}{p:Fp}(r:RSl K G H σ ρ p):∃ p2:Fp,(∀ b,p2 b≤p b)∧RSl K G H (σ.set i o) (ρ.set i none) p2:=by
 induction r generalizing i with
 | nil e=>exact⟨_,fun _=>Nat.le_refl _,by simpa using .nil e⟩
 | @no o σ ρ p r ih =>
  cases i with
  | zero=>exact⟨p,fun _=>Nat.le_refl _,.no r⟩
  | succ i=>obtain⟨p2,e1,e2⟩:=ih (i:=i);exact⟨p2,e1,.no e2⟩
 | @so v a0 σ ρ pa pb pr ra0 r e ih =>
  cases i with
  | zero=>exact⟨pb,fun b=>by have:=e b;omega,.no r⟩
  | succ i =>
   obtain⟨p2,e1,e2⟩:=ih (i:=i)
   exact⟨fun b=>pa b+p2 b,fun b=>by have:=e b;have:=e1 b;dsimp only;omega,.so ra0 e2 fun b=>rfl⟩
theorem SR.drop{i:Nat}(h:SR K H0 σ ρ ts as H):SR K H0 σ (ρ.set i none) ts as H:=by
 obtain⟨⟨p,q,h1,h2,h3,h4⟩,s⟩:=h
 by_cases hi:i<σ.length
 ·obtain⟨p2,e1,e2⟩:=h1.drop (i:=i) (o:=σ[i])
  rw[set_same (List.getElem?_eq_getElem hi)] at e2
  exact SR.of_le (p:=p) (q:=q) (p':=p2) (q':=q) s h3 h4 (fun b=>by have:=e1 b;omega) e2 h2
 ·have:ρ.set i none=ρ:=List.set_eq_of_length_le (by rw[← h1.len];omega)
  rw[this]
  exact⟨⟨p,q,h1,h2,h3,h4⟩,s⟩
theorem RTs.swap{u w:V}{p:Fp}(r:RTs K G H (u::w::ts) (a::b::as) p):RTs K G H (w::u::ts) (b::a::as) p:=by
 cases r with
 | cons r1 rs e1=>cases rs with
  | cons r2 rs e2=>exact .cons r2 (.cons r1 rs fun _=>rfl) (fun c=>by have:=e1 c;have:=e2 c;omega)
theorem RTs.rot{u:V}:∀ {vs:List V} {bs:List TV} {p:Fp},vs.length=bs.length→RTs K G H (vs++u::ts) (bs++a::as) p→RTs K G H (u::(vs++ts)) (a::(bs++as)) p
 | [],[],_,_,r=>r
 | w::vs,b::bs,p,e,r=>by
  cases r with
  | cons r1 rs e1=>exact RTs.swap (.cons r1 (RTs.rot (by simpa using e) rs) e1)
theorem SR.rot{u:V}{vs:List V}{bs:List TV}(e:vs.length=bs.length)(h:SR K H0 σ ρ (vs++u::ts) (bs++a::as) H):SR K H0 σ ρ (u::(vs++ts)) (a::(bs++as)) H :=
 let ⟨⟨p,q,h1,h2,h3,h4⟩,s⟩:=h
 ⟨⟨p,q,h1,h2.rot e,h3,h4⟩,s⟩
theorem SR.swap{u w:V}(h:SR K H0 σ ρ (u::w::ts) (a::b::as) H):SR K H0 σ ρ (w::u::ts) (b::a::as) H :=
 let ⟨⟨p,q,h1,h2,h3,h4⟩,s⟩:=h
 ⟨⟨p,q,h1,h2.swap,h3,h4⟩,s⟩
theorem RTs.back{u:V}:∀ {vs:List V} {bs:List TV} {p:Fp},vs.length=bs.length→RTs K G H (u::(vs++ts)) (a::(bs++as)) p→RTs K G H (vs++u::ts) (bs++a::as) p
 | [],[],_,_,r=>r
 | w::vs,b::bs,p,e,r=>by
  have r':=RTs.swap r
  cases r' with
  | cons r1 rs e1=>exact .cons r1 (RTs.back (by simpa using e) rs) e1
theorem SR.back{u:V}{vs:List V}{bs:List TV}(e:vs.length=bs.length)(h:SR K H0 σ ρ (u::(vs++ts)) (a::(bs++as)) H):SR K H0 σ ρ (vs++u::ts) (bs++a::as) H :=
 let ⟨⟨p,q,h1,h2,h3,h4⟩,s⟩:=h
 ⟨⟨p,q,h1,h2.back e,h3,h4⟩,s⟩
inductive Stos:List TV→List AV→Prop
 | nil:Stos [] []
 | cons {a:TV} {x:AV} {as:List TV} {xs:List AV}:a.sto=some x→Stos as xs→Stos (a::as) (x::xs)
theorem SR.stos:∀ {vs:List V} {bs:List TV} {xs:List AV},Stos bs xs→vs.length=bs.length→∀ {us:List V} {cs:List TV},us.length=cs.length→SR K H0 σ ρ (us++(vs++ts)) (cs++(bs++as)) H→SR K H0 σ ρ (us++(vs++ts)) (cs++(xs.map TV.av++as)) H
 | [],_,_,.nil,_,_,_,_,h=>h
 | [],_,_,.cons _ _,e,_,_,_,_=>by simp at e
 | w::vs,_,_,.nil,e,_,_,_,_=>by simp at e
 | w::vs,b::bs,x::xs,.cons e1 es,e,us,cs,e2,h=>by
  have h1:SR K H0 σ ρ (us++w::(vs++ts)) (cs++b::(bs++as)) H:=h
  have h2:=(h1.rot e2).sto e1
  have h3:SR K H0 σ ρ ((w::us)++(vs++ts)) ((.av x::cs)++(bs++as)) H:=h2
  have h4:=SR.stos (us:=w::us) (cs:=.av x::cs) es (by simpa using e) (by simp[e2]) h3
  exact SR.back e2 h4
theorem RTs.avs{xs:List AV}:∀ {vs:List V} {bs:List AV} {p:Fp},vs.length=bs.length→RTs K G H (vs++ts) (bs.map TV.av++as) p→∃ p1 p2:Fp,(∀ b,p b=p1 b+p2 b)∧RAs K G H vs bs p1∧RTs K G H ts as p2
 | [],[],p,_,r=>⟨fun _=>0,p,fun b=>by simp,.nil fun _=>rfl,r⟩
 | w::vs,b::bs,p,e,r=>by
  cases r with
  | @cons _ _ _ _ pa pb _ r1 rs e1 =>
   obtain⟨p1,p2,e2,e3,e4⟩:=RTs.avs (xs:=xs) (by simpa using e) rs
   cases r1 with
   | av r1=>exact⟨fun c=>pa c+p1 c,p2,fun c=>by have:=e1 c;have:=e2 c;dsimp only;omega,.cons r1 e3 (fun _=>rfl),e4⟩
theorem hid_upd{l:Addr}{o:HO}{p q p' q':Fp}(h:∀ b u,p b+q b=0→H b=some u→p' b+q' b=0∧b≠l):Same (hid H p q) (hid (upd H l o) p' q'):=fun b u e=>by
 unfold hid at e ⊢
 split at e
 ·rename_i z
  obtain⟨h1,h2⟩:=h b u z e
  rw[if_pos h1,upd_ne h2]
  exact e
 ·cases e
theorem SR.new{l:Addr}{vs:List V}{xs:List AV}(h:SR K H0 σ ρ (vs++ts) (xs.map TV.av++as) H)(e:vs.length=xs.length)(hl:H l=none):SR K H0 σ ρ (.ref l::ts) (.av (.own xs)::as) (upd H l (.lst vs)):=by
 obtain⟨⟨p,q,h1,h2,h3,h4⟩,s⟩:=h
 have hL:=SR.lsts h1 h2
 obtain⟨p1,p2,e2,e3,e4⟩:=RTs.avs (xs:=xs) e h2
 have z:∀ b u,H b=some u→b≠l:=fun b u y w=>by subst w;rw[hl] at y;cases y
 have zl:p l+q l=0:=by
  rcases Nat.eq_zero_or_pos (p l+q l) with w|w
  ·exact w
  ·obtain⟨_,w,_⟩:=hL l w;rw[hl] at w;cases w
 have m:Same (hid H p q) (hid (upd H l (.lst vs)) p (fun b=>((if b=l then 1 else 0)+p1 b)+p2 b)):=hid_upd fun b u y w=>by
  have:=z b u w
  refine⟨?_,this⟩
  have:=e2 b
  simp[*] at *
  omega
 have mo:∀ b u,H b=some u→upd H l (.lst vs) b=some u:=fun b u y=>by rw[upd_ne (z b u y)];exact y
 have s2:Same H (upd H l (.lst vs)):=same_new hl
 refine⟨⟨p,fun b=>((if b=l then 1 else 0)+p1 b)+p2 b,h1.mono m (fun b o _=>mo b o),.cons (.av (.own upd_same (e3.mono m fun b o _=>mo b o) fun _=>rfl)) (e4.mono m s2) (fun _=>rfl),fun b=>?_,fun b w=>?_⟩,s.trans s2⟩
 ·have:=e2 b;have:=h3 b
  by_cases hb:b=l
  ·subst hb;simp;omega
  ·simp[hb];omega
 ·by_cases hb:b=l
  ·subst hb;exact s.free hl
  ·refine h4 b ?_;have:=e2 b;simp[hb] at w;omega
end
end VL
end
section
namespace VL
open PySem PySem.Spec L2
variable[Tabs]
mutual
noncomputable def AV.clean:AV→Bool
 | .d x=>noLst x
 | .own xs=>AV.cleans xs
 | .tup xs=>AV.cleans xs
 | .dic kvs=>noLsts (kvs.map Prod.snd)
 | .obj _=>false
noncomputable def AV.cleans:List AV→Bool
 | []=>true
 | x::xs=>x.clean && AV.cleans xs
end
noncomputable def Rs(K:W.Frag)(H H':Hp)(v:V)(a:AV):Prop:=Same H H'∧∃ p:Fp,(∀ b,p b≤1)∧(∀ b,0<p b→H b=none)∧RA K (hid H' p fun _=>0) H' v a p
section
variable{K:W.Frag}{G G' H H' H0:Hp}{σ:St}{ρ:Sl}{ts:List V}{as:List TV}{v x y:V}{a b:TV}
theorem RA.clB{p q p' q':Fp}(hl:∀ b,0<p' b+q' b→∃ o,H b=some o∧Mu o):(∀ {v:V} {a:AV} {r:Fp},RA K (hid H p q) H v a r→a.clean=true→RA K (hid H p' q') H v a r)∧∀ {vs:List V} {xs:List AV} {r:Fp},RAs K (hid H p q) H vs xs r→AV.cleans xs=true→RAs K (hid H p' q') H vs xs r:=by
 refine RA.ind (M:=fun v a r=>a.clean=true→RA K (hid H p' q') H v a r) (N:=fun vs xs r=>AV.cleans xs=true→RAs K (hid H p' q') H vs xs r) (fun r e hc=>.d (Rep.hid hl (by simpa [AV.clean] using hc) (r.same hid_le)) e) (fun h i e hc=>.own h (i (by simpa [AV.clean] using hc)) e) (fun h i hc=>.tup (tup_hid hl (hid_le _ _ h)) (i (by simpa [AV.clean] using hc))) (fun {a o kvs qq} h d e hc=>.dic h ?_ e) (fun _ _ _ hc=>by simp[AV.clean] at hc) (fun e _=>.nil e) fun i j e hc=>?_
 ·have hn:noLsts (kvs.map Prod.snd)=true:=by simpa [AV.clean] using hc
  have key:∀ {κ:Type} {ks:List (κ×V)} {ds:List PyData} {en:κ→PyData},Reps K (hid H p q) (ks.map Prod.snd) ds→kvs=(ks.map fun p=>en p.1).zip ds→Reps K (hid H p' q') (ks.map Prod.snd) ds:=fun r z=>by
   rw[z,List.map_snd_zip (by rw[List.length_map,← r.length,List.length_map];exact Nat.le_refl _)] at hn
   exact Reps.hid hl hn (r.same hid_le)
  rcases d with⟨ks,ds,e1,r,z⟩|⟨ks,ds,e1,r,z⟩|⟨ks,ds,n,e1,r,z⟩
  ·exact .inl ⟨ks,ds,e1,key r z,z⟩
  ·exact .inr (.inl ⟨ks,ds,e1,key (en:=fun k=>PyData.tuple (k.map keyD)) r z,z⟩)
  ·exact .inr (.inr ⟨ks,ds,n,e1,key (en:=fun k=>PyData.tuple [keyD k.1,.tuple (k.2.map keyD)]) r z,z⟩)
 ·simp only[AV.cleans,Bool.and_eq_true] at hc
  exact .cons (i hc.1) (j hc.2) e
theorem RA.cl{p q p' q':Fp}(hl:∀ b,0<p' b+q' b→∃ o,H b=some o∧Mu o){v:V}{a:AV}{r:Fp}(hc:a.clean=true)(h:RA K (hid H p q) H v a r):RA K (hid H p' q') H v a r:=(RA.clB hl).1 h hc
theorem RAs.cl{p q p' q':Fp}(hl:∀ b,0<p' b+q' b→∃ o,H b=some o∧Mu o){vs:List V}{xs:List AV}{r:Fp}(hc:AV.cleans xs=true)(h:RAs K (hid H p q) H vs xs r):RAs K (hid H p' q') H vs xs r:=(RA.clB hl).2 h hc
theorem SR.got{c:AV}(h:SR K H0 σ ρ ts as H)(r:Rs K H H' v c)(hc:c.clean=true):SR K H0 σ ρ (v::ts) (.av c::as) H':=by
 obtain⟨e,p0,n1,n2,ra⟩:=r
 obtain⟨⟨p,q,h1,h2,h3,h4⟩,s⟩:=h
 have hL:=SR.lsts h1 h2
 have z:∀ b,0<p b+q b→p0 b=0:=fun b w=>by
  obtain⟨vs,y,_⟩:=hL b w
  rcases Nat.eq_zero_or_pos (p0 b) with u|u
  ·exact u
  ·rw[n2 b u] at y;cases y
 have m:Same (hid H p q) (hid H' p (fun b=>p0 b+q b)):=fun b o w=>by
  unfold hid at w ⊢
  split at w
  ·rename_i y
   have:p0 b=0:=by
    rcases Nat.eq_zero_or_pos (p0 b) with u|u
    ·exact u
    ·rw[n2 b u] at w;cases w
   rw[if_pos (show p b+(p0 b+q b)=0 by omega)]
   exact e b o w
  ·cases w
 refine⟨⟨p,fun b=>p0 b+q b,h1.mono m (fun b o _=>e b o),.cons (.av (RA.cl (p':=p) (q':=fun b=>p0 b+q b) (fun b w=>?_) hc ra)) (h2.mono m e) (fun _=>rfl),fun b=>?_,fun b w=>?_⟩,s.trans e⟩
 ·rcases Nat.eq_zero_or_pos (p0 b) with u|u
  ·have w':0<p b+(p0 b+q b):=w
   obtain⟨vs,y,mu⟩:=hL b (by omega);exact⟨vs,e _ _ y,mu⟩
  ·exact ra.lst b u
 ·have:=h3 b;have:=n1 b;have:=z b
  show p b+(p0 b+q b)≤1
  omega
 ·rcases Nat.eq_zero_or_pos (p0 b) with u|u
  ·have w':0<p b+(p0 b+q b):=w
   exact h4 b (by omega)
  ·exact s.free (n2 b u)
theorem SR.gotB{c:AV}(h:SR K H0 σ ρ ts as H)(r:Rs K H H' v c):SR K H0 σ ρ (v::ts) (.bor c.data::as) H':=by
 obtain⟨e,p0,_,_,ra⟩:=r
 exact (h.ext e).pushB (ra.rep hid_le)
noncomputable def NoOwn(ρ:Sl):Prop:=∀ a∈ρ,∀ x,a=some x→(∃ d,x=.d d)∨∃ φ,x=.obj φ
theorem NoOwn.nil:NoOwn []:=fun _ h=>nomatch h
theorem NoOwn.no(h:NoOwn ρ):NoOwn (none::ρ):=fun b hb x z=>by
 rcases List.mem_cons.mp hb with e|e
 ·subst e;cases z
 ·exact h b e x z
theorem NoOwn.d{d:PyData}(h:NoOwn ρ):NoOwn (some (.d d)::ρ):=fun b hb x z=>by
 rcases List.mem_cons.mp hb with e|e
 ·subst e;cases z;exact .inl ⟨d,rfl⟩
 ·exact h b e x z
theorem NoOwn.o{φ:V→Hp→Prop}(h:NoOwn ρ):NoOwn (some (.obj φ)::ρ):=fun b hb x z=>by
 rcases List.mem_cons.mp hb with e|e
 ·subst e;cases z;exact .inr ⟨φ,rfl⟩
 ·exact h b e x z
theorem RSl.noOwn{p:Fp}(r:RSl K G H σ ρ p)(h:NoOwn ρ):∀ b,p b=0:=by
 induction r with
 | nil e=>exact e
 | no _ ih=>exact ih fun a ha=>h a (.tail _ ha)
 | so ra _ e ih =>
  rcases h _ (.head _) _ rfl with⟨d,rfl⟩|⟨φ,rfl⟩
  ·intro b
   have:=ih (fun a ha=>h a (.tail _ ha)) b
   cases ra with
   | d _ e2=>have:=e b;have:=e2 b;omega
  ·intro b
   have:=ih (fun a ha=>h a (.tail _ ha)) b
   cases ra with
   | obj _ _ e2=>have:=e b;have:=e2 b;omega
theorem RTs.stb{p:Fp}(r:RTs K G H ts as p)(h:Stb as):∀ b,p b=0:=by
 induction r with
 | nil e=>exact e
 | cons r _ e ih =>
  obtain⟨d,rfl⟩:=h _ (.head _)
  intro b
  have:=ih (fun a ha=>h a (.tail _ ha)) b
  cases r with
  | av ra=>cases ra with
   | d _ e2=>have:=e b;have:=e2 b;omega
noncomputable def Sto(ρ:Sl)(a:TV)(a':AV):Prop:=a.sto=some a'∨(∃ c,a=.av c∧a'=.d c.data)∨(NoOwn ρ∧(∃ x,a=.bor x)∧a'=.d a.data)
theorem SR.stoS{a':AV}(h:SR K H0 σ ρ (v::ts) (a::as) H)(hS:Stb as)(e:Sto ρ a a'):SR K H0 σ ρ (v::ts) (.av a'::as) H:=by
 rcases e with e|⟨c,rfl,rfl⟩|⟨n,⟨x,rfl⟩,rfl⟩
 ·exact h.sto e
 ·exact h.frzT
 ·have t:=h.top (a:=.bor x) fun _ z=>nomatch z
  obtain⟨⟨p,q,h1,h2,h3,h4⟩,s⟩:=h.pop
  have z1:=h1.noOwn n
  have z2:=h2.stb hS
  refine⟨⟨p,q,h1,.cons (.av (.d (p:=fun _=>0) (t.same fun b o w=>?_) fun _=>rfl)) h2 (fun b=>by simp),h3,h4⟩,s⟩
  unfold hid
  rw[if_pos (by have:=z1 b;have:=z2 b;omega)]
  exact w
end
noncomputable def ItOk(K:W.Frag)(J:It)(u:V)(z:PyData)(n:Nat)(f:Nat→PyData):Prop :=
 ∀ G H,Same G H→Rep K G u z→(∀ i,i<n→J.go i H∧∀ x H',J.yld i H x H'→Same H H'∧∀ G',Same G G'→(∀ b o,H' b=some o→H b=none→G' b=some o)→Rep K G' x (f i))∧∀ i,n≤i→J.stop i H
noncomputable def TV.frz:TV→TV
 | .av a=>.av (.d a.data)
 | .bor x=>.bor x
 | .raw v=>.raw v
section
variable(K:W.Frag)(E:FK)(X:Exc→Sl→Prop)
noncomputable def Iv(wi:TI)(ρ:Sl)(Q:Nat→(Nat→PyData)→TV→Prop):Prop :=
 ∀ (H0:Hp) (σ:St) (ts:List V) (as:List TV) (H:Hp) (R:It→Hp→Prop),SR K H0 σ ρ ts as H→XOk K E X H0 →
  (∀ n f h,Q n f h→∀ u J H',(∀ v,h≠.raw v)→SR K H0 σ ρ (u::ts) (h::as) H'→ItOk K J u h.data n f→R J H')→wi σ H R
noncomputable def Gv(g:TG)(x:PyData)(ρ:Sl)(P:Sl→Prop):Prop :=
 ∀ (H0:Hp) (σ:St) (ts:List V) (as:List TV) (H:Hp) (v:V) (Qg:St→Hp→Prop),SR K H0 σ ρ (v::ts) (.av (.d x)::as) H→(∀ ρ',P ρ'→∀ σ' H',SR K H0 σ' ρ' ts as H'→Qg σ' H')→g v σ H Qg
end
noncomputable def Wk(ρ ρ':Sl):Prop:=∀ (K:W.Frag) (H0:Hp) (σ:St) (ts:List V) (as:List TV) (H:Hp),SR K H0 σ ρ ts as H→SR K H0 σ ρ' ts as H
section
variable{K:W.Frag}{E:FK}{X:Exc→Sl→Prop}{ρ:Sl}{Q:TV→Prop}{DV:VEnds}{ta tb te:TE}{i j:Int}{n:Nat}{r:R2}{t u:TS}{a b:TV}
theorem ev_imp{Q':TV→Prop}(h:Ev K E X te ρ Q)(m:∀ a,Q a→Q' a):Ev K E X te ρ Q':=fun H0 σ ts as H QV s x q=>h H0 σ ts as H QV s x fun a qa=>q a (m a qa)
theorem SR.var{K:W.Frag}{H0 H:Hp}{σ:St}{ρ:Sl}{ts:List V}{as:List TV}{i:Nat}{a:AV}(s:SR K H0 σ ρ ts as H)(h:ρ[i]?=some (some a)):∃ v,σ[i]?=some (some v)∧(∀ x,a=.d x→SR K H0 σ ρ (v::ts) (.av (.d x)::as) H)∧SR K H0 σ ρ (v::ts) (.bor a.data::as) H:=by
 obtain⟨⟨p,q,h1,h2,h3,h4⟩,e⟩:=s
 obtain⟨p1,p2,v,e1,e2,e3,e4⟩:=h1.frz h fun _ _ _ _=>trivial
 refine⟨v,e2,fun x z=>?_,SR.pushB ⟨⟨p,q,h1,h2,h3,h4⟩,e⟩ (e3.rep hid_le)⟩
 subst z
 cases e3 with
 | d rp z=>exact⟨⟨p,q,h1,.cons (.av (.d (p:=fun _=>0) rp fun _=>rfl)) h2 (fun b=>by simp),h3,h4⟩,e⟩
theorem ev_var{x:PyData}(h:ρ[n]?=some (some (.d x)))(q:Q (.av (.d x))):Ev K E X (tVar n) ρ Q:=fun H0 σ ts as H QV s _ k=>by
 obtain⟨v,e1,e2,_⟩:=s.var h
 exact⟨v,e1,k _ q v H (e2 x rfl)⟩
theorem ev_varB{a:AV}(h:ρ[n]?=some (some a))(q:Q (.bor a.data)):Ev K E X (tVar n) ρ Q:=fun H0 σ ts as H QV s _ k=>by
 obtain⟨v,e1,_,e2⟩:=s.var h
 exact⟨v,e1,k _ q v H e2⟩
theorem ev_int(q:Q (.av (.d (.int i)))):Ev K E X (tC (.int i)) ρ Q:=fun H0 σ ts as H QV s _ k=>k _ q _ H (s.int i)
theorem ev_bl{c:Bool}(q:Q (.av (.d (.bool c)))):Ev K E X (tC (.bl c)) ρ Q:=fun H0 σ ts as H QV s _ k=>k _ q _ H (s.bl c)
theorem ev_str{c:Str}(q:Q (.av (.d (.str c)))):Ev K E X (tC (.str c)) ρ Q:=fun H0 σ ts as H QV s _ k=>k _ q _ H (s.push fun _=>.str c)
theorem ev_non(q:Q (.av (.d .none))):Ev K E X (tC .non) ρ Q:=fun H0 σ ts as H QV s _ k=>k _ q _ H (s.push fun _=>.non)
theorem ev_ty{c:String}(q:Q (.raw (.ty c))):Ev K E X (tC (.ty c)) ρ Q:=fun H0 σ ts as H QV s _ k=>k _ q _ H s.pushR
theorem ev_ref{c:Addr}(q:Q (.raw (.ref c))):Ev K E X (tC (.ref c)) ρ Q:=fun H0 σ ts as H QV s _ k=>k _ q _ H s.pushR
theorem ev_op(h:Ev K E X ta ρ fun a=>Ev K E X tb ρ fun b=>Op K E X r a b Q):Ev K E X (tOp r ta tb) ρ Q:=fun H0 σ ts as H QV s x k =>
 h H0 σ ts as H _ s x fun a qa v H' s'=>qa H0 σ _ _ H' _ s' x fun b qb w H2 s2=>qb H0 σ ρ ts as H2 v w QV s2 x k
theorem ev_un{r:V→Hp→VK→Prop}(h:Ev K E X ta ρ fun a=>Un1 K E X r a Q):Ev K E X (tUn r ta) ρ Q:=fun H0 σ ts as H QV s x k =>
 h H0 σ ts as H _ s x fun a qa v H' s'=>qa H0 σ ρ ts as H' v QV s' x k
theorem un_i{g:Int→Int}(q:Q (.av (.d (.int (g i))))):Un1 K E X (rU fun i=>.int (g i)) (.av (.d (.int i))) Q:=fun H0 σ ρ ts as H x QV s _ k=>by
 have e:=s.top_d.int_inv
 subst e
 exact⟨i,rfl,k _ q _ H (s.pop.int _)⟩
theorem ints2{H0 H:Hp}{σ:St}{ρ:Sl}{ts:List V}{as:List TV}{x y:V}(s:SR K H0 σ ρ (y::x::ts) (.av (.d (.int j))::.av (.d (.int i))::as) H):x=.int i∧y=.int j∧SR K H0 σ ρ ts as H :=
 ⟨s.pop.top_d.int_inv,s.top_d.int_inv,s.pop.pop⟩
theorem op_i0{g:Int→Int→Int}(q:Q (.av (.d (.int (g i j))))):Op K E X (rI0 fun i j=>.int (g i j)) (.av (.d (.int i))) (.av (.d (.int j))) Q:=fun H0 σ ρ ts as H x y QV s _ k=>by
 obtain⟨rfl,rfl,s'⟩:=ints2 s
 exact⟨i,j,rfl,rfl,k _ q _ H (s'.int _)⟩
theorem op_b0{g:Int→Int→Bool}(q:Q (.av (.d (.bool (g i j))))):Op K E X (rI0 fun i j=>.bl (g i j)) (.av (.d (.int i))) (.av (.d (.int j))) Q:=fun H0 σ ρ ts as H x y QV s _ k=>by
 obtain⟨rfl,rfl,s'⟩:=ints2 s
 exact⟨i,j,rfl,rfl,k _ q _ H (s'.bl _)⟩
theorem op_i{C:Int→Int→Prop}{g:Int→Int→Int}(c:C i j)(q:Q (.av (.d (.int (g i j))))):Op K E X (rI C fun i j=>.int (g i j)) (.av (.d (.int i))) (.av (.d (.int j))) Q:=fun H0 σ ρ ts as H x y QV s _ k=>by
 obtain⟨rfl,rfl,s'⟩:=ints2 s
 exact⟨i,j,rfl,rfl,c,k _ q _ H (s'.int _)⟩
theorem op_eqI(q:Q (.av (.d (.bool (decide (i=j)))))):Op K E X rEq (.av (.d (.int i))) (.av (.d (.int j))) Q:=fun H0 σ ρ ts as H x y QV s _ k=>by
 obtain⟨rfl,rfl,s'⟩:=ints2 s
 exact rd_eqI (k _ q _ H (s'.bl _))
theorem op_neI(q:Q (.av (.d (.bool (!decide (i=j)))))):Op K E X rNe (.av (.d (.int i))) (.av (.d (.int j))) Q:=fun H0 σ ρ ts as H x y QV s _ k=>by
 obtain⟨rfl,rfl,s'⟩:=ints2 s
 exact rd_neI (k _ q _ H (s'.bl _))
theorem Rep.bl_inv{H:Hp}{v:V}{c:Bool}(h:Rep K H v (.bool c)):v=.bl c:=by cases h;rfl
noncomputable def NR(a:TV):Prop:=∀ v,a≠.raw v
theorem NR.av{c:AV}:NR (.av c):=fun _ z=>nomatch z
theorem NR.bor{c:PyData}:NR (.bor c):=fun _ z=>nomatch z
theorem op_eqd{α:Type}[DecidableEq α]{f:α→PyData}{m:Nat}{c d:α}(F:Enc f m)(ha:a.data=f c)(hb:b.data=f d)(q:Q (.av (.d (.bool (decide (c=d))))))(na:NR a:=by first|exact NR.av|exact NR.bor)(nb:NR b:=by first|exact NR.av|exact NR.bor)(hm:m≤32:=by decide):Op K E X (rEqD K) a b Q:=fun H0 σ ρ ts as H x y QV s _ k =>
 rd_eqD F (ha▸s.pop.top na) (hb▸s.top nb) (k _ q _ H (s.pop.pop.bl _)) hm
theorem op_ned{α:Type}[DecidableEq α]{f:α→PyData}{m:Nat}{c d:α}(F:Enc f m)(ha:a.data=f c)(hb:b.data=f d)(q:Q (.av (.d (.bool (!decide (c=d))))))(na:NR a:=by first|exact NR.av|exact NR.bor)(nb:NR b:=by first|exact NR.av|exact NR.bor)(hm:m≤32:=by decide):Op K E X (rNeD K) a b Q:=fun H0 σ ρ ts as H x y QV s _ k =>
 rd_neD F (ha▸s.pop.top na) (hb▸s.top nb) (k _ q _ H (s.pop.pop.bl _)) hm
theorem Reps.atI{H:Hp}{vs:List V}{ds:List PyData}{k:Int}{y:PyData}(h:Reps K H vs ds)(e:atI ds k=some y):∃ v,L2.atI vs k=some v∧Rep K H v y:=by
 unfold L2.atI at e ⊢
 rw[h.length]
 cases z:ixN ds.length k with
 | none=>rw[z] at e;cases e
 | some j =>
  rw[z] at e
  obtain⟨v,e1,e2⟩:=h.get (i:=j) (d:=y) e
  exact⟨v,e1,e2⟩
noncomputable def Item(a:TV)(y:PyData)(c:TV):Prop:=(a=.av (.d a.data)∧c=.av (.d y))∨(noLst y=true∧c=.av (.d y))∨c=.bor y
theorem SR.item{H0 H:Hp}{σ:St}{ρ:Sl}{ts:List V}{as:List TV}{x:V}{a c:TV}{y:PyData}(s:SR K H0 σ ρ (x::ts) (a::as) H)(na:NR a)(it:Item a y c)(P:V→Prop)(h:∀ G,Rep K G x a.data→Same G H→∃ v,P v∧Rep K G v y):∃ v,P v∧SR K H0 σ ρ (v::ts) (c::as) H:=by
 rcases it with⟨e,rfl⟩|⟨hy,rfl⟩|rfl
 ·rw[e] at s
  obtain⟨⟨p,q,h1,h2,h3,h4⟩,e'⟩:=s
  cases h2 with
  | cons r rs z=>cases r with
   | av r=>cases r with
    | d rp w =>
     obtain⟨v,e1,e2⟩:=h _ rp hid_le
     exact⟨v,e1,⟨p,q,h1,.cons (.av (.d e2 w)) rs z,h3,h4⟩,e'⟩
 ·obtain⟨v,e1,e2⟩:=h _ (s.top na) (.refl H)
  exact⟨v,e1,s.pop.pushF hy e2⟩
 ·obtain⟨v,e1,e2⟩:=h _ (s.top na) (.refl H)
  exact⟨v,e1,s.pop.pushB e2⟩
theorem Item.d{x y:PyData}:Item (.av (.d x)) y (.av (.d y)):=.inl ⟨rfl,rfl⟩
theorem Item.flat{y:PyData}(h:noLst y=true):Item a y (.av (.d y)):=.inr (.inl ⟨h,rfl⟩)
theorem op_ixL{ds:List PyData}{y:PyData}{c:TV}{k:Int}(ha:a.data=.list ds)(e:atI ds k=some y)(it:Item a y c)(q:Q c)(na:NR a:=by first|exact NR.av|exact NR.bor):Op K E X (rIxL K) a (.av (.d (.int k))) Q:=fun H0 σ ρ ts as H x w QV s _ kk=>by
 have e2:=s.top_d.int_inv
 subst e2
 obtain⟨v,⟨p,xs,e3,e4,e5⟩,s'⟩:=s.pop.item na it (fun v=>∃ p xs,x=.ref p∧SqL K H p xs∧L2.atI xs k=some v) fun G rp sm=>by
  rw[ha] at rp
  obtain⟨p,xs,rfl,h1,h2⟩:=rp.list_inv
  obtain⟨v,h3,h4⟩:=Reps.atI h2 e
  exact⟨v,⟨p,xs,rfl,sm.seq h1,h3⟩,h4⟩
 exact⟨p,xs,k,v,e3,rfl,e4,e5,kk _ q _ H s'⟩
theorem op_ixT{ds:List PyData}{y:PyData}{c:TV}{k:Int}(ha:a.data=.tuple ds)(e:atI ds k=some y)(it:Item a y c)(q:Q c)(na:NR a:=by first|exact NR.av|exact NR.bor):Op K E X (rIxT K) a (.av (.d (.int k))) Q:=fun H0 σ ρ ts as H x w QV s _ kk=>by
 have e2:=s.top_d.int_inv
 subst e2
 obtain⟨v,⟨p,xs,e3,e4,e5⟩,s'⟩:=s.pop.item na it (fun v=>∃ p xs,x=.ref p∧SqT K H p xs∧L2.atI xs k=some v) fun G rp sm=>by
  rw[ha] at rp
  obtain⟨p,xs,rfl,h1,h2⟩:=rp.tuple_inv
  obtain⟨v,h3,h4⟩:=Reps.atI h2 e
  exact⟨v,⟨p,xs,rfl,sm.tupS h1,h3⟩,h4⟩
 exact⟨p,xs,k,v,e3,rfl,e4,e5,kk _ q _ H s'⟩
theorem ea_nil{P:List TV→Prop}(q:P []):Ea K E X tNil ρ P:=fun H0 σ ts as H QV s _ k=>k [] q [] H s rfl
theorem ea_cons{A:TA}{P:List TV→Prop}(h:Ev K E X ta ρ fun a=>Ea K E X A ρ fun bs=>P (a::bs)):Ea K E X (tCons ta A) ρ P:=fun H0 σ ts as H QV s x k =>
 h H0 σ ts as H _ s x fun a qa v H' s'=>qa H0 σ _ _ H' _ s' x fun bs qb vs H2 s2 hl=>k (a::bs) qb (v::vs) H2 (s2.rot hl) (by simp[hl])
theorem ev_cb{r:List V→Hp→VK→Prop}{A:TA}(h:Ea K E X A ρ fun bs=>Bi K E X r bs Q):Ev K E X (tCB r A) ρ Q:=fun H0 σ ts as H QV s x k =>
 h H0 σ ts as H _ s x fun bs qb vs H2 s2 hl=>qb H0 σ ρ ts as H2 vs QV s2 hl x k
theorem Stos.len{bs:List TV}{xs:List AV}(h:Stos bs xs):bs.length=xs.length:=by
 induction h with
 | nil=>rfl
 | cons _ _ ih=>simp[ih]
theorem ev_lst{A:TA}(h:Ea K E X A ρ fun bs=>∃ xs,Stos bs xs∧bs.length≤1000∧Q (.av (.own xs))):Ev K E X (tLst A) ρ Q:=fun H0 σ ts as H QV s x k =>
 h H0 σ ts as H _ s x fun bs ⟨xs,hs,hz,q⟩ vs H2 s2 hl=>⟨Nat.le_of_lt (small1000 (by omega)),fun p hp=>k _ q _ _ (SR.new (SR.stos (us:=[]) (cs:=[]) hs hl rfl s2) (by rw[hl,hs.len]) hp)⟩
theorem SR.newT{H0 H:Hp}{σ:St}{ρ:Sl}{ts:List V}{as:List TV}{l:Addr}{vs:List V}{xs:List AV}(h:SR K H0 σ ρ (vs++ts) (xs.map TV.av++as) H)(e:vs.length=xs.length)(hl:H l=none):SR K H0 σ ρ (.ref l::ts) (.av (.d (.tuple (AV.datas xs)))::as) (upd H l (.tup vs)):=by
 obtain⟨⟨p,q,h1,h2,h3,h4⟩,s⟩:=h
 have hL:=SR.lsts h1 h2
 obtain⟨p1,p2,e2,e3,e4⟩:=RTs.avs (xs:=xs) e h2
 have s2:Same H (upd H l (.tup vs)):=same_new hl
 have zl:p l+q l=0:=by
  rcases Nat.eq_zero_or_pos (p l+q l) with w|w
  ·exact w
  ·obtain⟨_,w,_⟩:=hL l w;rw[hl] at w;cases w
 have m:Same (hid H p q) (hid (upd H l (.tup vs)) p p2):=(hid_more (p':=p) (q':=p2) fun b z=>by have:=e2 b;omega).trans (same_hid s2)
 refine⟨⟨p,p2,h1.mono m (fun b o _=>s2 b o),.cons (.av (.d (p:=fun _=>0) (.tup ?_ (e3.frz m fun b o y z=>?_)) fun _=>rfl)) (e4.mono m s2) (fun b=>by simp),fun b=>by have:=e2 b;have:=h3 b;omega,fun b z=>h4 b (by have:=e2 b;omega)⟩,s.trans s2⟩
 ·unfold hid;rw[if_pos (by have:=e2 l;omega)];exact upd_same
 ·unfold hid;rw[if_pos (by have:=e2 b;have:=h3 b;omega)];exact s2 b o z
theorem ev_tup{A:TA}(h:Ea K E X A ρ fun bs=>∃ xs,Stos bs xs∧bs.length≤1000∧Q (.av (.d (.tuple (AV.datas xs))))):Ev K E X (tTup A) ρ Q:=fun H0 σ ts as H QV s x k =>
 h H0 σ ts as H _ s x fun bs ⟨xs,hs,hz,q⟩ vs H2 s2 hl=>⟨Nat.le_of_lt (small1000 (by omega)),fun p hp=>k _ q _ _ (SR.newT (SR.stos (us:=[]) (cs:=[]) hs hl rfl s2) (by rw[hl,hs.len]) hp)⟩
theorem tv_test{P:Bool→Prop}(h:Ev K E X te ρ fun a=>∃ c,a=.av (.d (.bool c))∧P c):Tv K E X (tTest te) ρ P:=fun H0 σ ts as H QV s x k =>
 h H0 σ ts as H _ s x fun a ⟨c,e,p⟩ v H' s'=>by subst e;exact⟨c,Rep.bl_inv s'.top_d,k c p H' s'.pop⟩
theorem tv_b{P:Bool→Prop}(h:Ev K E X te ρ fun a=>∃ c,a=.av (.d (.bool c))∧P c):Tv K E X (tB te) ρ P:=tv_test h
theorem tv_and{ca cb:TT}{P:Bool→Prop}(h:Tv K E X ca ρ fun c=>if c=true then Tv K E X cb ρ P else P false):Tv K E X (tAnd ca cb) ρ P:=fun H0 σ ts as H QV s x k =>
 h H0 σ ts as H _ s x fun c qc H' s'=>by
  cases c with
  | true=>rw[if_pos rfl] at qc ⊢;exact qc H0 σ ts as H' QV s' x k
  | false=>rw[if_neg Bool.false_ne_true] at qc ⊢;exact k _ qc H' s'
theorem tv_or{ca cb:TT}{P:Bool→Prop}(h:Tv K E X ca ρ fun c=>if c=true then P true else Tv K E X cb ρ P):Tv K E X (tOr ca cb) ρ P:=fun H0 σ ts as H QV s x k =>
 h H0 σ ts as H _ s x fun c qc H' s'=>by
  cases c with
  | true=>rw[if_pos rfl] at qc ⊢;exact k _ qc H' s'
  | false=>rw[if_neg Bool.false_ne_true] at qc ⊢;exact qc H0 σ ts as H' QV s' x k
theorem tv_not{ca:TT}{P:Bool→Prop}(h:Tv K E X ca ρ fun c=>P (!c)):Tv K E X (tNot ca) ρ P:=fun H0 σ ts as H QV s x k =>
 h H0 σ ts as H _ s x fun c qc H' s'=>k _ qc H' s'
theorem tv_all{P:Bool→Prop}(q:P true):Tv K E X tAll ρ P:=fun H0 σ ts as H QV s x k=>k _ q H s
theorem ev_and(h:Ev K E X ta ρ fun a=>∃ c,a=.av (.d (.bool c))∧if c=true then Ev K E X tb ρ Q else Q (.av (.d (.bool false)))):Ev K E X (tAndV ta tb) ρ Q:=fun H0 σ ts as H QV s x k =>
 h H0 σ ts as H _ s x fun a ⟨c,e,p⟩ v H' s'=>by
  subst e
  refine⟨c,Rep.bl_inv s'.top_d,?_⟩
  cases c with
  | true=>rw[if_pos rfl] at p ⊢;exact p H0 σ ts as H' QV s'.pop x k
  | false=>rw[if_neg Bool.false_ne_true] at p ⊢;exact k _ p _ H' (s'.pop.bl false)
theorem sv_seq(h:Sv K E X t ρ { DV with nx:=fun ρ'=>Sv K E X u ρ' DV }):Sv K E X (tSeq t u) ρ DV:=fun H0 σ ts as H D st s x f =>
 h H0 σ ts as H { D with nx:=u D } st s x ⟨fun ρ' q σ' H' s'=>q H0 σ' ts as H' D st s' x f,f.bk,f.ct,f.rt⟩
theorem sv_next(h:DV.nx ρ):Sv K E X tNext ρ DV:=fun H0 σ ts as H D st s x f=>f.nx ρ h σ H s
theorem sv_drop(h:Ev K E X te ρ fun _=>DV.nx ρ):Sv K E X (tDrop te) ρ DV:=fun H0 σ ts as H D st s x f =>
 h H0 σ ts as H _ s x fun a q v H' s'=>f.nx ρ q σ H' s'.pop
theorem sv_ret(h:Ev K E X te ρ DV.rt):Sv K E X (tRet te) ρ DV:=fun H0 σ ts as H D st s x f =>
 h H0 σ ts as H _ s x fun a q v H' s'=>f.rt a q v σ ρ H' s'
theorem sv_if{c:TT}(h:Tv K E X c ρ fun b=>if b=true then Sv K E X t ρ DV else Sv K E X u ρ DV):Sv K E X (tIfS c t u) ρ DV:=fun H0 σ ts as H D st s x f =>
 h H0 σ ts as H _ s x fun c qc H' s'=>by
  cases c with
  | true=>rw[if_pos rfl] at qc ⊢;exact qc H0 σ ts as H' D st s' x f
  | false=>rw[if_neg Bool.false_ne_true] at qc ⊢;exact qc H0 σ ts as H' D st s' x f
theorem sv_asg(h:Ev K E X te ρ fun a=>∃ a',Sto ρ a a'∧DV.nx (ρ.set n (some a')))(hn:n<ρ.length:=by simp):Sv K E X (tAsg te (gName n)) ρ DV:=fun H0 σ ts as H D st s x f =>
 h H0 σ ts as H _ s x fun a ⟨a',e,q⟩ v H' s'=>f.nx _ q _ H' ((s'.stoS st e).store hn)
theorem gv_name{x:PyData}{P:Sl→Prop}(h:P (ρ.set n (some (.d x))))(hn:n<ρ.length:=by simp):Gv K (gName n) x ρ P:=fun H0 σ ts as H v Qg s k=>k _ h _ H (s.store hn)
end
end VL
end
section
namespace VL
open PySem PySem.Spec L2
variable[Tabs]
theorem small6{n:Nat}(h:n≤1000000):n<sizeLine:=Nat.lt_of_le_of_lt h (by decide)
section
variable{K:W.Frag}{G G' H H' H0:Hp}{σ:St}{ρ:Sl}{ts:List V}{as:List TV}{v x y:V}{a b:TV}
theorem RAs.len:∀ {vs:List V} {xs:List AV} {p:Fp},RAs K G H vs xs p→vs.length=xs.length
 | _,_,_,.nil _=>rfl
 | _,_,_,.cons _ rs _=>by simp[RAs.len rs]
theorem RAs.snoc{w:V}{c:AV}{q:Fp}(r:RA K G H w c q):∀ {vs:List V} {xs:List AV} {p:Fp},RAs K G H vs xs p→RAs K G H (vs++[w]) (xs++[c]) (fun b=>p b+q b)
 | _,_,_,.nil e=>.cons r (.nil (p:=fun _=>0) fun _=>rfl) (fun b=>by have:=e b;simp;omega)
 | _,_,_,.cons (p:=p1) (q:=q1) r1 rs e=>.cons r1 (RAs.snoc r rs) (fun b=>by have:=e b;show _+q b=p1 b+(q1 b+q b);omega)
theorem RAs.rev:∀ {vs:List V} {xs:List AV} {p:Fp},RAs K G H vs xs p→∃ p':Fp,(∀ b,p' b=p b)∧RAs K G H vs.reverse xs.reverse p'
 | _,_,p,.nil e=>⟨p,fun _=>rfl,.nil e⟩
 | _,_,_,.cons (p:=p1) r1 rs e=>by
  obtain⟨p',h1,h2⟩:=RAs.rev rs
  refine⟨fun b=>p' b+p1 b,fun b=>by have:=e b;have:=h1 b;dsimp only;omega,?_⟩
  rw[List.reverse_cons,List.reverse_cons]
  exact RAs.snoc r1 h2
theorem SR.writeE{i:Nat}{xs xs':List AV}{c:AV}(h:SR K H0 σ ρ (v::ts) (.av c::as) H)(hS:Stb as)(hi:ρ[i]?=some (some (.own xs))) :
  ∃ l vs,σ[i]?=some (some (.ref l))∧H l=some (.lst vs)∧vs.length=xs.length∧∀ vs',(∀ G H' p q,(∀ b o,0<q b→H b=some o→H' b=some o)→RAs K G H' vs xs p→RA K G H' v c q→∃ p':Fp,(∀ b,p' b≤p b+q b)∧RAs K G H' vs' xs' p')→SR K H0 σ (ρ.set i (some (.own xs'))) ts as (upd H l (.lst vs')):=by
 obtain⟨⟨p,q,h1,h2,h3,h4⟩,s⟩:=h
 obtain⟨p1,p2,w,e1,e2,e3,e4⟩:=h1.frz hi fun _ _ _ _=>trivial
 cases h2 with
 | @cons _ _ _ _ q1 q2 _ r rs eq =>
  cases r with
  | av r =>
  cases e3 with
  | @own l vs _ p3 _ hl hr ep =>
   refine⟨l,vs,e2,hl,hr.len,fun vs' hw=>?_⟩
   have hpl:p1 l=1+p3 l:=by have:=ep l;simpa using this
   have ne:∀ b u,p b+q b=0→H b=some u→b≠l:=fun b u z _ y=>by subst y;have:=e1 b;omega
   have m0:Same (hid H p q) (hid (upd H l (.lst vs')) p q):=hid_upd fun b u z w=>⟨z,ne b u z w⟩
   have k1:∀ b o,0<p3 b→H b=some o→upd H l (.lst vs') b=some o:=fun b o z w=>by
    rw[upd_ne (fun y=>by subst y;have:=h3 b;have:=e1 b;omega)];exact w
   have k2:∀ b o,0<q b→H b=some o→upd H l (.lst vs') b=some o:=fun b o z w=>by
    rw[upd_ne (fun y=>by subst y;have:=h3 b;have:=e1 b;omega)];exact w
   have k3:∀ b o,0<p2 b→H b=some o→upd H l (.lst vs') b=some o:=fun b o z w=>by
    rw[upd_ne (fun y=>by subst y;have:=h3 b;have:=e1 b;omega)];exact w
   obtain⟨p',l1,l2⟩:=hw _ _ _ _ (fun b o z=>k2 b o (by have:=eq b;omega)) (hr.mono m0 k1) (r.mono m0 fun b o z=>k2 b o (by have:=eq b;omega))
   have z:=e4 (hid (upd H l (.lst vs')) p q) (upd H l (.lst vs')) (.ref l) (.own xs') (fun b=>(if b=l then 1 else 0)+p' b) (fun b=>((if b=l then 1 else 0)+p' b)+p2 b) m0 k3 (.own upd_same l2 fun _=>rfl) (fun _=>rfl)
   rw[set_same e2] at z
   have s2:Same H0 (upd H l (.lst vs')):=s.updF (h4 l (by have:=e1 l;omega))
   refine SR.of_le (p:=p) (q:=q) (p':=fun b=>((if b=l then 1 else 0)+p' b)+p2 b) (q':=q2) s2 h3 h4 (fun b=>?_) z (rs.monoS m0 hS fun b o y=>k2 b o (by have:=eq b;omega))
   have:=l1 b;have:=ep b;have:=e1 b;have:=eq b
   show ((if b=l then 1 else 0)+p' b)+p2 b+q2 b≤p b+q b
   omega
theorem SR.write{i:Nat}{xs xs':List AV}{c:AV}(h:SR K H0 σ ρ (v::ts) (.av c::as) H)(hS:Stb as)(hi:ρ[i]?=some (some (.own xs))) :
  ∃ l vs,σ[i]?=some (some (.ref l))∧H l=some (.lst vs)∧vs.length=xs.length∧∀ vs',(∀ G H p q,RAs K G H vs xs p→RA K G H v c q→∃ p':Fp,(∀ b,p' b≤p b+q b)∧RAs K G H vs' xs' p')→SR K H0 σ (ρ.set i (some (.own xs'))) ts as (upd H l (.lst vs')):=by
 obtain⟨l,vs,e1,e2,e3,e4⟩:=h.writeE (xs':=xs') hS hi
 exact⟨l,vs,e1,e2,e3,fun vs' hw=>e4 vs' fun G H' p q _=>hw G H' p q⟩
theorem RSl.take{m:Nat}{c:AV}{p:Fp}(r:RSl K G H σ ρ p)(hm:ρ[m]?=some (some c)):∃ (p1 p2:Fp) (w:V),(∀ b,p b=p1 b+p2 b)∧σ[m]?=some (some w)∧RA K G H w c p1∧RSl K G H σ (ρ.set m none) p2:=by
 induction r generalizing m with
 | nil _=>simp at hm
 | @no o σ ρ p r ih =>
  cases m with
  | zero=>simp at hm
  | succ m =>
   obtain⟨p1,p2,w,e1,e2,e3,e4⟩:=ih (by simpa using hm)
   exact⟨p1,p2,w,e1,by simpa using e2,e3,.no e4⟩
 | @so v a0 σ ρ pa pb pr ra r e ih =>
  cases m with
  | zero =>
   have:a0=c:=by simpa using hm
   subst this
   exact⟨pa,pb,v,e,rfl,ra,.no r⟩
  | succ m =>
   obtain⟨p1,p2,w,e1,e2,e3,e4⟩:=ih (by simpa using hm)
   exact⟨p1,fun b=>pa b+p2 b,w,fun b=>by have:=e b;have:=e1 b;dsimp only;omega,by simpa using e2,e3,.so ra e4 fun _=>rfl⟩
theorem SR.take{m:Nat}{c:AV}(h:SR K H0 σ ρ ts as H)(hm:ρ[m]?=some (some c)):∃ w,σ[m]?=some (some w)∧SR K H0 σ (ρ.set m none) (w::ts) (.av c::as) H:=by
 obtain⟨⟨p,q,h1,h2,h3,h4⟩,s⟩:=h
 obtain⟨p1,p2,w,e1,e2,e3,e4⟩:=h1.take hm
 refine⟨w,e2,SR.of_le (p:=p) (q:=q) (p':=p2) (q':=fun b=>p1 b+q b) s h3 h4 (fun b=>?_) e4 (.cons (.av e3) h2 fun _=>rfl)⟩
 have:=e1 b
 show p2 b+(p1 b+q b)≤_
 omega
theorem SR.snocT{D:Addr}{ys:List AV}{c:AV}(h:SR K H0 σ ρ (v::.ref D::ts) (.av c::.av (.own ys)::as) H)(hS:Stb as):∃ vs,H D=some (.lst vs)∧vs.length=ys.length∧SR K H0 σ ρ (.ref D::ts) (.av (.own (ys++[c]))::as) (upd H D (.lst (vs++[v]))):=by
 obtain⟨⟨p,q,h1,h2,h3,h4⟩,s⟩:=h
 cases h2 with
 | @cons _ _ _ _ qa qb _ r rs eq =>
 cases r with
 | av r =>
 cases rs with
 | @cons _ _ _ _ qc qd _ r2 rs eq2 =>
 cases r2 with
 | av r2 =>
 cases r2 with
 | @own l vs _ p3 _ hl hr ep =>
  refine⟨vs,hl,hr.len,?_⟩
  have hpl:qc D=1+p3 D:=by have:=ep D;simpa using this
  have ne:∀ b u,p b+q b=0→H b=some u→b≠D:=fun b u z _ y=>by subst y;have:=eq b;have:=eq2 b;omega
  have m0:Same (hid H p q) (hid (upd H D (.lst (vs++[v]))) p q):=hid_upd fun b u z w=>⟨z,ne b u z w⟩
  have k1:∀ b o,0<p b+qa b+qd b+p3 b→H b=some o→upd H D (.lst (vs++[v])) b=some o:=fun b o z w=>by
   rw[upd_ne (fun y=>by subst y;have:=h3 b;have:=eq b;have:=eq2 b;omega)];exact w
  have s2:Same H0 (upd H D (.lst (vs++[v]))):=s.updF (h4 D (by have:=eq D;have:=eq2 D;omega))
  refine⟨⟨p,fun b=>((if b=D then 1 else 0)+(p3 b+qa b))+qd b,?_,.cons (.av (.own upd_same (RAs.snoc (r.mono ?_ fun b o z=>k1 b o (by omega)) (hr.mono ?_ fun b o z=>k1 b o (by omega))) fun _=>rfl)) (rs.monoS ?_ hS fun b o z=>k1 b o (by omega)) (fun _=>rfl),?_,?_⟩,s2⟩
  all_goals first
   | (refine h1.mono (m0.trans (hid_more fun b z=>?_)) fun b o z=>k1 b o (by omega))
   | (refine m0.trans (hid_more fun b z=>?_))
   | intro b
  all_goals (try (intro z))
  all_goals (have e5:=eq b;have e6:=eq2 b;have e7:=ep b;have e8:=h3 b)
  all_goals first
   | (show p b+(((if b=D then 1 else 0)+(p3 b+qa b))+qd b)=0;omega)
   | (show p b+(((if b=D then 1 else 0)+(p3 b+qa b))+qd b)≤1;omega)
   | (refine h4 b ?_;have z':0<p b+(((if b=D then 1 else 0)+(p3 b+qa b))+qd b):=z;omega)
end
section
variable{K:W.Frag}{E:FK}{X:Exc→Sl→Prop}{ρ:Sl}{Q:TV→Prop}{DV:VEnds}{ta tb te:TE}{i j:Int}{n:Nat}{r:R2}{t u:TS}{a b:TV}
theorem sv_append{xs:List AV}(hi:ρ[n]?=some (some (.own xs)))(h:Ev K E X te ρ fun a=>∃ a',a.sto=some a'∧xs.length≤1000000∧DV.nx (ρ.set n (some (.own (xs++[a']))))):Sv K E X (tDrop (tBM K "list" rAppend (tVar n) (tCons te tNil))) ρ DV:=fun H0 σ ts as H D st s x f=>by
 obtain⟨l,vs,e1,e2,e3,_⟩:=(s.push (x:=.none) fun _=>.non).write (xs':=xs) st hi
 refine⟨.ref l,e1,rd_tyL e2 (h H0 σ ts as H _ s x fun a ⟨a',e,hz,q⟩ v H' s'=>?_)⟩
 obtain⟨l',vs',e1',e2',e3',e4'⟩:=(s'.sto e).write (xs':=xs++[a']) st hi
 rw[e1] at e1'
 cases e1'
 refine⟨l,vs',v,rfl,rfl,e2',small6 (by omega),f.nx _ q _ _ (e4' _ fun G H p q r1 r2=>⟨_,fun _=>Nat.le_refl _,RAs.snoc r2 r1⟩)⟩
theorem sv_reverse{xs:List AV}(hi:ρ[n]?=some (some (.own xs)))(h:DV.nx (ρ.set n (some (.own xs.reverse)))):Sv K E X (tDrop (tBM0 K "list" rReverse (tVar n))) ρ DV:=fun H0 σ ts as H D st s x f=>by
 obtain⟨l,vs,e1,e2,e3,e4⟩:=(s.push (x:=.none) fun _=>.non).write (xs':=xs.reverse) st hi
 refine⟨.ref l,e1,rd_tyL e2 ⟨l,vs,rfl,rfl,e2,f.nx _ h _ _ (e4 _ fun G H p q r1 r2=>?_)⟩⟩
 obtain⟨p',h1,h2⟩:=r1.rev
 exact⟨p',fun b=>by have:=h1 b;omega,h2⟩
theorem sv_retO{xs:List AV}(hm:ρ[n]?=some (some (.own xs)))(q:DV.rt (.av (.own xs))):Sv K E X (tRet (tVar n)) ρ DV:=fun H0 σ ts as H D st s x f=>by
 obtain⟨w,g1,s'⟩:=s.take hm
 exact⟨w,g1,f.rt _ q _ _ _ _ s'⟩
end
end VL
end
section
namespace VL
open PySem PySem.Spec L2
variable[Tabs]
section
variable{K:W.Frag}{G G' H H' H0:Hp}{σ:St}{ρ:Sl}{ts:List V}{as:List TV}{v x y:V}{a b:TV}
theorem SR.turn{J:It}{u:V}{z:PyData}{n i:Nat}{f:Nat→PyData}(s:SR K H0 σ ρ (u::ts) (.av (.d z)::as) H)(ok:ItOk K J u z n f)(hi:i<n):J.go i H∧∀ x H',J.yld i H x H'→SR K H0 σ ρ (x::u::ts) (.av (.d (f i))::.av (.d z)::as) H':=by
 have s0:=s
 obtain⟨⟨p,q,h1,h2,h3,h4⟩,e⟩:=s
 have hL:=SR.lsts h1 h2
 cases h2 with
 | @cons _ _ _ _ q1 q2 _ r rs eq =>
 cases r with
 | av r =>
 cases r with
 | d rp w =>
  obtain⟨g1,_⟩:=ok _ H hid_le rp
  obtain⟨g2,g3⟩:=g1 i hi
  refine⟨g2,fun x H' y=>?_⟩
  obtain⟨e1,e2⟩:=g3 x H' y
  have s1:=s0.ext e1
  obtain⟨⟨p',q',k1,k2,k3,k4⟩,e'⟩:=s1
  have m:Same (hid H p q) (hid H' p q):=same_hid e1
  refine⟨⟨p,q,h1.mono m (fun b o _=>e1 b o),.cons (.av (.d (p:=fun _=>0) (e2 (hid H' p q) m fun b o hb hn=>?_) fun _=>rfl)) (.cons (.av (.d (rp.same m) w)) (rs.mono m e1) eq) (fun b=>by simp),h3,h4⟩,e'⟩
  unfold hid
  rw[if_pos]
  ·exact hb
  ·rcases Nat.eq_zero_or_pos (p b+q b) with c|c
   ·exact c
   ·obtain⟨vs,y,mu⟩:=hL b c;rw[hn] at y;cases y
theorem SR.halt{J:It}{u:V}{z:PyData}{n i:Nat}{f:Nat→PyData}(s:SR K H0 σ ρ (u::ts) (a::as) H)(na:NR a)(ez:a.data=z)(ok:ItOk K J u z n f)(hi:n≤i):J.stop i H:=(ok H H (.refl H) (ez▸s.top na)).2 i hi
end
section
variable{K:W.Frag}{E:FK}{X:Exc→Sl→Prop}{ρ:Sl}{Q:TV→Prop}{DV:VEnds}{ta tb te:TE}{i j:Int}{n:Nat}{r:R2}{t u:TS}{a b:TV}
theorem SR.frzV{H0 H:Hp}{σ:St}{ts:List V}{as:List TV}{v:V}(s:SR K H0 σ ρ (v::ts) (a::as) H):SR K H0 σ ρ (v::ts) (a.frz::as) H:=by
 cases a with
 | av a=>exact s.frzT
 | bor x=>exact s
 | raw v=>exact s
theorem TV.frz_data(a:TV):a.frz.data=a.data:=by cases a<;>rfl
theorem TV.frz_nr(h:NR a):NR a.frz:=by
 cases a with
 | av a=>exact NR.av
 | bor x=>exact NR.bor
 | raw v=>exact absurd rfl (h v)
theorem it_range{lo:Int}{m:Nat}:ItOk K (Itr lo m) .non .none m fun i=>.int (lo+i):=fun G H sm rp =>
 ⟨fun i hi=>⟨hi,fun x H' ⟨e1,e2⟩=>by subst e1 e2;exact⟨.refl _,fun _ _ _=>.int _⟩⟩,fun i hi=>hi⟩
theorem ints_of{H0 H:Hp}{σ:St}{ts:List V}{as:List TV}{vs:List V}(s:SR K H0 σ ρ (vs++ts) ([.av (.d (.int i))]++as) H)(hl:vs.length=1):vs=[.int i]∧SR K H0 σ ρ ts as H:=by
 match vs,hl with
 | [v],_ =>
  have e:=SR.top_d (v:=v) s
  rw[e.int_inv]
  exact⟨rfl,SR.pop (v:=v) s⟩
theorem ints_of2{H0 H:Hp}{σ:St}{ts:List V}{as:List TV}{vs:List V}(s:SR K H0 σ ρ (vs++ts) ([.av (.d (.int i)),.av (.d (.int j))]++as) H)(hl:vs.length=2):vs=[.int i,.int j]∧SR K H0 σ ρ ts as H:=by
 match vs,hl with
 | [v,w],_ =>
  have s':SR K H0 σ ρ (v::w::ts) (.av (.d (.int i))::.av (.d (.int j))::as) H:=s
  have e1:=s'.top_d.int_inv
  have e2:=s'.pop.top_d.int_inv
  subst e1 e2
  exact⟨rfl,s'.pop.pop⟩
theorem iv_rng1{A:TA}{P:Nat→(Nat→PyData)→TV→Prop}(h:Ea K E X A ρ fun bs=>∃ j,bs=[.av (.d (.int j))]∧(-(2 ^ 62)≤j∧j<2 ^ 62)∧P j.toNat (fun i=>.int (0+(i:Int))) (.av (.d .none))):Iv K E X (iRng1 A) ρ P:=fun H0 σ ts as H R s x k =>
 h H0 σ ts as H _ s x fun bs ⟨j,e,hj,q⟩ vs H' s' hl=>by
  subst e
  obtain⟨rfl,s2⟩:=ints_of s' hl
  exact⟨j,rfl,hj.1,hj.2,k _ _ _ q .non _ H' (fun _ z=>nomatch z) (s2.push fun _=>.non) it_range⟩
theorem iv_rng2{A:TA}{P:Nat→(Nat→PyData)→TV→Prop}(h:Ea K E X A ρ fun bs=>∃ i j,bs=[.av (.d (.int i)),.av (.d (.int j))]∧(-(2 ^ 62)≤i∧i<2 ^ 62∧-(2 ^ 62)≤j∧j<2 ^ 62)∧P (j-i).toNat (fun k=>.int (i+(k:Int))) (.av (.d .none))):Iv K E X (iRng2 A) ρ P:=fun H0 σ ts as H R s x k =>
 h H0 σ ts as H _ s x fun bs ⟨i,j,e,hj,q⟩ vs H' s' hl=>by
  subst e
  obtain⟨rfl,s2⟩:=ints_of2 s' hl
  exact⟨i,j,rfl,hj,k _ _ _ q .non _ H' (fun _ z=>nomatch z) (s2.push fun _=>.non) it_range⟩
theorem sv_for{wi:TI}{g:TG}{tb:TS}(h:Iv K E X wi ρ fun n f hd=>(∃ z,hd=.av (.d z))∧∃ Iv:Nat→Sl→Prop,Iv 0 ρ∧(∀ i ρ',i<n→Iv i ρ'→Gv K g (f i) ρ' fun ρ''=>Sv K E X tb ρ'' { nx:=Iv (i+1),ct:=Iv (i+1),bk:=DV.nx,rt:=DV.rt })∧∀ ρ',Iv n ρ'→DV.nx ρ'):Sv K E X (tFor wi g tb) ρ DV:=fun H0 σ ts as H D st s x f =>
 h H0 σ ts as H _ s x fun n ft hd ⟨⟨z,ez⟩,Iw,i0,turn,fin⟩ u J H' _ s' ok=>by
  subst ez
  refine⟨fun i m σ' H'=>m=n-i∧i≤n∧∃ ρ',Iw i ρ'∧SR K H0 σ' ρ' (u::ts) (.av (.d z)::as) H',⟨n,by simp,Nat.zero_le _,ρ,i0,s'⟩,?_⟩
  rintro i m σ1 H1 ⟨rfl,hi,ρ1,i1,s1⟩
  by_cases hlt:i<n
  ·obtain⟨g1,g2⟩:=s1.turn ok hlt
   refine .inr ⟨g1,fun σ2 H2=>∃ ρ',Iw (i+1) ρ'∧SR K H0 σ2 ρ' (u::ts) (.av (.d z)::as) H2,fun σ2 H2 p=>⟨n-(i+1),by omega,rfl,hlt,p⟩,fun y H2 hy=>?_⟩
   refine turn i ρ1 hlt i1 H0 σ1 _ _ H2 y _ (g2 y H2 hy) fun ρ2 sv σ3 H3 s3=>?_
   exact sv H0 σ3 _ _ H3 _ (Stb.cons st) s3 x ⟨fun ρ4 q σ4 H4 s4=>⟨ρ4,q,s4⟩,fun ρ4 q σ4 H4 s4=>f.nx ρ4 q σ4 H4 s4.pop,fun ρ4 q σ4 H4 s4=>⟨ρ4,q,s4⟩,fun a q v σ4 ρ4 H4 s4=>f.rt a q v σ4 ρ4 H4 s4.swap.pop⟩
  ·have e:i=n:=by omega
   subst e
   exact .inl ⟨s1.halt NR.av rfl ok (Nat.le_refl _),f.nx _ (fin _ i1) _ _ s1.pop⟩
theorem sv_while{tc:TT}{tb:TS}(Iv:Nat→Sl→Prop)(m0:Nat)(i0:Iv m0 ρ)
  (h:∀ m ρ',Iv m ρ'→Tv K E X tc ρ' fun b=>if b=true then Sv K E X tb ρ' { nx:=fun ρ2=>∃ m',m' < m∧Iv m' ρ2,ct:=fun ρ2=>∃ m',m' < m∧Iv m' ρ2,bk:=DV.nx,rt:=DV.rt } else DV.nx ρ'):Sv K E X (tWhile tc tb) ρ DV:=fun H0 σ ts as H D st s x f=>by
 refine⟨fun m σ' H'=>∃ ρ',Iv m ρ'∧SR K H0 σ' ρ' ts as H',⟨m0,ρ,i0,s⟩,?_⟩
 rintro m σ1 H1 ⟨ρ1,i1,s1⟩
 refine h m ρ1 i1 H0 σ1 ts as H1 _ s1 x fun b q H2 s2=>?_
 cases b with
 | true =>
  rw[if_pos rfl] at q ⊢
  exact⟨fun σ' H'=>∃ m',m' < m∧∃ ρ',Iv m' ρ'∧SR K H0 σ' ρ' ts as H',fun σ' H' ⟨m',l,z⟩=>⟨m',l,z⟩,q H0 σ1 ts as H2 _ st s2 x ⟨fun ρ4 ⟨m',l,z⟩ σ4 H4 s4=>⟨m',l,ρ4,z,s4⟩,fun ρ4 q σ4 H4 s4=>f.nx ρ4 q σ4 H4 s4,fun ρ4 ⟨m',l,z⟩ σ4 H4 s4=>⟨m',l,ρ4,z,s4⟩,f.rt⟩⟩
 | false =>
  rw[if_neg Bool.false_ne_true] at q ⊢
  exact f.nx _ q _ _ s2
noncomputable def AV.sh:AV→AV
 | .obj φ=>.obj φ
 | .d x=>.d x
 | .own xs=>.d (.list (AV.datas xs))
 | .tup xs=>.d (.tuple (AV.datas xs))
 | .dic kvs=>.d (.dict kvs)
noncomputable def capV(cap:List (Option Nat))(ρ:Sl):Sl:=cap.map fun o=>match o with
 | none=>none
 | some j=>(ρ[j]?).join.map AV.sh
theorem SR.at{H0 H:Hp}{σ:St}{ts:List V}{as:List TV}{j:Nat}{c:AV}(s:SR K H0 σ ρ ts as H)(h:ρ[j]?=some (some c)):∃ v,σ[j]?=some (some v)∧Rep K H v c.data:=by
 obtain⟨v,e,_,s'⟩:=s.var h
 exact⟨v,e,s'.top (a:=.bor c.data) NR.bor⟩
theorem SR.atO{H0 H:Hp}{σ:St}{ts:List V}{as:List TV}{j:Nat}{φ:V→Hp→Prop}(s:SR K H0 σ ρ ts as H)(h:ρ[j]?=some (some (.obj φ))):∃ v,σ[j]?=some (some v)∧φ v H∧∀ G1 G2:Hp,Same G1 G2→φ v G1→φ v G2:=by
 obtain⟨⟨p,q,h1,h2,h3,h4⟩,e⟩:=s
 obtain⟨p1,p2,v,e1,e2,e3,e4⟩:=h1.frz h fun _ _ _ _=>trivial
 cases e3 with
 | obj f m z=>exact⟨v,e2,m _ _ hid_le f,m⟩
theorem RSl.cap{H0 H G H2:Hp}{σ:St}{ts:List V}{as:List TV}(s:SR K H0 σ ρ ts as H)(m:Same H G):∀ cap:List (Option Nat),RSl K G H2 (capS cap σ) (capV cap ρ) fun _=>0
 | []=>.nil fun _=>rfl
 | none::cap=>.no (RSl.cap s m cap)
 | some j::cap=>by
  cases e:(ρ[j]?).join with
  | none =>
   have:capV (some j::cap) ρ=none::capV cap ρ:=by simp[capV,e]
   rw[this]
   exact .no (RSl.cap s m cap)
  | some c =>
   have ej:ρ[j]?=some (some c):=by
    cases z:ρ[j]? with
    | none=>rw[z] at e;cases e
    | some o=>rw[z] at e;cases o with
     | none=>cases e
     | some c'=>cases e;rfl
   have ec:capV (some j::cap) ρ=some c.sh::capV cap ρ:=by simp[capV,e]
   rw[ec]
   cases c with
   | obj φ =>
    obtain⟨v,e1,e2,e3⟩:=s.atO ej
    have:capS (some j::cap) σ=some v::capS cap σ:=by simp[capS,e1]
    rw[this]
    exact .so (.obj (e3 _ _ m e2) e3 fun _=>rfl) (RSl.cap s m cap) fun _=>rfl
   | _ =>
    obtain⟨v,e1,e2⟩:=s.at ej
    have:capS (some j::cap) σ=some v::capS cap σ:=by simp[capS,e1]
    rw[this]
    exact .so (.d (e2.same m) fun _=>rfl) (RSl.cap s m cap) fun _=>rfl
noncomputable def Got(c:AV)(a:TV):Prop:=(c.clean=true∧a=.av c)∨a=.bor c.data
theorem Got.own{c:AV}(h:c.clean=true):Got c (.av c):=.inl ⟨h,rfl⟩
theorem Got.br{c:AV}:Got c (.bor c.data):=.inr rfl
theorem SR.gotG{H0 H H':Hp}{σ:St}{ts:List V}{as:List TV}{v:V}{c:AV}(h:SR K H0 σ ρ ts as H)(r:Rs K H H' v c)(g:Got c a):SR K H0 σ ρ (v::ts) (a::as) H':=by
 rcases g with⟨hc,rfl⟩|rfl
 ·exact h.got r hc
 ·exact h.gotB r
theorem SR.rs{H0 H:Hp}{σ:St}{ts:List V}{as:List TV}{v:V}{c:AV}(h:SR K H0 σ ρ (v::ts) (.av c::as) H):Rs K H0 H v c:=by
 obtain⟨⟨p,q,h1,h2,h3,h4⟩,e⟩:=h
 cases h2 with
 | @cons _ _ _ _ q1 q2 _ r rs eq =>
 cases r with
 | av r=>exact⟨e,q1,fun b=>by have:=eq b;have:=h3 b;omega,fun b z=>h4 b (by have:=eq b;omega),r.mono (hid_more fun b z=>by have:=eq b;simp;omega) fun _ _ _ z=>z⟩
theorem ev_comp{cap:List (Option Nat)}{wi:TI}{g:TG}{tt:TT}(h:Iv K E X wi ρ fun n f _=>n≤1000000∧∃ y:Nat→Option AV,(∀ i,i<n→Gv K g (f i) (capV cap ρ) fun ρ'=>Wk ρ' (capV cap ρ)∧Tv K E NE tt ρ' fun b=>if b=true then Ev K E NE te ρ' fun a=>∃ c,y i=some c∧a.sto=some c else y i=none) ∧
  ∃ a,Got (.own ((List.range n).filterMap y)) a∧Q a):Ev K E X (tComp cap wi g tt te) ρ Q:=fun H0 σ ts as H QV s x k =>
 h H0 σ ts as H _ s x fun n f hd ⟨hn,y,turn,a,hg,q⟩ u J H1 nr s1 ok D hD=>by
  have xo:XOk K E NE H1:=XOk.ne (x.t.same s1.same)
  have sD:Same H1 (upd H1 D (.lst [])):=same_new hD
  have st:Stb [TV.av (.d hd.data)]:=Stb.cons Stb.nil
  have start:SR K H1 (capS cap σ) (capV cap ρ) [.ref D,u] [.av (.own []),.av (.d hd.data)] (upd H1 D (.lst [])):=by
   have m:Same H1 (hid (upd H1 D (.lst [])) (fun _=>0) fun b=>if b=D then 1 else 0):=fun b o e=>by
    have hb:b≠D:=ne_of_none e hD
    unfold hid
    simp[hb]
    rw[upd_ne hb]
    exact e
   refine⟨⟨fun _=>0,fun b=>if b=D then 1 else 0,RSl.cap s1 m cap,.cons (.av (.own upd_same (.nil (p:=fun _=>0) fun _=>rfl) (q:=fun b=>if b=D then 1 else 0) fun b=>by simp)) (.cons (.av (.d (p:=fun _=>0) ((s1.top nr).same m) fun _=>rfl)) (.nil (p:=fun _=>0) fun _=>rfl) (r:=fun _=>0) fun b=>by simp) (fun b=>by simp),fun b=>by simp;split<;>omega,fun b z=>?_⟩,sD⟩
   by_cases hb:b=D
   ·rw[hb];exact hD
   ·simp[hb] at z
  refine⟨fun i m σ' H'=>m=n-i∧i≤n∧SR K H1 σ' (capV cap ρ) [.ref D,u] [.av (.own ((List.range i).filterMap y)),.av (.d hd.data)] H',⟨n,by simp,Nat.zero_le _,start⟩,?_⟩
  rintro i m σ2 H2 ⟨rfl,hi,s2⟩
  by_cases hlt:i<n
  ·obtain⟨g1,g2⟩:=s2.swap.turn ok hlt
   refine .inr ⟨g1,fun σ' H'=>SR K H1 σ' (capV cap ρ) [.ref D,u] [.av (.own ((List.range (i+1)).filterMap y)),.av (.d hd.data)] H',fun σ' H' p=>⟨n-(i+1),by omega,rfl,hlt,p⟩,fun w H3 hw=>?_⟩
   have s3:=g2 w H3 hw
   refine turn i hlt H1 σ2 _ _ H3 w _ s3 fun ρ4 ⟨wk,tv⟩ σ4 H4 s4=>?_
   refine tv H1 σ4 _ _ H4 _ s4 xo fun b qb H5 s5=>?_
   cases b with
   | true =>
    rw[if_pos rfl] at qb ⊢
    refine qb H1 σ4 _ _ H5 _ s5 xo fun a ⟨c,e1,e2⟩ z H6 s6=>?_
    have s7:=(s6.sto e2)
    have s8:SR K H1 σ4 ρ4 [z,.ref D,u] [.av c,.av (.own ((List.range i).filterMap y)),.av (.d hd.data)] H6:=by
     obtain⟨⟨p,q,k1,k2,k3,k4⟩,e⟩:=s7
     refine⟨⟨p,q,k1,?_,k3,k4⟩,e⟩
     cases k2 with
     | cons r rs eq=>exact .cons r rs.swap eq
    obtain⟨vs,h1,h2,h3⟩:=s8.snocT st
    refine⟨vs,h1,small6 ?_,?_⟩
    ·rw[h2]
     exact Nat.le_trans (List.length_filterMap_le _ _) (by rw[List.length_range];omega)
    ·have:=wk _ _ _ _ _ _ h3
     rw[List.range_succ,List.filterMap_append]
     simpa [e1] using this
   | false =>
    rw[if_neg Bool.false_ne_true] at qb ⊢
    have:=wk _ _ _ _ _ _ s5.swap
    rw[List.range_succ,List.filterMap_append]
    simpa [qb] using this
  ·have e:i=n:=by omega
   subst e
   exact .inl ⟨s2.swap.halt NR.av rfl ok (Nat.le_refl _),k _ q _ _ (s1.pop.gotG s2.rs hg)⟩
noncomputable def spV(K:W.Frag)(S:List PyData→AV→Prop)(SX:List PyData→Exc→Prop):Sp:=fun vs H Q E=>TabsIn H∧∃ ds,Reps K H vs ds ∧
 ((∃ c,S ds c∧∀ v H',Rs K H H' v c→Q v H')∨∃ e,SX ds e∧∀ c d H',Same H H'→XRep K H' e c d→E c d H')
theorem SR.reps{H0 H:Hp}{σ:St}:∀ {vs:List V} {bs:List TV} {ts:List V} {as:List TV},(∀ b∈bs,NR b)→vs.length=bs.length→SR K H0 σ ρ (vs++ts) (bs++as) H→Reps K H vs (bs.map TV.data)∧SR K H0 σ ρ ts as H
 | [],[],_,_,_,_,s=>⟨.nil,s⟩
 | v::vs,b::bs,ts,as,hb,e,s=>by
  have s':SR K H0 σ ρ (v::(vs++ts)) (b::(bs++as)) H:=s
  obtain⟨h1,h2⟩:=SR.reps (fun c hc=>hb c (.tail _ hc)) (by simpa using e) s'.pop
  exact⟨.cons (s'.top (hb b (.head _))) h1,h2⟩
inductive NRs:List TV→Prop
 | nil:NRs []
 | cons {b:TV} {bs:List TV}:NR b→NRs bs→NRs (b::bs)
theorem NRs.all{bs:List TV}(h:NRs bs):∀ b∈bs,NR b:=by
 induction h with
 | nil=>exact fun _ z=>nomatch z
 | cons h _ ih=>intro b hb;rcases List.mem_cons.mp hb with e|e;exact e▸h;exact ih b e
noncomputable def dvD:V→Option PyData
 | .int i=>some (.int i)
 | .bl b=>some (.bool b)
 | .str x=>some (.str x)
 | .non=>some .none
 | _=>none
theorem dvD_rep{v:V}{d:PyData}{H:Hp}(h:dvD v=some d):Rep K H v d:=by
 cases v<;>simp[dvD] at h<;>subst h<;>constructor
inductive DvDs:List V→List PyData→Prop
 | nil:DvDs [] []
 | cons {v:V} {d:PyData} {vs:List V} {ds:List PyData}:dvD v=some d→DvDs vs ds→DvDs (v::vs) (d::ds)
theorem DvDs.reps{vs:List V}{ds:List PyData}{H:Hp}(h:DvDs vs ds):Reps K H vs ds:=by
 induction h with
 | nil=>exact .nil
 | cons h _ ih=>exact .cons (dvD_rep h) ih
noncomputable def Res(a:TV)(c:AV):Prop:=a=.av c∨(NR a∧c=.d a.data)
theorem SR.start{N:List Str}{vs:List V}{ds:List PyData}{H:Hp}(h:Reps K H vs ds):SR K H (start N vs) (ds.map (fun d=>some (.d d))++List.replicate (N.length-ds.length) none) [] [] H:=by
 have hl:=h.length
 refine⟨⟨fun _=>0,fun _=>0,?_,.nil fun _=>rfl,fun _=>by simp,fun b z=>by simp at z⟩,.refl H⟩
 have hid0:hid H (fun _=>0) (fun _=>0)=H:=by funext b;simp[hid]
 rw[hid0]
 unfold L2.start
 rw[hl]
 clear hl
 generalize N.length-ds.length=m
 induction h using Reps.rec (motive_1:=fun _ _ _=>True) with
 | nil =>
  simp only[List.map_nil,List.nil_append]
  induction m with
  | zero=>exact .nil fun _=>rfl
  | succ m ih=>exact .no ih
 | cons r rs _ ih=>exact .so (.d r fun _=>rfl) ih fun _=>rfl
 | _=>trivial
theorem body_ok{t:TS}{N:List Str}{S:List PyData→AV→Prop}{SX:List PyData→Exc→Prop}{vs:List V}{H:Hp}{Qv:VK}{E:XK}(sp:spV K S SX vs H Qv E)
  (h:∀ ds,(∀ c,S ds c→Sv K (toF E) NE t (ds.map (fun d=>some (.d d))++List.replicate (N.length-ds.length) none) { nx:=fun _=>c=.d .none,rt:=fun a=>Res a c }) ∧
   ∀ e,SX ds e→Sv K (toF E) (fun e' _=>e'=e) t (ds.map (fun d=>some (.d d))++List.replicate (N.length-ds.length) none) { nx:=fun _=>False,rt:=fun _=>False }) :
  t { nx:=fun _ H'=>Qv .non H',rt:=Qv } (L2.start N vs) H:=by
 obtain⟨tb,ds,rp,q⟩:=sp
 rcases q with⟨c,h1,h2⟩|⟨e,h1,h2⟩
 ·refine (h ds).1 c h1 H _ [] [] H _ Stb.nil (SR.start rp) (XOk.ne tb) ⟨fun ρ q σ' H' s'=>?_,fun _ z=>z.elim,fun _ z=>z.elim,fun a q v σ' ρ' H' s'=>?_⟩
  ·rw[show c=.d .none from q] at h2
   exact h2 _ _ (SR.rs (v:=.non) (s'.push fun _=>.non))
  ·rcases q with rfl|⟨nr,rfl⟩
   ·exact h2 _ _ s'.rs
   ·refine h2 _ _ ⟨s'.same,fun _=>0,fun _=>by simp,fun b z=>by simp at z,.d ?_ fun _=>rfl⟩
    have hid0:hid H' (fun _=>0) (fun _=>0)=H':=by funext b;simp[hid]
    rw[hid0]
    exact s'.top nr
 ·exact (h ds).2 e h1 H _ [] [] H _ Stb.nil (SR.start rp) ⟨fun e' ρ' z c d σ' H2 sm xr=>by subst z;exact h2 c d H2 sm.same xr,tb⟩ ⟨fun _ z=>z.elim,fun _ z=>z.elim,fun _ z=>z.elim,fun _ z=>z.elim⟩
end
end VL
end
section
namespace L2
open PySem PySem.Spec PyProof.Rows
section
variable{X:Cx}{K:W.Frag}
noncomputable def rCatS(K:W.Frag):R2:=fun x y H Q=>∃ l b xs zs,x=.ref l∧y=.ref b∧SqL K H l xs∧SqL K H b zs∧xs.length+zs.length≤sizeLine∧∀ p,H p=none→Q (.ref p) (upd H p (.lst (xs++zs)))
theorem op_catS(hK:X.K=K):OpR X (binaryOp .Add) (rCatS K):=by
 subst hK
 intro pins s σ H x y v u Q I rx ry h
 obtain⟨l,b,xs,zs,rfl,rfl,hx,hy,hz,q⟩:=h
 cases rx
 cases ry
 obtain⟨i1,r1,p1,_⟩:=I.list hx
 obtain⟨i2,r2,p2,_⟩:=I.list hy
 obtain⟨⟨c1,d1,t1,s1⟩,n1,g1,e1,f1,k1⟩:=p1
 obtain⟨⟨c2,d2,t2,s2⟩,n2,g2,e2,f2,k2⟩:=p2
 cases e1;cases f1;cases k1;cases e2;cases f2;cases k2
 have l1:=r1.length
 have l2:=r2.length
 have ea:i1.toArray++i2.toArray=(i1++i2).toArray:=by simp
 refine concat_meets ⟨_,g1,rfl⟩ ⟨_,g2,rfl⟩ noFill_list_add seq_list_add PySem.F.slot_list_add PySem.F.entry_list_add (PySem.F.args_list_add_2 _ _) (list_addW l b i1.toArray i2.toArray n1 n2 _ _ s1 s2 (by rw[List.size_toArray,List.size_toArray];omega)) ⟨g1,g2,?_⟩
 rw[ea]
 exact⟨.ref _,_,I.lnew (t':=s.toks) (r1.append r2) (by rw[List.length_append];exact hz),rfl,q _ I.fresh⟩
noncomputable def rAllB(K:W.Frag):List V→Hp→VK→Prop:=fun vs H Q=>∃ (p:Addr) (cs:List Bool),vs=[.ref p]∧SqL K H p (cs.map V.bl)∧Q (.bl (cs.all id)) H
theorem bl_item:∀ {cs:List Bool} {us:List Value} {i:Nat} {v:Value},Vals (cs.map V.bl) us→us[i]?=some v→v=.bool (cs.getD i false)
 | [],_,_,_,.nil,e=>by simp at e
 | c::cs,_,0,v,.cons r _,e=>by simp at e;subst e;exact r
 | c::cs,_,i+1,v,.cons _ t,e=>by simpa using bl_item (i:=i) t (by simpa using e)
theorem range_all(cs:List Bool):(List.range cs.length).all (fun i=>cs.getD i false)=cs.all id:=by
 rw[Bool.eq_iff_iff,List.all_eq_true,List.all_eq_true]
 constructor
 ·intro h c hc
  obtain⟨i,hi,e⟩:=List.getElem_of_mem hc
  have:=h i (List.mem_range.mpr hi)
  rw[List.getD_eq_getElem?_getD,List.getElem?_eq_getElem hi] at this
  simpa [e] using this
 ·intro h i hi
  have hi:=List.mem_range.mp hi
  rw[List.getD_eq_getElem?_getD,List.getElem?_eq_getElem hi]
  exact h _ (List.getElem_mem hi)
theorem bools_truth{P:Program}{w:World}{A:Around}{cs:List Bool}{us:List Value}(r:Vals (cs.map V.bl) us):TruthOf P w A (fun i v=>us.toArray[i]?=some v) (fun i=>cs.getD i false):=fun i v s Q E hv q=>by
 have:=bl_item (i:=i) (v:=v) r (by simpa using hv)
 subst this
 exact wpAny_truthy_bool q
theorem call_allB(hK:X.K=K)(hc:X.calm=true):CallR X (.builtin "all") (rAllB K):=by
 subst hK
 intro pins s σ H vs us Q I r h
 obtain⟨p,cs,rfl,hp,q⟩:=h
 obtain⟨u,rfl,ru⟩:=vals1 r
 cases ru
 obtain⟨its,rs,pl,_⟩:=I.list hp
 have hl:=pl.isList
 have hlt:p<s.heap.objs.size:=by obtain⟨_,e,_⟩:=hl;exact Heap.lt_size e
 refine call_all_walk (wpAny_pyIter_list hl ?_)
 refine⟨s.heap.objs.size,_,_,_,_,_,fun i=>cs.getD i false,rfl,Walks.list (A:=X.A.in1) (I.ok.hd hc) _ p (Nat.ne_of_lt hlt) its.toArray,⟨⟨_,Heap.get?_push_size _ rfl,rfl,rfl⟩,hl.push _⟩,bools_truth rs,fun h' tk hk=>?_⟩
 have e:its.toArray.size=cs.length:=by rw[List.size_toArray,← rs.length,List.length_map]
 rw[e,range_all]
 exact⟨.bl _,H,I.kept (t':=tk) (fun b o z=>hk b o (by simp;exact Nat.ne_of_lt (Heap.lt_size z)) (Heap.get?_push_of_some _ z)),rfl,q⟩
section
variable{P:Program}{w:World}{A:Around}{R:Result→Shared→Prop}{J S:Addr}{f1 f2:List Addr}{m:Nat}{Pv:Nat→Value→Prop}{Sv:Nat→Heap→Prop}{dn:List (Str×Value)}
end
end
end L2
end
section
namespace VL
open PySem PySem.Spec L2
variable[Tabs]
theorem len1{α:Type}{vs:List α}(h:vs.length=1):∃ v,vs=[v]:=List.length_eq_one_iff.mp h
theorem len2{α:Type}{vs:List α}(h:vs.length=2):∃ v w,vs=[v,w]:=by
 cases vs with
 | nil=>cases h
 | cons v vs =>
  obtain⟨w,e⟩:=len1 (Nat.succ.inj h)
  exact⟨v,w,by rw[e]⟩
section
variable{K:W.Frag}{E:FK}{X:Exc→Sl→Prop}{ρ:Sl}{Q:TV→Prop}{DV:VEnds}{ta tb te:TE}{i j:Int}{n:Nat}{r:R2}{t u:TS}{a b:TV}{H0 H:Hp}{σ:St}{ts:List V}{as:List TV}{v:V}
theorem one_of{vs:List V}(s:SR K H0 σ ρ (vs++ts) ([a]++as) H)(hl:vs.length=1):∃ v,vs=[v]∧SR K H0 σ ρ (v::ts) (a::as) H:=by
 obtain⟨v,rfl⟩:=len1 hl
 exact⟨v,rfl,s⟩
theorem two_of{vs:List V}(s:SR K H0 σ ρ (vs++ts) ([a,b]++as) H)(hl:vs.length=2):∃ v w,vs=[v,w]∧SR K H0 σ ρ (v::w::ts) (a::b::as) H:=by
 obtain⟨v,w,rfl⟩:=len2 hl
 exact⟨v,w,rfl,s⟩
theorem bi_lenL{ds:List PyData}(ha:a.data=.list ds)(q:Q (.av (.d (.int ds.length))))(na:NR a:=by first|exact NR.av|exact NR.bor):Bi K E X (rLen K) [a] Q:=fun H0 σ ρ ts as H vs QV s hl _ k=>by
 obtain⟨v,rfl,s⟩:=one_of s hl
 exact rd_lenRL (ha▸s.top na) (k _ q _ H (s.pop.int _))
theorem datas_d(ds:List PyData):AV.datas (ds.map AV.d)=ds:=by
 induction ds with
 | nil=>rfl
 | cons d ds ih=>rw[List.map_cons,AV.datas,ih];rfl
theorem SR.items{es:List PyData}(s:SR K H0 σ ρ (v::ts) (a::as) H)(h:a=.av (.d a.data)∨noLsts es=true)(P:List V→Prop)(hx:∀ G,Rep K G v a.data→Same G H→∃ xs,P xs∧Reps K G xs es)(na:NR a):∃ xs,P xs∧xs.length=es.length∧SR K H0 σ ρ (xs++ts) ((es.map AV.d).map TV.av++as) H:=by
 have fin:∀ {p q:Fp} {xs:List V} {es:List PyData},Reps K (hid H p q) xs es→RTs K (hid H p q) H ts as q→RTs K (hid H p q) H (xs++ts) ((es.map AV.d).map TV.av++as) q:=by
  intro p q xs es r rt
  induction r using Reps.rec (motive_1:=fun _ _ _=>True) with
  | nil=>exact rt
  | cons r rs _ ih=>exact .cons (.av (.d (p:=fun _=>0) r fun _=>rfl)) ih fun b=>by simp
  | _=>trivial
 rcases h with e|hn
 ·rw[e] at s
  obtain⟨⟨p,q,h1,h2,h3,h4⟩,e'⟩:=s
  cases h2 with
  | @cons _ _ _ _ q1 q2 _ r rs z=>cases r with
   | av r=>cases r with
    | d rp w =>
     obtain⟨xs,px,this⟩:=hx _ rp hid_le
     have eh:hid H p q=hid H p q2:=hid_eq fun b=>by have:=z b;have:=w b;omega
     rw[eh] at this h1 rs
     exact⟨xs,px,this.length,⟨p,q2,h1,fin this rs,fun b=>by have:=h3 b;have:=z b;omega,fun b y=>h4 b (by have:=z b;omega)⟩,e'⟩
 ·obtain⟨xs,px,this⟩:=hx H (s.top na) (.refl H)
  obtain⟨⟨p,q,h1,h2,h3,h4⟩,e'⟩:=s.pop
  exact⟨xs,px,this.length,⟨p,q,h1,fin (Reps.hid (SR.lsts h1 h2) hn this) h2,h3,h4⟩,e'⟩
noncomputable def Kp(a:TV)(es:List PyData):Prop:=a=.av (.d a.data)∨noLsts es=true
theorem Kp.d{x:PyData}{es:List PyData}:Kp (.av (.d x)) es:=.inl rfl
theorem Kp.flat{es:List PyData}(h:noLsts es=true):Kp a es:=.inr h
theorem bi_tupL{ds:List PyData}(ha:a.data=.list ds)(h:Kp a.frz ds)(q:Q (.av (.d (.tuple ds))))(na:NR a:=by first|exact NR.av|exact NR.bor):Bi K E X (rTpl K) [a] Q:=fun H0 σ ρ ts as H vs QV s hl _ k=>by
 obtain⟨v,rfl,s⟩:=one_of s hl
 obtain⟨xs,⟨l,e,h1⟩,h2,s'⟩:=s.frzV.items h (fun xs=>∃ l,v=.ref l∧SqL K H l xs) (fun G rp sm=>by
  rw[TV.frz_data,ha] at rp
  obtain⟨l,xs,e,h3,h4⟩:=rp.list_inv
  exact⟨xs,⟨l,e,sm.seq h3⟩,h4⟩) (TV.frz_nr na)
 refine⟨l,xs,by rw[e],.inl ⟨h1,fun p hp=>k _ q _ _ ?_⟩⟩
 have:=SR.newT s' (by rw[List.length_map,h2]) hp
 rw[datas_d] at this
 exact this
theorem bi_isi{c:String}{cc:Bool}(na:NR a)(nd:isD a.data=false)(e:PySem.W.kitOne K (.type (tyD a.data)) (.type c)=some cc)(q:Q (.av (.d (.bool cc)))):Bi K E X (rIsi2 K) [a,.raw (.ty c)] Q:=fun H0 σ ρ ts as H vs QV s hl _ k=>by
 obtain⟨v,w,rfl,s⟩:=two_of s hl
 have:=s.pop.raw
 subst this
 exact rd_isiD (s.top na) nd rfl e (k _ q _ H (s.pop.pop.bl _))
theorem isi_str{c:Str}(ha:a.data=.str c)(q:Q (.av (.d (.bool true))))(na:NR a:=by first|exact NR.av|exact NR.bor):Bi K E X (rIsi2 K) [a,.raw (.ty "str")] Q:=bi_isi na (by rw[ha];rfl) (by rw[ha];rfl) q
theorem bools_inv{G:Hp}:∀ {cs:List Bool} {xs:List V},Reps K G xs (cs.map PyData.bool)→xs=cs.map V.bl
 | [],_,.nil=>rfl
 | c::cs,_,.cons r rs=>by rw[Rep.bl_inv r,bools_inv rs];rfl
theorem bi_all{cs:List Bool}(ha:a.data=.list (cs.map .bool))(q:Q (.av (.d (.bool (cs.all id)))))(na:NR a:=by first|exact NR.av|exact NR.bor):Bi K E X (rAllB K) [a] Q:=fun H0 σ ρ ts as H vs QV s hl _ k=>by
 obtain⟨v,rfl,s⟩:=one_of s hl
 have rp:=s.top na
 rw[ha] at rp
 obtain⟨l,xs,rfl,h1,h2⟩:=rp.list_inv
 have:=bools_inv h2
 subst this
 exact⟨l,cs,rfl,h1,k _ q _ H (s.pop.bl _)⟩
noncomputable def cutD(xs:List PyData)(lo hi:Option Int):List PyData:=(xs.drop (HT.sIx xs.length 0 lo)).take (HT.sIx xs.length xs.length hi-HT.sIx xs.length 0 lo)
theorem Reps.drop{G:Hp}:∀ {xs:List V} {ds:List PyData} (m:Nat),Reps K G xs ds→Reps K G (xs.drop m) (ds.drop m)
 | _,_,0,r=>r
 | _,_,_+1,.nil=>.nil
 | _,_,m+1,.cons _ rs=>Reps.drop m rs
theorem Reps.take{G:Hp}:∀ {xs:List V} {ds:List PyData} (m:Nat),Reps K G xs ds→Reps K G (xs.take m) (ds.take m)
 | _,_,0,_=>.nil
 | _,_,_+1,.nil=>.nil
 | _,_,m+1,.cons r rs=>.cons r (Reps.take m rs)
theorem Reps.cut{G:Hp}{xs:List V}{ds:List PyData}(lo hi:Option Int)(r:Reps K G xs ds):Reps K G (cutV xs lo hi) (cutD ds lo hi):=by
 unfold cutV cutD
 rw[r.length]
 exact Reps.take _ (Reps.drop _ r)
noncomputable def To(t:TO)(ρ:Sl)(K:W.Frag)(E:FK)(X:Exc→Sl→Prop)(Q:Option Int→Prop):Prop :=
 ∀ (H0:Hp) (σ:St) (ts:List V) (as:List TV) (H:Hp) (QV:Option Int→Hp→Prop),SR K H0 σ ρ ts as H→XOk K E X H0→(∀ o,Q o→∀ H',SR K H0 σ ρ ts as H'→QV o H')→t σ H QV
theorem to_no{P:Option Int→Prop}(q:P none):To tNoPart ρ K E X P:=fun H0 σ ts as H QV s x k=>k _ q H s
theorem to_part{P:Option Int→Prop}(h:Ev K E X te ρ fun a=>∃ i,a=.av (.d (.int i))∧P (some i)):To (tPart te) ρ K E X P:=fun H0 σ ts as H QV s x k =>
 h H0 σ ts as H _ s x fun a ⟨i,e,q⟩ v H' s'=>by subst e;exact⟨i,s'.top_d.int_inv,k _ q H' s'.pop⟩
end
end VL
end
section
namespace VL
open PySem PySem.Spec L2
variable[Tabs]
section
variable{K:W.Frag}{E:FK}{X:Exc→Sl→Prop}{Q:TV→Prop}{nx bk ct:Sl→Prop}{rt:TV→Prop}{ta tb te:TE}{x:PyData}{r:Sl}{a:AV}
theorem ev_v0(q:Q (.av (.d x))):Ev K E X (tVar 0) (some (.d x)::r) Q:=ev_var rfl q
theorem gv_0{o:Option AV}{P:Sl→Prop}(h:P (some (.d x)::r)):Gv K (gName 0) x (o::r) P:=gv_name (n:=0) h (by simp only[List.length_cons];omega)
theorem wk_0{o:Option AV}:Wk (o::r) (none::r):=fun _ _ _ _ _ _ s=>s.drop (i:=0)
theorem ev_v1{s0:Option AV}(q:Q (.av (.d x))):Ev K E X (tVar 1) (s0::some (.d x)::r) Q:=ev_var rfl q
theorem ev_v2{s0 s1:Option AV}(q:Q (.av (.d x))):Ev K E X (tVar 2) (s0::s1::some (.d x)::r) Q:=ev_var rfl q
theorem sv_a2{s0 s1:Option AV}{o:Option AV}(h:Ev K E X te (s0::s1::o::r) fun a=>∃ a',Sto (s0::s1::o::r) a a'∧nx (s0::s1::some a'::r)):Sv K E X (tAsg te (gName 2)) (s0::s1::o::r) ⟨nx,rt,bk,ct⟩:=sv_asg (n:=2) h (by simp only[List.length_cons];omega)
theorem sv_ap2{s0 s1:Option AV}{xs:List AV}(h:Ev K E X te (s0::s1::some (.own xs)::r) fun a=>∃ a',a.sto=some a'∧xs.length≤1000000∧nx (s0::s1::some (.own (xs++[a']))::r)):Sv K E X (tDrop (tBM K "list" rAppend (tVar 2) (tCons te tNil))) (s0::s1::some (.own xs)::r) ⟨nx,rt,bk,ct⟩:=sv_append (n:=2) rfl h
theorem sv_ro2{s0 s1:Option AV}{xs:List AV}(q:rt (.av (.own xs))):Sv K E X (tRet (tVar 2)) (s0::s1::some (.own xs)::r) ⟨nx,rt,bk,ct⟩:=sv_retO rfl q
theorem sv_rv2{s0 s1:Option AV}{xs:List AV}(h:nx (s0::s1::some (.own xs.reverse)::r)):Sv K E X (tDrop (tBM0 K "list" rReverse (tVar 2))) (s0::s1::some (.own xs)::r) ⟨nx,rt,bk,ct⟩:=sv_reverse (n:=2) rfl h
theorem ev_v3{s0 s1 s2:Option AV}(q:Q (.av (.d x))):Ev K E X (tVar 3) (s0::s1::s2::some (.d x)::r) Q:=ev_var rfl q
theorem sv_a3{s0 s1 s2:Option AV}{o:Option AV}(h:Ev K E X te (s0::s1::s2::o::r) fun a=>∃ a',Sto (s0::s1::s2::o::r) a a'∧nx (s0::s1::s2::some a'::r)):Sv K E X (tAsg te (gName 3)) (s0::s1::s2::o::r) ⟨nx,rt,bk,ct⟩:=sv_asg (n:=3) h (by simp only[List.length_cons];omega)
theorem ev_v4{s0 s1 s2 s3:Option AV}(q:Q (.av (.d x))):Ev K E X (tVar 4) (s0::s1::s2::s3::some (.d x)::r) Q:=ev_var rfl q
theorem ev_o4{s0 s1 s2 s3:Option AV}{xs:List AV}(q:Q (.bor (.list (AV.datas xs)))):Ev K E X (tVar 4) (s0::s1::s2::s3::some (.own xs)::r) Q:=ev_varB rfl q
theorem sv_a4{s0 s1 s2 s3:Option AV}{o:Option AV}(h:Ev K E X te (s0::s1::s2::s3::o::r) fun a=>∃ a',Sto (s0::s1::s2::s3::o::r) a a'∧nx (s0::s1::s2::s3::some a'::r)):Sv K E X (tAsg te (gName 4)) (s0::s1::s2::s3::o::r) ⟨nx,rt,bk,ct⟩:=sv_asg (n:=4) h (by simp only[List.length_cons];omega)
theorem gv_4{s0 s1 s2 s3:Option AV}{o:Option AV}{P:Sl→Prop}(h:P (s0::s1::s2::s3::some (.d x)::r)):Gv K (gName 4) x (s0::s1::s2::s3::o::r) P:=gv_name (n:=4) h (by simp only[List.length_cons];omega)
theorem sv_ap4{s0 s1 s2 s3:Option AV}{xs:List AV}(h:Ev K E X te (s0::s1::s2::s3::some (.own xs)::r) fun a=>∃ a',a.sto=some a'∧xs.length≤1000000∧nx (s0::s1::s2::s3::some (.own (xs++[a']))::r)):Sv K E X (tDrop (tBM K "list" rAppend (tVar 4) (tCons te tNil))) (s0::s1::s2::s3::some (.own xs)::r) ⟨nx,rt,bk,ct⟩:=sv_append (n:=4) rfl h
theorem ev_v5{s0 s1 s2 s3 s4:Option AV}(q:Q (.av (.d x))):Ev K E X (tVar 5) (s0::s1::s2::s3::s4::some (.d x)::r) Q:=ev_var rfl q
theorem ev_o5{s0 s1 s2 s3 s4:Option AV}{xs:List AV}(q:Q (.bor (.list (AV.datas xs)))):Ev K E X (tVar 5) (s0::s1::s2::s3::s4::some (.own xs)::r) Q:=ev_varB rfl q
theorem sv_a5{s0 s1 s2 s3 s4:Option AV}{o:Option AV}(h:Ev K E X te (s0::s1::s2::s3::s4::o::r) fun a=>∃ a',Sto (s0::s1::s2::s3::s4::o::r) a a'∧nx (s0::s1::s2::s3::s4::some a'::r)):Sv K E X (tAsg te (gName 5)) (s0::s1::s2::s3::s4::o::r) ⟨nx,rt,bk,ct⟩:=sv_asg (n:=5) h (by simp only[List.length_cons];omega)
theorem gv_5{s0 s1 s2 s3 s4:Option AV}{o:Option AV}{P:Sl→Prop}(h:P (s0::s1::s2::s3::s4::some (.d x)::r)):Gv K (gName 5) x (s0::s1::s2::s3::s4::o::r) P:=gv_name (n:=5) h (by simp only[List.length_cons];omega)
theorem sv_ap5{s0 s1 s2 s3 s4:Option AV}{xs:List AV}(h:Ev K E X te (s0::s1::s2::s3::s4::some (.own xs)::r) fun a=>∃ a',a.sto=some a'∧xs.length≤1000000∧nx (s0::s1::s2::s3::s4::some (.own (xs++[a']))::r)):Sv K E X (tDrop (tBM K "list" rAppend (tVar 5) (tCons te tNil))) (s0::s1::s2::s3::s4::some (.own xs)::r) ⟨nx,rt,bk,ct⟩:=sv_append (n:=5) rfl h
theorem ev_v6{s0 s1 s2 s3 s4 s5:Option AV}(q:Q (.av (.d x))):Ev K E X (tVar 6) (s0::s1::s2::s3::s4::s5::some (.d x)::r) Q:=ev_var rfl q
theorem ev_o6{s0 s1 s2 s3 s4 s5:Option AV}{xs:List AV}(q:Q (.bor (.list (AV.datas xs)))):Ev K E X (tVar 6) (s0::s1::s2::s3::s4::s5::some (.own xs)::r) Q:=ev_varB rfl q
theorem sv_a6{s0 s1 s2 s3 s4 s5:Option AV}{o:Option AV}(h:Ev K E X te (s0::s1::s2::s3::s4::s5::o::r) fun a=>∃ a',Sto (s0::s1::s2::s3::s4::s5::o::r) a a'∧nx (s0::s1::s2::s3::s4::s5::some a'::r)):Sv K E X (tAsg te (gName 6)) (s0::s1::s2::s3::s4::s5::o::r) ⟨nx,rt,bk,ct⟩:=sv_asg (n:=6) h (by simp only[List.length_cons];omega)
theorem gv_6{s0 s1 s2 s3 s4 s5:Option AV}{o:Option AV}{P:Sl→Prop}(h:P (s0::s1::s2::s3::s4::s5::some (.d x)::r)):Gv K (gName 6) x (s0::s1::s2::s3::s4::s5::o::r) P:=gv_name (n:=6) h (by simp only[List.length_cons];omega)
theorem sv_ap6{s0 s1 s2 s3 s4 s5:Option AV}{xs:List AV}(h:Ev K E X te (s0::s1::s2::s3::s4::s5::some (.own xs)::r) fun a=>∃ a',a.sto=some a'∧xs.length≤1000000∧nx (s0::s1::s2::s3::s4::s5::some (.own (xs++[a']))::r)):Sv K E X (tDrop (tBM K "list" rAppend (tVar 6) (tCons te tNil))) (s0::s1::s2::s3::s4::s5::some (.own xs)::r) ⟨nx,rt,bk,ct⟩:=sv_append (n:=6) rfl h
theorem ev_v7{s0 s1 s2 s3 s4 s5 s6:Option AV}(q:Q (.av (.d x))):Ev K E X (tVar 7) (s0::s1::s2::s3::s4::s5::s6::some (.d x)::r) Q:=ev_var rfl q
theorem ev_o7{s0 s1 s2 s3 s4 s5 s6:Option AV}{xs:List AV}(q:Q (.bor (.list (AV.datas xs)))):Ev K E X (tVar 7) (s0::s1::s2::s3::s4::s5::s6::some (.own xs)::r) Q:=ev_varB rfl q
theorem sv_a7{s0 s1 s2 s3 s4 s5 s6:Option AV}{o:Option AV}(h:Ev K E X te (s0::s1::s2::s3::s4::s5::s6::o::r) fun a=>∃ a',Sto (s0::s1::s2::s3::s4::s5::s6::o::r) a a'∧nx (s0::s1::s2::s3::s4::s5::s6::some a'::r)):Sv K E X (tAsg te (gName 7)) (s0::s1::s2::s3::s4::s5::s6::o::r) ⟨nx,rt,bk,ct⟩:=sv_asg (n:=7) h (by simp only[List.length_cons];omega)
theorem gv_7{s0 s1 s2 s3 s4 s5 s6:Option AV}{o:Option AV}{P:Sl→Prop}(h:P (s0::s1::s2::s3::s4::s5::s6::some (.d x)::r)):Gv K (gName 7) x (s0::s1::s2::s3::s4::s5::s6::o::r) P:=gv_name (n:=7) h (by simp only[List.length_cons];omega)
theorem sv_ap7{s0 s1 s2 s3 s4 s5 s6:Option AV}{xs:List AV}(h:Ev K E X te (s0::s1::s2::s3::s4::s5::s6::some (.own xs)::r) fun a=>∃ a',a.sto=some a'∧xs.length≤1000000∧nx (s0::s1::s2::s3::s4::s5::s6::some (.own (xs++[a']))::r)):Sv K E X (tDrop (tBM K "list" rAppend (tVar 7) (tCons te tNil))) (s0::s1::s2::s3::s4::s5::s6::some (.own xs)::r) ⟨nx,rt,bk,ct⟩:=sv_append (n:=7) rfl h
theorem ev_v8{s0 s1 s2 s3 s4 s5 s6 s7:Option AV}(q:Q (.av (.d x))):Ev K E X (tVar 8) (s0::s1::s2::s3::s4::s5::s6::s7::some (.d x)::r) Q:=ev_var rfl q
theorem gv_8{s0 s1 s2 s3 s4 s5 s6 s7:Option AV}{o:Option AV}{P:Sl→Prop}(h:P (s0::s1::s2::s3::s4::s5::s6::s7::some (.d x)::r)):Gv K (gName 8) x (s0::s1::s2::s3::s4::s5::s6::s7::o::r) P:=gv_name (n:=8) h (by simp only[List.length_cons];omega)
theorem ev_v9{s0 s1 s2 s3 s4 s5 s6 s7 s8:Option AV}(q:Q (.av (.d x))):Ev K E X (tVar 9) (s0::s1::s2::s3::s4::s5::s6::s7::s8::some (.d x)::r) Q:=ev_var rfl q
theorem sv_a9{s0 s1 s2 s3 s4 s5 s6 s7 s8:Option AV}{o:Option AV}(h:Ev K E X te (s0::s1::s2::s3::s4::s5::s6::s7::s8::o::r) fun a=>∃ a',Sto (s0::s1::s2::s3::s4::s5::s6::s7::s8::o::r) a a'∧nx (s0::s1::s2::s3::s4::s5::s6::s7::s8::some a'::r)):Sv K E X (tAsg te (gName 9)) (s0::s1::s2::s3::s4::s5::s6::s7::s8::o::r) ⟨nx,rt,bk,ct⟩:=sv_asg (n:=9) h (by simp only[List.length_cons];omega)
theorem ev_v10{s0 s1 s2 s3 s4 s5 s6 s7 s8 s9:Option AV}(q:Q (.av (.d x))):Ev K E X (tVar 10) (s0::s1::s2::s3::s4::s5::s6::s7::s8::s9::some (.d x)::r) Q:=ev_var rfl q
theorem sv_a10{s0 s1 s2 s3 s4 s5 s6 s7 s8 s9:Option AV}{o:Option AV}(h:Ev K E X te (s0::s1::s2::s3::s4::s5::s6::s7::s8::s9::o::r) fun a=>∃ a',Sto (s0::s1::s2::s3::s4::s5::s6::s7::s8::s9::o::r) a a'∧nx (s0::s1::s2::s3::s4::s5::s6::s7::s8::s9::some a'::r)):Sv K E X (tAsg te (gName 10)) (s0::s1::s2::s3::s4::s5::s6::s7::s8::s9::o::r) ⟨nx,rt,bk,ct⟩:=sv_asg (n:=10) h (by simp only[List.length_cons];omega)
theorem s_seq{t u:TS}{ρ:Sl}(h:Sv K E X t ρ ⟨fun ρ'=>Sv K E X u ρ' ⟨nx,rt,bk,ct⟩,rt,bk,ct⟩):Sv K E X (tSeq t u) ρ ⟨nx,rt,bk,ct⟩:=sv_seq h
theorem s_next{ρ:Sl}(h:nx ρ):Sv K E X tNext ρ ⟨nx,rt,bk,ct⟩:=sv_next h
theorem s_drop{ρ:Sl}(h:Ev K E X te ρ fun _=>nx ρ):Sv K E X (tDrop te) ρ ⟨nx,rt,bk,ct⟩:=sv_drop h
theorem s_ret{ρ:Sl}(h:Ev K E X te ρ rt):Sv K E X (tRet te) ρ ⟨nx,rt,bk,ct⟩:=sv_ret h
theorem s_if{c:TT}{t u:TS}{ρ:Sl}(h:Tv K E X c ρ fun b=>if b=true then Sv K E X t ρ ⟨nx,rt,bk,ct⟩ else Sv K E X u ρ ⟨nx,rt,bk,ct⟩):Sv K E X (tIfS c t u) ρ ⟨nx,rt,bk,ct⟩:=sv_if h
theorem s_while{tc:TT}{tb:TS}{ρ:Sl}(Iv:Nat→Sl→Prop)(m0:Nat)(i0:Iv m0 ρ)
  (h:∀ m ρ',Iv m ρ'→Tv K E X tc ρ' fun b=>if b=true then Sv K E X tb ρ' ⟨fun ρ2=>∃ m',m' < m∧Iv m' ρ2,rt,nx,fun ρ2=>∃ m',m' < m∧Iv m' ρ2⟩ else nx ρ'):Sv K E X (tWhile tc tb) ρ ⟨nx,rt,bk,ct⟩:=sv_while Iv m0 i0 h
end
end VL
end
section
namespace L2
open PySem PySem.Spec PyProof.Rows
section
variable{X:Cx}{K:W.Frag}
noncomputable def rOr(r r':R2):R2:=fun x y H Q=>r x y H Q∨r' x y H Q
noncomputable def rStr2:R2:=fun x y H Q=>∃ i j,x=.str i∧y=.str j∧i.length+j.length≤sizeLine∧Q (.str (i++j)) H
noncomputable def rAddI:R2:=rI0 fun i j=>.int (i+j)
noncomputable def rMulI:R2:=rI CMul fun i j=>.int (i*j)
noncomputable def rCatT0(K:W.Frag):R2:=fun x y H Q=>∃ a b ys,x=.ref a∧y=.ref b∧SqT K H a []∧SqT K H b ys∧Q (.ref b) H
theorem cat_tup0{prog:Program}{w:World}{A:Around}{E:Value→Shared→Prop}{s:Shared}{t b:Addr}{ws:List Value}{Q:Value→Shared→Prop}(ht:IsTup s.heap t ([]:List Value).toArray)(hb:IsTup s.heap b ws.toArray)
  (h1:Q (.ref b) s):wpAny (model prog w) A (binaryOp .Add (.ref t) (.ref b)) Q E s:=by
 obtain⟨⟨cls,dd,data,sl⟩,ho,hc,n,hd⟩:=id ht
 obtain⟨⟨cls2,dd2,data2,sl2⟩,ho2,hc2,n2,hd2⟩:=id hb
 simp only at hc hd hc2 hd2
 subst hc hd hc2 hd2
 exact concat_meets ⟨_,ho,rfl⟩ ⟨_,ho2,rfl⟩ noFill_tuple_add seq_tuple_add PySem.F.slot_tuple_add PySem.F.entry_tuple_add (PySem.F.args_tuple_add_2 _ _)
   (tuple_addW0 t b #[] ws.toArray n n2 dd dd2 sl sl2 rfl) ⟨ho,ho2,h1⟩
theorem op_catT0(hK:X.K=K):OpR X (binaryOp .Add) (rCatT0 K):=by
 subst hK
 intro pins s σ H x y v u Q I rx ry h
 obtain⟨a,b,ys,rfl,rfl,ha,hb,q⟩:=h
 cases rx
 cases ry
 obtain⟨its,r1,p1,_⟩:=I.tuple ha
 obtain⟨its2,r2,p2,_⟩:=I.tuple hb
 cases r1
 exact cat_tup0 p1 p2 ⟨.ref b,H,I,rfl,q⟩
theorem op_plus(hK:X.K=K):OpR X (binaryOp .Add) (rOr rAddI (rOr (rCatS K) (rOr (rCatT K) (rOr rStr2 (rCatT0 K))))):=op_add.or ((op_catS hK).or ((op_catTK hK).or (op_add_str.or (op_catT0 hK))))
theorem op_times:OpR X (binaryOp .Mult) (rOr rMulI rRep):=op_mul.or op_rep
theorem op_equ(hK:X.K=K)(hu:X.A.units+64<cLine):OpR X (compareOp .Eq) (rOr rEq (rEqD K)):=op_eq.or (op_eqDK hK hu)
theorem op_neq(hK:X.K=K)(hu:X.A.units+64<cLine):OpR X (compareOp .NotEq) (rOr rNe (rNeD K)):=op_ne.or (op_neDK hK hu)
theorem ix_any(hK:X.K=K)(hu:X.A.units+64<cLine):IxR X (rOr (rIxL K) (rOr (rIxT K) (rOr rIxS rIxDc))):=by subst hK;exact ix_list.or (ix_tup.or (ix_str.or (ix_dct hu)))
noncomputable def slOr(r r':V→Option Int→Option Int→Hp→VK→Prop):V→Option Int→Option Int→Hp→VK→Prop:=fun x lo hi H Q=>r x lo hi H Q∨r' x lo hi H Q
theorem sl_any(hK:X.K=K):SlR X (slOr (rSlL K) (rSlT K)):=by subst hK;exact sl_list.or sl_tup
noncomputable def cOr(r r':List V→Hp→VK→Prop):List V→Hp→VK→Prop:=fun xs H Q=>r xs H Q∨r' xs H Q
noncomputable def rLenS:List V→Hp→VK→Prop:=fun xs H Q=>∃ z,xs=[.str z]∧z.length≤sizeLine∧Q (.int z.length) H
theorem call_lenAny(hK:X.K=K):CallR X (.builtin "len") (cOr (rLen K) rLenS):=by subst hK;exact call_lenS.or call_len_str
noncomputable def iSeq(K:W.Frag)(tl:TE):TI:=fun σ H R=>tl σ H fun x H1=>∃ a,x=.ref a∧(((∃ xs,SqL K H1 a xs)∧R (Itl K a) H1)∨((∃ xs,SqT K H1 a xs)∧R (Itt K a) H1))
theorem pi_seq{tg l:Expr}{tl:TE}(hK:X.K=K)(hl:PE X l tl):PI X tg l (iSeq K tl):=by
 subst hK
 intro pins s σ H R I h
 refine thn (hl pins s σ H _ I h) fun v s1 ⟨x,H1,I1,r1,q1⟩=>?_
 obtain⟨a,e,q⟩:=q1
 subst e
 cases r1
 have fr:∀ b∈[s1.heap.objs.size],FpOk X pins H1 b:=fun b hb=>by
  rw[List.mem_singleton.mp hb]
  exact I1.fpOk (Nat.le_refl _) (I1.hok.fresh (Nat.le_refl _))
 rcases q with⟨⟨xs,hq⟩,q⟩|⟨⟨xs,hq⟩,q⟩
 ·obtain⟨its,_,p,_⟩:=I1.list hq
  exact wpAny_pyIter_list p.isList ⟨s1.heap.objs.size,_,_,_,H1,rfl,I1.kept (t':=s1.toks) fun b o e=>Heap.get?_push_of_some _ e,turn_list a _,⟨_,Heap.get?_push_size _ rfl,rfl,rfl⟩,fr,q⟩
 ·obtain⟨its,_,p,_⟩:=I1.tuple hq
  exact wpAny_pyIter_tuple (show s1.heap.IsTuple a its.toArray from p) ⟨s1.heap.objs.size,_,_,_,H1,rfl,I1.kept (t':=s1.toks) fun b o e=>Heap.get?_push_of_some _ e,turn_tuple a _,⟨_,Heap.get?_push_size _ rfl,rfl,rfl⟩,fr,q⟩
end
end L2
namespace VL
open PySem PySem.Spec L2
variable[Tabs]
section
variable{K:W.Frag}{E:FK}{X:Exc→Sl→Prop}{ρ:Sl}{Q:TV→Prop}{DV:VEnds}{ta tb te:TE}{i j:Int}{n:Nat}{r r':R2}{t u:TS}{a b:TV}
theorem op_l(h:Op K E X r a b Q):Op K E X (rOr r r') a b Q:=fun H0 σ ρ ts as H x y QV s x' k=>.inl (h H0 σ ρ ts as H x y QV s x' k)
theorem op_r(h:Op K E X r' a b Q):Op K E X (rOr r r') a b Q:=fun H0 σ ρ ts as H x y QV s x' k=>.inr (h H0 σ ρ ts as H x y QV s x' k)
noncomputable abbrev rPlus(K:W.Frag):R2:=rOr rAddI (rOr (rCatS K) (rOr (rCatT K) (rOr rStr2 (rCatT0 K))))
theorem add_i(q:Q (.av (.d (.int (i+j))))):Op K E X (rOr rAddI r') (.av (.d (.int i))) (.av (.d (.int j))) Q:=op_l (op_i0 q)
theorem mul_i(c:CMul i j)(q:Q (.av (.d (.int (i*j))))):Op K E X (rOr rMulI r') (.av (.d (.int i))) (.av (.d (.int j))) Q:=op_l (op_i c q)
theorem eq_i(q:Q (.av (.d (.bool (decide (i=j)))))):Op K E X (rOr rEq r') (.av (.d (.int i))) (.av (.d (.int j))) Q:=op_l (op_eqI q)
theorem ne_i(q:Q (.av (.d (.bool (!decide (i=j)))))):Op K E X (rOr rNe r') (.av (.d (.int i))) (.av (.d (.int j))) Q:=op_l (op_neI q)
theorem eq_d{α:Type}[DecidableEq α]{f:α→PyData}{m:Nat}{c d:α}(F:Enc f m)(ha:a.data=f c)(hb:b.data=f d)(q:Q (.av (.d (.bool (decide (c=d))))))(na:NR a:=by first|exact NR.av|exact NR.bor)(nb:NR b:=by first|exact NR.av|exact NR.bor)(hm:m≤32:=by decide):Op K E X (rOr rEq (rEqD K)) a b Q:=op_r (op_eqd F ha hb q na nb hm)
theorem ne_d{α:Type}[DecidableEq α]{f:α→PyData}{m:Nat}{c d:α}(F:Enc f m)(ha:a.data=f c)(hb:b.data=f d)(q:Q (.av (.d (.bool (!decide (c=d))))))(na:NR a:=by first|exact NR.av|exact NR.bor)(nb:NR b:=by first|exact NR.av|exact NR.bor)(hm:m≤32:=by decide):Op K E X (rOr rNe (rNeD K)) a b Q:=op_r (op_ned F ha hb q na nb hm)
noncomputable abbrev rIdx(K:W.Frag):R2:=rOr (rIxL K) (rOr (rIxT K) (rOr rIxS rIxDc))
theorem ix_L{ds:List PyData}{y:PyData}{c:TV}{k:Int}(ha:a.data=.list ds)(e:atI ds k=some y)(it:Item a y c)(q:Q c)(na:NR a:=by first|exact NR.av|exact NR.bor):Op K E X (rIdx K) a (.av (.d (.int k))) Q:=op_l (op_ixL ha e it q na)
theorem ix_T{ds:List PyData}{y:PyData}{c:TV}{k:Int}(ha:a.data=.tuple ds)(e:atI ds k=some y)(it:Item a y c)(q:Q c)(na:NR a:=by first|exact NR.av|exact NR.bor):Op K E X (rIdx K) a (.av (.d (.int k))) Q:=op_r (op_l (op_ixT ha e it q na))
theorem bi_l{c c':List V→Hp→VK→Prop}{bs:List TV}(h:Bi K E X c bs Q):Bi K E X (cOr c c') bs Q:=fun H0 σ ρ ts as H vs QV s hl x k=>.inl (h H0 σ ρ ts as H vs QV s hl x k)
theorem len_L{ds:List PyData}(ha:a.data=.list ds)(q:Q (.av (.d (.int ds.length))))(na:NR a:=by first|exact NR.av|exact NR.bor):Bi K E X (cOr (rLen K) rLenS) [a] Q:=bi_l (bi_lenL ha q na)
theorem sl_L{tl th:TO}(h:Ev K E X te ρ fun a=>To tl ρ K E X fun lo=>To th ρ K E X fun hi=>∃ ds,a.data=.list ds∧NR a∧Kp a.frz (cutD ds lo hi)∧Q (.av (.own ((cutD ds lo hi).map AV.d)))):Ev K E X (tSl (slOr (rSlL K) (rSlT K)) te tl th) ρ Q:=fun H0 σ ts as H QV s x k=>by
 refine h H0 σ ts as H _ s x fun a qa v H1 s1=>qa H0 σ _ _ H1 _ s1 x fun lo ql H2 s2=>ql H0 σ _ _ H2 _ s2 x fun hi ⟨ds,ha,na,kp,q⟩ H3 s3=>.inl ?_
 obtain⟨xs,⟨l,ys,e,h1,ex⟩,h2,s'⟩:=s3.frzV.items kp (fun xs=>∃ l ys,v=.ref l∧SqL K H3 l ys∧xs=cutV ys lo hi) (fun G rp sm=>by
  rw[TV.frz_data,ha] at rp
  obtain⟨l,xs,e,h3,h4⟩:=rp.list_inv
  exact⟨_,⟨l,xs,e,sm.seq h3,rfl⟩,Reps.cut lo hi h4⟩) (TV.frz_nr na)
 subst ex
 exact⟨l,ys,e,h1,fun p hp=>k _ q _ _ (SR.new s' (by rw[List.length_map,h2]) hp)⟩
theorem it_list{l:Addr}{ds:List PyData}:ItOk K (Itl K l) (.ref l) (.list ds) ds.length fun i=>ds.getD i .none:=by
 intro G H sm rp
 obtain⟨l',ys,e',h3,h4⟩:=rp.list_inv
 cases e'
 have h5:=sm.seq h3
 refine⟨fun i hi=>?_,fun i hi=>⟨ys,h5,by rw[h4.length];exact hi⟩⟩
 obtain⟨w,h6,h7⟩:=h4.get (i:=i) (d:=ds.getD i .none) (by rw[List.getD_eq_getElem?_getD,List.getElem?_eq_getElem hi];rfl)
 refine⟨⟨ys,w,h5,h6⟩,fun x H' ⟨e1,e2⟩=>?_⟩
 subst e1
 have:=e2 ys h5
 rw[h6] at this
 cases this
 exact⟨.refl _,fun G' m _=>h7.same m⟩
theorem it_tuple{l:Addr}{ds:List PyData}:ItOk K (Itt K l) (.ref l) (.tuple ds) ds.length fun i=>ds.getD i .none:=by
 intro G H sm rp
 obtain⟨l',ys,e',h3,h4⟩:=rp.tuple_inv
 cases e'
 have h5:=sm.tupS h3
 refine⟨fun i hi=>?_,fun i hi=>⟨ys,h5,by rw[h4.length];exact hi⟩⟩
 obtain⟨w,h6,h7⟩:=h4.get (i:=i) (d:=ds.getD i .none) (by rw[List.getD_eq_getElem?_getD,List.getElem?_eq_getElem hi];rfl)
 refine⟨⟨ys,w,h5,h6⟩,fun x H' ⟨e1,e2⟩=>?_⟩
 subst e1
 have:=e2 ys h5
 rw[h6] at this
 cases this
 exact⟨.refl _,fun G' m _=>h7.same m⟩
theorem iv_seq{P:Nat→(Nat→PyData)→TV→Prop}(h:Ev K E X te ρ fun a=>∃ ds,(a.data=.list ds∨a.data=.tuple ds)∧NR a∧P ds.length (fun i=>ds.getD i .none) a.frz):Iv K E X (iSeq K te) ρ P:=fun H0 σ ts as H R s x k =>
 h H0 σ ts as H _ s x fun a ⟨ds,e,na,q⟩ v H' s'=>by
  have rp:=s'.top na
  rcases e with e|e
  ·rw[e] at rp
   obtain⟨l,xs,rfl,h1,h2⟩:=rp.list_inv
   refine⟨l,rfl,.inl ⟨⟨xs,h1⟩,k _ _ _ q (.ref l) _ H' (TV.frz_nr na) s'.frzV ?_⟩⟩
   rw[TV.frz_data,e]
   exact it_list
  ·rw[e] at rp
   obtain⟨l,xs,rfl,h1,h2⟩:=rp.tuple_inv
   refine⟨l,rfl,.inr ⟨⟨xs,h1⟩,k _ _ _ q (.ref l) _ H' (TV.frz_nr na) s'.frzV ?_⟩⟩
   rw[TV.frz_data,e]
   exact it_tuple
theorem getD_map{α:Type}{xs:List α}{e:α→PyData}{i:Nat}(hi:i<xs.length):(xs.map e).getD i .none=e xs[i]:=by
 rw[List.getD_eq_getElem?_getD,List.getElem?_map,List.getElem?_eq_getElem hi];rfl
theorem for_L{α:Type}{nx bk ct:Sl→Prop}{rt:TV→Prop}{g:TG}{tb:TS}(h:Ev K E X te ρ fun a=>∃ (xs:List α) (e:α→PyData),(a.data=.list (xs.map e)∨a.data=.tuple (xs.map e))∧(∃ c,a=.av c)∧∃ Iw:Nat→Sl→Prop,Iw 0 ρ∧(∀ i ρ' (hi:i<xs.length),Iw i ρ'→Gv K g (e xs[i]) ρ' fun ρ''=>Sv K E X tb ρ'' ⟨Iw (i+1),rt,nx,Iw (i+1)⟩)∧∀ ρ',Iw xs.length ρ'→nx ρ'):Sv K E X (tFor (iSeq K te) g tb) ρ ⟨nx,rt,bk,ct⟩ :=
 sv_for (iv_seq (ev_imp h (fun a hh=>by
  obtain⟨xs,e,ha,⟨c,hc⟩,Iw,i0,turn,fin⟩:=hh
  exact⟨xs.map e,ha,by subst hc;exact NR.av,⟨c.data,by rw[hc];rfl⟩,Iw,i0,fun i ρ' hi w=>by
  rw[List.length_map] at hi
  show Gv K g ((xs.map e).getD i .none) ρ' _
  rw[getD_map hi]
  exact turn i ρ' hi w,fun ρ' w=>fin ρ' (by rw[List.length_map] at w;exact w)⟩)))
theorem for_R{nx bk ct:Sl→Prop}{rt:TV→Prop}{A:TA}{g:TG}{tb:TS}(h:Ea K E X A ρ fun bs=>∃ j,bs=[.av (.d (.int j))]∧(-(2 ^ 62)≤j∧j<2 ^ 62)∧∃ Iw:Nat→Sl→Prop,Iw 0 ρ∧(∀ (i:Nat) ρ',i<j.toNat→Iw i ρ'→Gv K g (.int i) ρ' fun ρ''=>Sv K E X tb ρ'' ⟨Iw (i+1),rt,nx,Iw (i+1)⟩)∧∀ ρ',Iw j.toNat ρ'→nx ρ'):Sv K E X (tFor (iRng1 A) g tb) ρ ⟨nx,rt,bk,ct⟩ :=
 sv_for (iv_rng1 fun H0 σ ts as H QV s x k=>h H0 σ ts as H QV s x (fun bs hh=>by
  obtain⟨j,e,hj,Iw,i0,turn,fin⟩:=hh
  exact k bs ⟨j,e,hj,⟨_,rfl⟩,Iw,i0,fun i ρ' hi w=>by
  show Gv K g (.int (0+(i:Int))) ρ' _
  rw[Int.zero_add]
  exact turn i ρ' hi w,fin⟩))
theorem for_R2{nx bk ct:Sl→Prop}{rt:TV→Prop}{A:TA}{g:TG}{tb:TS}(h:Ea K E X A ρ fun bs=>∃ l j,bs=[.av (.d (.int l)),.av (.d (.int j))]∧(-(2 ^ 62)≤l∧l<2 ^ 62∧-(2 ^ 62)≤j∧j<2 ^ 62)∧∃ Iw:Nat→Sl→Prop,Iw 0 ρ∧(∀ (i:Nat) ρ',i<(j-l).toNat→Iw i ρ'→Gv K g (.int (l+i)) ρ' fun ρ''=>Sv K E X tb ρ'' ⟨Iw (i+1),rt,nx,Iw (i+1)⟩)∧∀ ρ',Iw (j-l).toNat ρ'→nx ρ'):Sv K E X (tFor (iRng2 A) g tb) ρ ⟨nx,rt,bk,ct⟩ :=
 sv_for (iv_rng2 fun H0 σ ts as H QV s x k=>h H0 σ ts as H QV s x (fun bs hh=>by
  obtain⟨l,j,e,hj,Iw,i0,turn,fin⟩:=hh
  exact k bs ⟨l,j,e,hj,⟨_,rfl⟩,Iw,i0,fun i ρ' hi w=>turn i ρ' hi w,fin⟩))
theorem own_data{α:Type}(xs:List α)(y:α→AV):(AV.own (xs.map y)).data=.list (xs.map fun x=>(y x).data):=by
 rw[AV.data,AV.datas_map,List.map_map];rfl
theorem datas_mapd{α:Type}(xs:List α)(y:α→PyData):AV.datas (xs.map fun x=>.d (y x))=xs.map y:=by
 rw[AV.datas_map,List.map_map];rfl
theorem cleans_of{xs:List AV}(h:∀ x∈xs,x.clean=true):AV.cleans xs=true:=by
 induction xs with
 | nil=>rfl
 | cons x xs ih=>simp only[AV.cleans,Bool.and_eq_true];exact⟨h x (.head _),ih fun y hy=>h y (.tail _ hy)⟩
theorem clean_map{α:Type}{xs:List α}{y:α→AV}(h:∀ x,(y x).clean=true):(AV.own (xs.map y)).clean=true:=by
 rw[AV.clean]
 exact cleans_of fun z hz=>by obtain⟨x,_,rfl⟩:=List.mem_map.mp hz;exact h x
end
end VL
end
section
namespace L2
open PySem PySem.Spec PyProof.Rows
noncomputable def tIfJ(c:TT)(t u:TS):TS:=tIfS c t u
theorem ps_ifJ{X:Cx}{pos:Pos}{c:Expr}{a b:List Stmt}{tc:TT}{t u:TS}(hc:PT X c tc)(ha:PSs X a t)(hb:PSs X b u):PS X (.If c a b pos) (tIfJ tc t u):=ps_if hc ha hb
end L2
namespace VL
open PySem PySem.Spec PyProof.Rows L2
variable[Tabs]
noncomputable def NX:List PyData→Exc→Prop:=fun _ _=>False
noncomputable def ini(N:List Str)(ds:List PyData):Sl:=ds.map (fun d=>some (.d d))++List.replicate (N.length-ds.length) none
noncomputable abbrev fin(c:AV):VEnds:=⟨fun _=>c=.d .none,fun a=>Res a c,fun _=>False,fun _=>False⟩
section
variable{P:Program}{w:World}{K:W.Frag}{mg:Str→Option Value}{base:Heap}{CX:CXT}{x qual:Str}{st:Stmt}{N ps:List Str}{dvss:List (List V)}{k:Nat}{S:List PyData→AV→Prop}
theorem val_body{t:TS}{vs:List V}{H:Hp}{Qv:VK}{E:XK}(sp:spV K S NX vs H Qv E)(h:∀ ds c,S ds c→Sv K (toF E) NE t (ini N ds) (fin c)):t { nx:=fun _ H'=>Qv .non H',rt:=Qv } (L2.start N vs) H :=
 body_ok (N:=N) sp fun ds=>⟨fun c hc=>h ds c hc,fun e he=>he.elim⟩
theorem spV_len{vs:List V}{H:Hp}{Q:VK}{E:XK}{n:Nat}(h:spV K S NX vs H Q E)(hS:∀ ds c,S ds c→ds.length=n):vs.length=n:=by
 obtain⟨_,ds,r,⟨c,hc,_⟩|⟨e,he,_⟩⟩:=h
 ·rw[r.length];exact hS ds c hc
 ·exact he.elim
theorem val(T:Tx K mg x st ps dvss)(Sc:FnScope N ps (defScope st))(hS:∀ ds c,S ds c→ds.length=ps.length)
  (hbody:∀ (f:Addr) (cdv:Value) (A:Around) (outer:List Env) (s:Shared) (H:Hp) (E:XK),Room k (A.deeper (envOfC x (defScope st) s.heap.objs.size f cdv)) →
   ∃ t,PSs (cxOf CX P w K mg base N x (defScope st) f cdv A outer s H E).nox (defBody st) t∧∀ ds c,S ds c→Sv K (toF E) NE t (ini N ds) (fin c)) :
  ∀ dvs∈dvss,Cal P w K mg base CX (k+1) x ps dvs (spV K S NX) :=
 T.cal (k:=k) Sc (fun vs H Q E h=>spV_len h hS) fun f cdv A outer s H vs Q E hr h =>
  let ⟨t,h1,h2⟩:=hbody f cdv A outer s H E hr
  ⟨t,h1,val_body h h2⟩
end
section
variable{K:W.Frag}{E:FK}{X:Exc→Sl→Prop}{ρ:Sl}{Q:TV→Prop}{DV:VEnds}{ta tb te:TE}{i j:Int}{n:Nat}{r r':R2}{t u:TS}{a b:TV}
theorem v_b{c:Bool}{P:Bool→Prop}(h:P c):∃ c',TV.av (.d (.bool c))=.av (.d (.bool c'))∧P c':=⟨c,rfl,h⟩
theorem v_i{P:Int→Prop}(h:P i):∃ c',TV.av (.d (.int i))=.av (.d (.int c'))∧P c':=⟨i,rfl,h⟩
theorem v_s{c:AV}{P:AV→Prop}(h:P c):∃ a',Sto ρ (.av c) a'∧P a':=⟨c,.inl rfl,h⟩
theorem v_sB{x:PyData}{P:AV→Prop}(hn:NoOwn ρ)(h:P (.d x)):∃ a',Sto ρ (.bor x) a'∧P a':=⟨.d x,.inr (.inr ⟨hn,⟨x,rfl⟩,rfl⟩),h⟩
theorem v_sD{c:AV}{x:PyData}{P:AV→Prop}(e:c.data=x)(h:P (.d x)):∃ a',Sto ρ (.av c) a'∧P a':=⟨.d x,.inr (.inl ⟨c,rfl,by rw[e]⟩),h⟩
theorem v_ap{c:AV}{xs:List AV}{P:AV→Prop}(hz:xs.length≤1000000)(h:P c):∃ a',(TV.av c).sto=some a'∧xs.length≤1000000∧P a':=⟨c,rfl,hz,h⟩
noncomputable def Cl(S:List PyData→AV→Prop)(dds:List PyData)(Q:TV→Prop)(bs:List TV):Prop:=NRs bs∧∃ c a,S (bs.map TV.data++dds) c∧Got c a∧Q a
theorem call_of{S:List PyData→AV→Prop}{bs:List TV}{dds:List PyData}{c:AV}(nr:NRs bs)(hS:S (bs.map TV.data++dds) c)(g:Got c a)(q:Q a):Cl S dds Q bs:=⟨nr,c,a,hS,g,q⟩
theorem ev_cN{S:List PyData→AV→Prop}{SX:List PyData→Exc→Prop}{dvs:List V}{dds:List PyData}{A:TA}{E':XK}(hd:DvDs dvs dds)(h:Ea K E X A ρ (Cl S dds Q)):Ev K E X (tCall (spV K S SX) dvs E' A) ρ Q:=fun H0 σ ts as H QV s x k =>
 h H0 σ ts as H _ s x fun bs ⟨nr,c,a,h1,h2,h3⟩ vs H' s' hl=>by
  obtain⟨rp,s2⟩:=SR.reps nr.all hl s'
  exact⟨x.t.same s2.same,bs.map TV.data++dds,rp.append hd.reps,.inl ⟨c,h1,fun v H2 r=>k a h3 v H2 (s2.gotG r h2)⟩⟩
theorem ev_c0{S:List PyData→AV→Prop}{SX:List PyData→Exc→Prop}{A:TA}{E':XK}(h:Ea K E X A ρ (Cl S [] Q)):Ev K E X (tCall (spV K S SX) [] E' A) ρ Q:=ev_cN .nil h
theorem res_d{x:PyData}{c:AV}(h:c=.d x):Res (.av (.d x)) c:=.inl (by rw[h])
theorem res_o{xs:List AV}{c:AV}(h:c=.own xs):Res (.av (.own xs)) c:=.inl (by rw[h])
theorem sv_imp{nx nx' bk ct:Sl→Prop}{rt:TV→Prop}(h:Sv K E X t ρ ⟨nx',rt,bk,ct⟩)(m:∀ ρ',nx' ρ'→nx ρ'):Sv K E X t ρ ⟨nx,rt,bk,ct⟩:=fun H0 σ ts as H D st s x f=>h H0 σ ts as H D st s x ⟨fun ρ' q=>f.nx ρ' (m ρ' q),f.bk,f.ct,f.rt⟩
theorem s_ifJ{nx bk ct:Sl→Prop}{rt:TV→Prop}{c:TT}(J:Sl→Prop)(hJ:∀ ρ',J ρ'→nx ρ')(h:Tv K E X c ρ fun b=>if b=true then Sv K E X t ρ ⟨J,rt,bk,ct⟩ else Sv K E X u ρ ⟨J,rt,bk,ct⟩):Sv K E X (tIfJ c t u) ρ ⟨nx,rt,bk,ct⟩:=sv_imp (sv_if h) hJ
theorem iteNT{A B:Prop}(h:B):if (!true)=true then A else B:=h
theorem iteNF{A B:Prop}(h:A):if (!false)=true then A else B:=h
theorem ev_l0(q:Q (.av (.own []))):Ev K E X (tLst tNil) ρ Q:=ev_lst (ea_nil ⟨[],.nil,Nat.zero_le _,q⟩)
end
end VL
end
section
namespace L2
open PySem PySem.Spec PyProof.Rows
structure Exn(tb:Bool)(B:Heap)(l:List Env)(e:Addr)(cls:Value)(d:Option Addr)(h:Heap):Prop where
 stays:B.StaysIn h
 new:B.get? e=none
 frs:h.FunFrames B l
 ob:∃ (oe:Obj) (vs:Array Value),h.get? e=some oe∧oe.cls=cls∧oe.dict=d∧oe.data=.fields vs∧1<vs.size ∧
  (if tb=true then ∃ T oT ts,vs[1]?=some (.ref T)∧B.get? T=none∧T≠e∧h.get? T=some oT∧oT.data=.fields ts∧3<ts.size else vs[1]?=some .none)
section
variable{M:Model}{A:Around}{E:Value→Shared→Prop}{s:Shared}{B:Heap}{env:Env}{outer l:List Env}{L e:Addr}{cls:Value}{d:Option Addr}{tb:Bool}{Q:Unit→Shared→Prop}
theorem rec_ne{h:Heap}{b:Addr}{o oe:Obj}{vs:Array Value}(hb:h.get? b=some o)(hn:∀ ws,o.data≠.fields ws)(he:h.get? e=some oe)(hd:oe.data=.fields vs):b≠e:=fun q=>by
 subst q
 rw[hb] at he
 cases he
 exact hn vs hd
theorem exn_entry{oe:Obj}{vs:Array Value}{head:Value}{had:Bool}(hfr:A.frames=some (env::outer))(hf:env.frame=some L)(st:B.StaysIn s.heap)(ne:B.get? e=none)(fr:s.heap.FunFrames B (env::outer))
  (he:s.heap.get? e=some oe) (hc:oe.cls=cls) (hdi:oe.dict=d) (hd:oe.data=.fields vs) (hz:1<vs.size)
  (q:∀ h',Exn true B (env::outer) e cls d h'→s.heap.UpToSlots h'→Q () { s with heap:=h' }) :
  wpAny M A (do let a ← frameOf env;let pl ← entryPlaceOf L had;let b ← EntryCells.newEntry head a .none (rawInt L) .none pl;setField (.ref e) 1 b) Q E s:=by
 have nf:e∉(env::outer).filterMap (·.frame):=fun hm=>by
  obtain⟨_,o,ho,hn⟩:=fr.mem hm
  exact rec_ne ho hn he hd rfl
 refine wpAny_bind (wpAny_frameOf_fun hfr fr hf fun h1 so=>wpAny_bind (wpAny_entryPlaceOf fun pl hpl=>?_))
 unfold EntryCells.newEntry newFields
 refine wpAny_bind (wpAny_newObj_type ?_ (hpl.sizeOk5 _ _ _ _ _))
 have e1:h1.get? e=some oe:=by rw[so.2.1 e nf];exact he
 have s1:B.StaysIn h1:=fun b o z=>by rw[so.2.1 b fun hm=>by rw[(fr.mem hm).1] at z;cases z];exact st b o z
 generalize hob:({ cls:=.type "traceback",dict:=none,data:=.fields ([head,.ref L,.none,rawInt L,.none]++(if pl.isEmpty then List.replicate 6 Value.none else pl)).toArray }:Obj)=ot
 have e2:(h1.push ot).get? e=some oe:=Heap.get?_push_of_some _ e1
 have hT:(h1.push ot).get? h1.objs.size=some ot:=Heap.get?_push_size _ (by rw[← hob];rfl)
 have nT:h1.objs.size≠e:=Nat.ne_of_gt (Heap.lt_size e1)
 refine wpAny_setField e2 hd hz (q _ ⟨fun b o z=>?_,ne,fr.of_keeps fun b o hb hn=>?_,?_⟩ fun b o hb hn=>?_)
 ·rw[Heap.get?_update_other _ _ (fun y:e=b=>by rw[← y,ne] at z;cases z)]
  exact Heap.get?_push_of_some _ (s1 b o z)
 ·obtain⟨sl,hs⟩:=so.2.2 b o hb
  exact⟨{ o with slots:=sl },by rw[Heap.get?_update_other _ _ (Ne.symm (rec_ne hb hn he hd))];exact Heap.get?_push_of_some _ hs,rfl⟩
 ·have d3:=Obj.data_mapFields hd (·.setIfInBounds 1 (Value.ref h1.objs.size))
  refine⟨_,_,Heap.get?_update_self _ e2 (Obj.isFreed_of_fields d3),?_,?_,d3,by simpa using hz,?_⟩
  ·rw[Obj.cls_mapFields];exact hc
  ·rw[← hdi];obtain⟨_,_,dt,_⟩:=oe;cases dt<;>rfl
  ·rw[if_pos rfl]
   refine⟨h1.objs.size,ot,_,by simp[hz],s1.fresh,nT,by rw[Heap.get?_update_other _ _ (Ne.symm nT)];exact hT,by rw[← hob],?_⟩
   simp only[List.size_toArray,List.length_append,List.length_cons,List.length_nil]
   omega
 ·obtain⟨sl,hs⟩:=so.2.2 b o hb
  exact⟨sl,by rw[Heap.get?_update_other _ _ (Ne.symm (rec_ne hb hn he hd))];exact Heap.get?_push_of_some _ hs⟩
theorem exn_mark{T:Addr}{oT:Obj}{ts:Array Value}{v:Value}(x:Exn true B l e cls d s.heap)(hT:∃ oe vs,s.heap.get? e=some oe∧oe.data=.fields vs∧vs[1]?=some (.ref T))(nT:B.get? T=none)(ho:s.heap.get? T=some oT)(hd:oT.data=.fields ts) :
  Exn true B l e cls d (s.heap.update T (Obj.mapFields (·.setIfInBounds 3 v)))∧s.heap.UpToSlots (s.heap.update T (Obj.mapFields (·.setIfInBounds 3 v))):=by
 obtain⟨st,ne,fr,oe,vs,he,hc,hdi,hdd,hz,ht⟩:=x
 rw[if_pos rfl] at ht
 obtain⟨T',oT',ts',h1,n1,ne1,g1,d1,z1⟩:=ht
 obtain⟨oe',vs',he',hd',h1'⟩:=hT
 rw[he] at he'
 cases he'
 rw[hdd] at hd'
 cases hd'
 rw[h1] at h1'
 cases h1'
 rw[ho] at g1
 cases g1
 rw[hd] at d1
 cases d1
 have ot:∀ b,b≠T→(s.heap.update T (Obj.mapFields (·.setIfInBounds 3 v))).get? b=s.heap.get? b:=fun b hb=>Heap.get?_update_other _ _ (Ne.symm hb)
 have d3:=Obj.data_mapFields hd (·.setIfInBounds 3 v)
 refine⟨⟨fun b o z=>?_,ne,fr.of_keeps fun b o hb hn=>⟨o,by rw[ot b (rec_ne hb hn ho hd)];exact hb,rfl⟩,oe,vs,by rw[ot e (Ne.symm ne1)];exact he,hc,hdi,hdd,hz,?_⟩,fun b o hb hn=>⟨o.slots,by rw[ot b (rec_ne hb hn ho hd)];exact hb⟩⟩
 ·rw[ot b (fun y=>by rw[y,nT] at z;cases z)]
  exact st b o z
 ·rw[if_pos rfl]
  exact⟨T,_,_,h1,nT,ne1,Heap.get?_update_self _ ho (Obj.isFreed_of_fields d3),d3,by simpa using z1⟩
theorem exn_note(hfr:A.frames=some (env::outer))(hf:env.frame=some L)(x:Exn tb B (env::outer) e cls d s.heap)
  (q:∀ h',Exn true B (env::outer) e cls d h'→s.heap.UpToSlots h'→Q () { s with heap:=h' }):wpAny M A (noteFrame (.ref e) env) Q E s:=by
 obtain⟨oe,vs,he,hc,hdi,hd,hz,ht⟩:=x.ob
 unfold noteFrame
 simp only[hf]
 cases tb with
 | false =>
  rw[if_neg Bool.false_ne_true] at ht
  refine wpAny_bind (wpAny_field he hd ht ?_)
  rw[if_neg (by decide)]
  exact exn_entry hfr hf x.stays x.new x.frs he hc hdi hd hz q
 | true =>
  rw[if_pos rfl] at ht
  obtain⟨T,oT,ts,h1,n1,ne1,g1,d1,z1⟩:=ht
  refine wpAny_bind (wpAny_field he hd h1 ?_)
  rw[if_pos (show (Value.ref T != Value.none)=true from by simp)]
  refine wpAny_bind (wpAny_field g1 d1 (Array.getElem?_eq_getElem z1) ?_)
  by_cases hb:(ts[3] == rawInt L)=true
  ·rw[if_pos hb]
   exact wpAny_pure (q s.heap x (.refl _))
  ·rw[if_neg hb]
   refine wpAny_bind (wpAny_setField g1 d1 z1 ?_)
   obtain⟨x2,u2⟩:=exn_mark (v:=.none) x ⟨oe,vs,he,hd,h1⟩ n1 g1 d1
   obtain⟨oe2,vs2,he2,hc2,hdi2,hd2,hz2,_⟩:=x2.ob
   exact exn_entry (s:={ s with heap:=s.heap.update T (Obj.mapFields (·.setIfInBounds 3 .none)) }) hfr hf x2.stays x2.new x2.frs he2 hc2 hdi2 hd2 hz2 fun h' x3 u3=>q h' x3 (u2.trans u3)
theorem exn_flight{fo:Option Addr}(x:Exn true B l e cls d s.heap)(q:∀ h',Exn true B l e cls d h'→s.heap.UpToSlots h'→Q () { s with heap:=h' }):wpAny M A (setFlight (.ref e) fo) Q E s:=by
 obtain⟨oe,vs,he,hc,hdi,hd,hz,ht⟩:=x.ob
 rw[if_pos rfl] at ht
 obtain⟨T,oT,ts,h1,n1,ne1,g1,d1,z1⟩:=ht
 unfold setFlight
 refine wpAny_bind (wpAny_field he hd h1 ?_)
 rw[if_pos (show (Value.ref T != Value.none)=true from by simp)]
 obtain⟨x2,u2⟩:=exn_mark (v:=fo.elim Value.none fun f=>rawInt f) x ⟨oe,vs,he,hd,h1⟩ n1 g1 d1
 exact wpAny_setField g1 d1 z1 (q _ x2 u2)
theorem exn_leave(hfr:A.frames=some (env::outer))(hf:env.frame=some L)(x:Exn tb B (env::outer) e cls d s.heap)
  (q:∀ h',Exn true B outer e cls d h'→s.heap.UpToSlots h'→Q () { s with heap:=h' }):wpAny M A (leaving env (.ref e)) Q E s:=by
 unfold leaving
 refine wpAny_bind (exn_note hfr hf x fun h1 x1 u1=>exn_flight (s:={ s with heap:=h1 }) x1 fun h2 x2 u2=>q h2 ⟨x2.stays,x2.new,x2.frs.2.2,x2.ob⟩ (u1.trans u2))
theorem exn_back(hfr:A.frames=some (env::outer))(hf:env.frame=some L)(x:Exn tb B (env::outer) e cls d s.heap){X:Value→Shared→Prop}
  (q:∀ h',Exn true B (env::outer) e cls d h'→s.heap.UpToSlots h'→X (.ref e) { s with heap:=h' }):notedBy M A env (cameBackBy M A env X) (.ref e) s:=by
 refine exn_note hfr hf x fun h1 x1 u1=>?_
 obtain⟨oe,vs,he,hc,hdi,hd,hz,ht⟩:=x1.ob
 rw[if_pos rfl] at ht
 obtain⟨T,oT,ts,g0,_⟩:=ht
 unfold cameBackBy
 refine wpAny_bind (wpAny_field (s:={ s with heap:=h1 }) he hd g0 ?_)
 rw[if_neg (by simp)]
 exact exn_flight (s:={ s with heap:=h1 }) x1 fun h2 x2 u2=>q h2 x2 (u1.trans u2)
end
end L2
end
section
namespace L2
open PySem PySem.Spec PyProof.Rows
structure Grd(X:Cx)(B:Heap):Prop where
 keep:∀ b o,X.s₀.heap.get? b=some o→X.H₀ b=none→b∉frs X.stack→b∉X.ex→B.get? b=some o
 there:∀ b o,X.s₀.heap.get? b=some o→b∉frs X.stack→b∉X.ex→∃ o',B.get? b=some o'
 pn:∀ p∈X.pn,B.get? p.1=some p.2
noncomputable def XE(X:Cx)(F:FK)(e:Value)(s:Shared):Prop:=∃ (ea:Addr) (cls:Value) (d:Option Addr) (tb:Bool) (B:Heap) (H:Hp) (σ:St),
 e=.ref ea∧Exn tb B X.stack ea cls d s.heap∧Inv X [] σ H s∧HOk X.prog X.w H B∧Grd X B∧F cls d σ H
noncomputable def CXE(P:Program)(w:World):CXT:=fun outer H s E e s'=>∃ (ea:Addr) (cls:Value) (d:Option Addr) (B:Heap) (H':Hp),
 e=.ref ea∧Exn true B outer ea cls d s'.heap∧s'.os=s.os∧AllBare s'.gens∧Un (frs outer) [] H H' s.heap s'.heap∧HOk P w H' B ∧
  (∀ b o,s.heap.get? b=some o→H b=none→b∉frs outer→B.get? b=some o)∧(∀ b o,s.heap.get? b=some o→b∉frs outer→∃ o',B.get? b=some o')∧E cls d H'
section
variable{X:Cx}{pins:List (Addr×Obj)}{σ:St}{H:Hp}{s:Shared}{F:FK}
theorem frs_at{l:List Env}{env:Env}{b:Addr}(h:b∈frs (env::l)):env.frame=some b∨b∈frs l:=by
 obtain⟨x,hx,e⟩:=List.mem_filterMap.mp h
 rcases List.mem_cons.mp hx with z|z
 ·exact .inl (z▸e)
 ·exact .inr (List.mem_filterMap.mpr ⟨x,z,e⟩)
theorem Inv.entry_frs(I:Inv X pins σ H s){b:Addr}{o:Obj}(hb:X.s₀.heap.get? b=some o)(hf:b∈frs X.stack):b∈X.fs:=by
 rcases I.ok.stk with e|⟨e,ef⟩
 ·rw[e] at hf;exact hf
 ·rw[e] at hf
  rcases frs_at hf with z|z
  ·rw[ef] at z
   cases z
   exact absurd (Nat.lt_of_lt_of_le (Heap.lt_size hb) I.ok.above) (Nat.lt_irrefl _)
  ·exact z
theorem fs_stack(I:Inv X pins σ H s){b:Addr}(h:b∈X.fs):b∈frs X.stack:=by
 rcases I.ok.stk with e|⟨e,_⟩
 ·rw[e];exact h
 ·rw[e]
  obtain⟨x,hx,ef⟩:=List.mem_filterMap.mp h
  exact List.mem_filterMap.mpr ⟨x,.tail _ hx,ef⟩
theorem cell_slots{h h':Heap}{c:Addr}{v:Option Value}(u:h.UpToSlots h')(x:h.IsCell c v):h'.IsCell c v:=by
 obtain⟨o,e,hd⟩:=x
 obtain⟨sl,e2⟩:=u c o e fun vs z=>by rw[hd] at z;cases z
 exact⟨_,e2,hd⟩
theorem un_fly{h':Heap}{B:Heap}{tb:Bool}{ea:Addr}{cls:Value}{d:Option Addr}(I:Inv X pins σ H s)(x:Exn tb B X.stack ea cls d s.heap)(st:B.StaysIn h')(u:s.heap.UpToSlots h')(g:Grd X B):Un X.fs X.ex X.H₀ H X.s₀.heap h' where
 keep:=fun b o e n nf ne=>st b o (g.keep b o e n (fun z=>nf (I.entry_frs e z)) ne)
 slot:=fun b o e n hf ne=>by
  obtain⟨sl,e1⟩:=I.base.slot b o e n hf ne
  obtain⟨_,o2,e2,hn⟩:=x.frs.mem (fs_stack I hf)
  rw[e1] at e2
  cases e2
  obtain⟨sl2,e3⟩:=u b _ e1 hn
  exact⟨sl2,e3⟩
 free:=I.base.free
 there:=fun b o e ne=>by
  by_cases hf:b∈frs X.stack
  ·obtain⟨_,o2,e2,hn⟩:=x.frs.mem hf
   obtain⟨sl,e3⟩:=u b o2 e2 hn
   exact⟨_,e3⟩
  ·obtain⟨o',e1⟩:=g.there b o e hf ne
   exact⟨o',st b o' e1⟩
 tups:=I.base.tups
 frzs:=I.base.frzs
 tbls:=I.base.tbls
theorem Inv.fly{h':Heap}{B:Heap}{tb:Bool}{ea:Addr}{cls:Value}{d:Option Addr}(I:Inv X [] σ H s)(x:Exn tb B X.stack ea cls d s.heap)(st:B.StaysIn h')(u:s.heap.UpToSlots h')(hB:HOk X.prog X.w H B)(g:Grd X B):Inv X [] σ H { s with heap:=h' } where
 ok:=I.ok
 os:=I.os
 bare:=I.bare
 base:=un_fly I x st u g
 loc:=by
  obtain⟨m,hn,hl⟩:=I.loc
  refine⟨m,u.ns hn,fun i x v h1 h2 h3=>?_⟩
  obtain⟨w,r,l⟩:=hl i x v h1 h2 h3
  refine⟨w,r,?_⟩
  rcases l with l|⟨k,c,e,hc⟩
  ·exact .inl l
  ·exact .inr ⟨k,c,e,cell_slots u hc⟩
 cell:=fun x c e=>by
  obtain⟨v,hc⟩:=I.cell x c e
  exact⟨v,cell_slots u hc⟩
 free:=I.free
 freeC:=I.freeC
 pin:=fun p hp=>by
  obtain⟨_,b,c,d,e⟩:=I.pin p hp
  have hp':p∈X.pn:=by simpa using hp
  exact⟨st _ _ (g.pn p hp'),b,c,d,e⟩
 hok:=hB.kept st
 len:=I.len
theorem passes_XE(hst:X.stack=X.env::X.outer)(hf:X.env.frame=some X.env.locals):PassesOwn (model X.prog X.w) X.A X.env (XE X F):=by
 rintro e s' ⟨ea,cls,d,tb,B,H,σ,rfl,x,I,hB,g,f⟩
 have hfr:=I.ok.frames
 rw[hst] at hfr x
 refine exn_back hfr hf x fun h' x' u=>?_
 rw[← hst] at x x'
 exact⟨ea,cls,d,true,B,H,σ,rfl,x',I.fly x x'.stays u hB g,hB,g,f⟩
theorem passes_call{e:Value}{s':Shared}(I:Inv X pins σ H s)(h:CXE X.prog X.w X.stack H s (fun c d H'=>F c d σ H') e s'):XE X F e s':=by
 obtain⟨ea,cls,d,B,H',rfl,x,os,bare,un,hB,inB,thB,f⟩:=h
 have I':Inv X pins σ H' s':=I.call' (ch:=[]) os un (hB.kept x.stays) bare (fun b z=>nomatch z)
 refine⟨ea,cls,d,true,B,H',σ,rfl,x,I'.pins_of fun p hp=>I'.pin p (by simpa using List.mem_append_left _ (by simpa using hp)),hB,⟨fun b o e n nf ne=>?_,fun b o e nf ne=>?_,fun p hp=>?_⟩,f⟩
 ·exact inB b o (I.base.keep b o e n (fun z=>nf (fs_stack I z)) ne) (I.base.free b o e n ne) nf
 ·obtain⟨o',e'⟩:=I.base.there b o e ne
  exact thB b o' e' nf
 ·obtain⟨e1,n1,l1,f1,_⟩:=I.pin p (List.mem_append_left _ hp)
  refine inB _ _ e1 n1 fun z=>?_
  rcases I.ok.stk with e|⟨e,ef⟩
  ·rw[e] at z;exact f1 z
  ·rw[e] at z
   rcases frs_at z with y|y
   ·rw[ef] at y;exact l1 (Option.some.inj y).symm
   ·exact f1 y
end
theorem PSs.xmono{X:Cx}{E':Value→Shared→Prop}{st:List Stmt}{t:TS}(h:PSs (X.wish E') st t)(m:∀ e s,E' e s→X.xe e s):PSs X st t:=fun pins s σ H D I hw =>
 wpAny_mono (h pins s σ H D (I.wish _) hw) (fun _ _ q=>q.unwish) fun e s z=>m e s z
theorem leave_XE{P:Program}{w:World}{K:W.Frag}{mg:Str→Option Value}{base:Heap}{N:List Str}{qual:Str}{scope:Scope}{f:Addr}{cd:Value}{A:Around}{outer:List Env}{s₀:Shared}{H₀:Hp}{E:XK}{e:Value}{s:Shared}
  (h:XE (cxOf (CXE P w) P w K mg base N qual scope f cd A outer s₀ H₀ E) (fun c d _ H'=>E c d H') e s):(cxOf (CXE P w) P w K mg base N qual scope f cd A outer s₀ H₀ E).xe e s:=by
 obtain⟨ea,cls,d,tb,B,H,σ,rfl,x,I,hB,g,q⟩:=h
 have hfr:=I.ok.frames
 refine exn_leave hfr rfl x fun h' x' u=>⟨ea,cls,d,B,H,rfl,x',I.os,I.bare,un_fly I x x'.stays u g,hB,fun b o e n nf=>?_,fun b o e nf=>?_,q⟩
 ·exact g.keep b o e n (fun z=>nf (I.entry_frs e z)) (fun z=>nomatch z)
 ·exact g.there b o e (fun z=>nf (I.entry_frs e z)) (fun z=>nomatch z)
end L2
end
section
namespace L2
open PySem PySem.Spec PyProof.Rows
section
variable{K:W.Frag}{h:Heap}{C:Addr}{bmB:List Value}{newId:String}
end
theorem objOk_there{P:Program}{w:World}{H:Hp}{h:Heap}{a:Addr}{o:HO}(x:ObjOk P w H h a o):∃ u,h.get? a=some u:=by
 induction o with
 | lst xs=>obtain⟨_,_,_,_,e⟩:=x;exact⟨_,e⟩
 | tup xs=>obtain⟨_,_,_,_,e,_⟩:=x;exact⟨_,e⟩
 | dK kvs=>obtain⟨_,_,_,_,_,_,_,e,_⟩:=x;exact⟨_,e⟩
 | dT kvs=>obtain⟨_,_,_,_,_,_,_,e,_⟩:=x;exact⟨_,e⟩
 | dN kvs=>obtain⟨_,_,_,_,_,_,_,e,_⟩:=x;exact⟨_,e⟩
 | set S n=>obtain⟨_,_,_,_,e,_⟩:=x;exact⟨_,e⟩
 | ins C dx fs=>obtain⟨_,_,_,e,_⟩:=x;exact⟨_,e⟩
 | own y=>exact x
 | xd fs=>obtain⟨_,⟨_,_,_,e,_⟩,_⟩:=x;exact⟨_,e⟩
 | rng lo hi=>obtain⟨_,_,_,e⟩:=x;exact⟨_,e⟩
 | frz ob u ih=>exact⟨_,x.1⟩
 | tbl ps=>exact⟨_,x⟩
 | tbq q=>obtain⟨_,e,_⟩:=x;exact⟨_,e⟩
 | met f y=>exact⟨_,x⟩
 | ext φ=>exact x.2.1
section
variable{X:Cx}{F:FK}{C:Addr}{x:Str}{np cpos pos:Pos}{bm bmN:List Value}{B Bn newId nid initId inN:String}
end
end L2
end
section
namespace L2
open PySem PySem.Spec PyProof.Rows
noncomputable def tCallX(sp:Sp)(dvs:List V)(F:FK)(t:TA):TE:=fun σ H Q=>t σ H fun vs H1=>sp (vs++dvs) H1 Q fun c d H'=>F c d σ H'
section
variable{X:Cx}{k:Nat}{f:Addr}{fd:FuncData}{ps:List Str}{sp:Sp}{dvs:List V}{ds:List Value}{F:FK}{x:Str}{p pos:Pos}{e:Expr}{es:List Expr}{t:TA}
theorem run_fnX{pins:List (Addr×Obj)}{σ:St}{H:Hp}{s:Shared}{Q:VK}{us:List Value}{vs:List V}(Fk:FnOk X.prog X.w X.K X.mg X.base (CXE X.prog X.w) k f fd ps sp)(hr:Room k X.A)(hb:Binds X.K fd ps ds)(hd:Vals dvs ds)
  (I:Inv X pins σ H s) (r:Vals vs us) (h:sp (vs++dvs) H Q fun c d H'=>F c d σ H'):wpAny (model X.prog X.w) X.A (PySem.call (.ref f) us) (EP X pins σ Q) (XE X F) s:=by
 have r2:Vals (vs++dvs) (us++ds):=r.append hd
 have hl:(us++ds).length=ps.length:=by rw[← r2.length];exact Fk.len _ _ _ _ h
 refine wpAny_call (codeAny_mono (Fk.run X.A X.stack s H ⟨us,[]⟩ (us++ds) (vs++dvs) Q _ hr I.env0 (hb s us I.kIn hl) r2 h) fun z s' hq=>?_)
 cases z with
 | error e=>exact passes_call I hq
 | ok fl =>
  cases fl with
  | ret u=>exact I.after hq
  | next=>exact hq.elim
  | brk=>exact hq.elim
  | cont=>exact hq.elim
theorem EP.wish{pins:List (Addr×Obj)}{σ:St}{Q:VK}{u:Value}{s:Shared}{E:Value→Shared→Prop}(h:EP X pins σ Q u s):EP (X.wish E) pins σ Q u s:=let ⟨v,H,I,r,q⟩:=h;⟨v,H,I.wish E,r,q⟩
theorem pe_calX(c:Cal X.prog X.w X.K X.mg X.base (CXE X.prog X.w) k x ps dvs sp)(hr:Room k X.A)(hg:Gl X x)(ha:PA (X.wish (XE X F)) (e::es) t)(hdb:(x == ("__debug__" : Str))=false:=by decide)
  (he:starEach (e::es) X.env=(false,eval e X.env)::starEach es X.env:=by rfl) (hpl:(backTo pos (starEach es X.env)).any (·.1)=false:=by rfl) :
  PE (X.wish (XE X F)) (.Call (.Name x p) (e::es) [] pos) (tCallX sp dvs F t):=by
 obtain⟨f,fd,ds,h1,hm,hk,hb,hv⟩:=c.ex
 intro pins s σ H Q I h
 refine wpAny_Call_Name_kw (ld_glob (X:=X.wish (XE X F)) I hg hm ?_ hdb)
 refine PySem.W.callWith_K (h₀:=X.base) I.ok.mod.kin hk (thn (ha pos pins s σ H _ I h) fun us s1 ⟨vs,H1,I1,r,q⟩=>⟨I1.kIn,?_⟩) he hpl
 exact thn (run_fnX h1 hr hb hv I1.unwish r q) fun _ _ z=>z.wish
end
theorem Inv.gone{X:Cx}{pins:List (Addr×Obj)}{σ:St}{H:Hp}{s:Shared}{h':Heap}{m m':Str→Option Value}{i:Nat}{x:Str}{tk:Nat}(I:Inv X pins σ H s)(hN:X.N.Nodup)(hi:X.N[i]?=some x)(hn:s.heap.Ns X.env.locals m)(hl:∀ (j:Nat) (y:Str) (v:V),X.N[j]?=some y→σ[j]?=some (some v)→Vis X.env.scope y→∃ u,RelV v u∧Look X.env s.heap m y u)
  (hn':h'.Ns X.env.locals m') (hm:∀ y,y≠x→m' y=m y) (hs:Heap.SameBut X.env.locals s.heap h'):Inv X pins (σ.set i none) H { s with heap:=h',toks:=tk } where
 ok:=I.ok
 os:=I.os
 bare:=I.bare
 base:=⟨fun b o e n hb hx=>(hs.2 b (Nat.ne_of_lt (Nat.lt_of_lt_of_le (Heap.lt_size e) I.ok.above))).trans (I.base.keep b o e n hb hx),
  fun b o e n hb hx=>by
   obtain⟨sl,e1⟩:=I.base.slot b o e n hb hx
   exact⟨sl,(hs.2 b (Nat.ne_of_lt (Nat.lt_of_lt_of_le (Heap.lt_size e) I.ok.above))).trans e1⟩,I.base.free,
  fun b o e hx=>by
   obtain⟨o',e1⟩:=I.base.there b o e hx
   exact⟨o',(hs.2 b (Nat.ne_of_lt (Nat.lt_of_lt_of_le (Heap.lt_size e) I.ok.above))).trans e1⟩,I.base.tups,I.base.frzs,I.base.tbls⟩
 loc:=⟨m',hn',fun j y v e1 e2 e3=>by
  by_cases hj:j=i
  ·subst hj
   rw[List.getElem?_set] at e2
   simp only[if_true] at e2
   split at e2<;>simp at e2
  ·rw[List.getElem?_set_ne (Ne.symm hj)] at e2
   obtain⟨u,r,q⟩:=hl j y v e1 e2 e3
   refine⟨u,r,?_⟩
   rcases q with⟨k,e⟩|⟨k,c,e,z⟩
   ·exact .inl ⟨k,by rw[hm y fun w=>hj (nodup_ix hN e1 (w▸hi))];exact e⟩
   ·exact .inr ⟨k,c,e,z.sameBut hs (I.cne y c e)⟩⟩
 cell:=fun y c e=>by
  obtain⟨w,z⟩:=I.cell y c e
  exact⟨w,z.sameBut hs (I.cne y c e)⟩
 free:=I.free
 freeC:=I.freeC
 pin:=fun p hp=>by
  obtain⟨e,n,ne,nf,d⟩:=I.pin p hp
  exact⟨(hs.2 p.1 ne).trans e,n,ne,nf,d⟩
 hok:=fun b ob e=>(I.hok b ob e).stay (fun c w hc q=>(hs.2 c (by
  rintro rfl
  rcases hc with z|hc
  ·rw[← z,I.free] at e;cases e
  ·rw[I.free] at hc;cases hc)).trans q) (fun _ q=>q) fun _ _ q=>q
 len:=by rw[List.length_set];exact I.len
theorem unbind_ok{X:Cx}{pins:List (Addr×Obj)}{σ:St}{H:Hp}{s:Shared}{i:Nat}{x:Str}{pos:Pos}{M:Model}{A:Around}{E:Value→Shared→Prop}{Q:Unit→Shared→Prop}(I:Inv X pins σ H s)(hN:X.N.Nodup)(hi:X.N[i]?=some x)(hx:X.env.scope.names.lookup x=some .local)
  (q:∀ s',Inv X pins (σ.set i none) H s'→Q () s'):wpAny M A (do bindName X.env x .none;unbindBehindTheSuite X.env x pos) Q E s:=by
 have hcls:(X.env.scope.kind == .class || (X.env.scope.kind == .module && X.env.locals != X.env.globals))=false:=by rw[I.ok.kind];rfl
 obtain⟨m,hn,hl⟩:=I.loc
 refine wpAny_bind (wpAny_bindName (wpAny_storeName_local hx hn (fun h1 n1 s1=>?_) hcls))
 unfold unbindBehindTheSuite
 refine wpAny_onRaise ?_
 unfold unbindName
 refine wpAny_bind (wpAny_point (wpAny_bind ?_))
 unfold deleteName
 have hk:X.env.kindOf x=some .local:=hx
 simp only[hk,hcls]
 rw[if_neg (by decide)]
 refine wpAny_bind (wpAny_nsDel_keeps n1 fun h2 v n2 s2=>?_)
 simp only[if_true,Option.isSome_some,Bool.not_true,Bool.false_eq_true,if_false]
 refine wpAny_pure (wpAny_point (q _ (I.gone (tk:=s.toks+1) hN hi hn hl n2 (fun y hy=>by simp[hy]) (s1.trans s2))))
end L2
end
section
namespace L2
open PySem PySem.Spec PyProof.Rows
noncomputable abbrev Cx.inX(X:Cx)(ea:Addr):Cx:={ X with A:=X.A.mark (some (.ref ea)),calm:=false }
noncomputable abbrev Cx.pinned(X:Cx)(pins:List (Addr×Obj)):Cx:={ X with pn:=X.pn++pins }
section
variable{X:Cx}{pins:List (Addr×Obj)}{σ:St}{H:Hp}{s:Shared}{F:FK}
theorem Inv.toPin(I:Inv X pins σ H s):Inv (X.pinned pins) [] σ H s :=
 ⟨⟨I.ok.mod,I.ok.kind,I.ok.glob,I.ok.blt,I.ok.above,I.ok.inj,I.ok.has,I.ok.cab,I.ok.hd,I.ok.frames,I.ok.stk,I.ok.exf,I.ok.bs,I.ok.bsz,I.ok.noex,I.ok.exfs,I.ok.funs,I.ok.frf⟩,I.os,I.bare,I.base,I.loc,I.cell,I.free,I.freeC,fun p hp=>I.pin p (by simpa using hp),I.hok,I.len⟩
theorem Inv.unPin{xe:Value→Shared→Prop}(ok:X.Ok)(I:Inv ((X.pinned pins).wish xe) [] σ H s):Inv X pins σ H s :=
 ⟨ok,I.os,I.bare,I.base,I.loc,I.cell,I.free,I.freeC,fun p hp=>I.pin p (by simpa using hp),I.hok,I.len⟩
theorem Inv.toX(I:Inv X pins σ H s)(ea:Addr)(hf:(X.A.mark (some (.ref ea))).frames=X.A.frames):Inv (X.inX ea) pins σ H s :=
 ⟨⟨I.ok.mod,I.ok.kind,I.ok.glob,I.ok.blt,I.ok.above,I.ok.inj,I.ok.has,I.ok.cab,(fun z=>(nomatch z)),hf.trans I.ok.frames,I.ok.stk,I.ok.exf,I.ok.bs,I.ok.bsz,I.ok.noex,I.ok.exfs,I.ok.funs,I.ok.frf⟩,I.os,I.bare,I.base,I.loc,I.cell,I.free,I.freeC,I.pin,I.hok,I.len⟩
theorem Inv.see{B:Heap}{tb:Bool}{ea:Addr}{cls:Value}{d:Option Addr}(I:Inv X [] σ H s)(x:Exn tb B X.stack ea cls d s.heap)(hB:HOk X.prog X.w H B)(g:Grd X B):H ea=none∧Inv X [] σ (upd H ea (hX ea cls d)) s:=by
 obtain⟨oe,vs,he,hc,hdi,hd,_⟩:=x.ob
 have hn:H ea=none:=by
  cases z:H ea with
  | none=>rfl
  | some o =>
   obtain⟨u,hu⟩:=objOk_there (hB ea o z)
   rw[x.new] at hu
   cases hu
 have nf:ea∉frs X.stack:=fun hm=>by
  obtain⟨_,o,ho,hdn⟩:=x.frs.mem hm
  rw[he] at ho
  cases ho
  exact hdn vs hd
 have ne:∀ b,H b≠none→b≠ea:=fun b h z=>h (z▸hn)
 have nel:X.env.locals≠ea:=fun z=>by
  obtain⟨m,⟨o,es,ep,e,d2,_⟩,_⟩:=I.loc
  rw[z,he] at e
  cases e
  rw[hd] at d2
  cases d2
 refine⟨hn,⟨I.ok,I.os,I.bare,⟨I.base.keep,I.base.slot,fun b o e n hx=>?_,I.base.there,fun b xs e=>?_,fun b o u e=>?_,fun b ps e=>?_⟩,I.loc,I.cell,by rw[upd_ne nel];exact I.free,fun y c e=>?_,fun p hp=>?_,fun a o e=>?_,I.len⟩⟩
 ·have hb:b≠ea:=fun z=>by
   subst z
   have:=g.keep b o e n nf hx
   rw[x.new] at this
   cases this
  rw[upd_ne hb]
  exact I.base.free b o e n hx
 ·have:=I.base.tups b xs e
  rw[upd_ne (ne b (by rw[this];simp))];exact this
 ·have:=I.base.frzs b o u e
  rw[upd_ne (ne b (by rw[this];simp))];exact this
 ·obtain⟨more,this⟩:=I.base.tbls b ps e
  exact⟨more,by rw[upd_ne (ne b (by rw[this];simp))];exact this⟩
 ·have hcc:c≠ea:=fun z=>by
   obtain⟨v,o,e1,d1⟩:=I.cell y c e
   rw[z,he] at e1
   cases e1
   rw[hd] at d1
   cases d1
  rw[upd_ne hcc]
  exact I.freeC y c e
 ·obtain⟨e1,n1,r⟩:=I.pin p hp
  have hp':p∈X.pn:=by simpa using hp
  have hpe:p.1≠ea:=fun z=>by
   have:=g.pn p hp'
   rw[z,x.new] at this
   cases this
  exact⟨e1,by rw[upd_ne hpe];exact n1,r⟩
 ·by_cases ha:a=ea
  ·subst ha
   rw[upd_same] at e
   cases e
   exact⟨⟨oe,vs,he,hc,hdi,hd⟩,⟨oe,he⟩,fun h1 h2 ⟨o,ws,z,r⟩ k=>⟨o,ws,k o z,r⟩⟩
  ·rw[upd_ne ha] at e
   refine (I.hok a o e).stay (fun _ _ _ q=>q) (fun b q=>?_) (fun b xs q=>?_) (fun b o q=>?_)
   ·rw[upd_ne (ne b (by rw[q];simp))];exact q
   ·rw[upd_ne (ne b (by rw[q];simp))];exact q
   ·rw[upd_ne (ne b (by rw[q];simp))];exact q
end
noncomputable def tTryAs(K:W.Frag)(C:Value)(i:Nat)(tb:FK→TS)(th:TS):TS:=fun D σ H =>
 tb (fun c d σ' H'=>PySem.W.exmOne K c C=some true∧∀ ea,H' ea=none→th ⟨fun σ2 H2=>D.nx (σ2.set i none) H2,D.rt,fun σ2 H2=>D.bk (σ2.set i none) H2,fun σ2 H2=>D.ct (σ2.set i none) H2⟩ (σ'.set i (some (.ref ea))) (upd H' ea (hX ea c d))) D σ H
section
variable{X:Cx}{i:Nat}{n x:Str}{C:Value}{np hpos pos:Pos}{body suite:List Stmt}{b₀:Stmt}{tb:FK→TS}{th:TS}
theorem ps_tryAs(hst:X.stack=X.env::X.outer)(hfl:X.env.frame=some X.env.locals)(hN:X.N.Nodup)(hi:X.N[i]?=some n)(hn:X.env.scope.names.lookup n=some .local)(hg:Gl X x)(hm:X.mg x=some C)
  (hb:∀ pins F,PSs ((X.pinned pins).wish (XE (X.pinned pins) F)) body (tb F)) (hh:∀ ea pins,PSs ((X.pinned pins).inX ea).nox (b₀::suite) th) (hfm:∀ ea,(X.A.mark (some (.ref ea))).frames=X.A.frames:=by intro _;rfl) (hd:(x == ("__debug__" : Str))=false:=by decide) :
  PS X (.Try body [.ExceptHandler (some (.Name x np)) (some n) (b₀::suite) hpos] [] [] pos) (tTryAs X.K C i tb th):=by
 intro pins s σ H D I h
 have I1:Inv (X.pinned pins) [] σ H s:=I.toPin
 refine wpAny_Try_except (wpAny_mono (hb pins _ [] s σ H D (I1.wish _) h) (fun f s1 q=>?_) fun e s1 q=>?_)
 ·cases f with
  | next=>obtain⟨σ',H',J,q⟩:=q;exact wpAny_execs_nil ⟨σ',H',J.unPin I.ok,q⟩
  | brk=>obtain⟨σ',H',J,q⟩:=q;exact⟨σ',H',J.unPin I.ok,q⟩
  | cont=>obtain⟨σ',H',J,q⟩:=q;exact⟨σ',H',J.unPin I.ok,q⟩
  | ret u=>obtain⟨v,σ',H',J,r,q⟩:=q;exact⟨v,σ',H',J.unPin I.ok,r,q⟩
 ·obtain⟨ea,cls,d,tb0,B,H1,σ1,rfl,x1,J1,hB,g,hex,hth⟩:=q
  have hfr:X.A.frames=some (X.env::X.outer):=by rw[I.ok.frames,hst]
  have e1:Exn tb0 B (X.env::X.outer) ea cls d s1.heap:=by rw[← hst];exact x1
  refine exn_note hfr hfl e1 fun h2 e2 u2=>exn_flight (s:={ s1 with heap:=h2 }) e2 fun h3 e3 u3=>?_
  have x2:Exn true B X.stack ea cls d h2:=by rw[hst];exact e2
  have x3:Exn true B X.stack ea cls d h3:=by rw[hst];exact e3
  have J2:Inv (X.pinned pins) [] σ1 H1 { s1 with heap:=h2 }:=J1.fly x1 x2.stays u2 hB g
  have J3:Inv (X.pinned pins) [] σ1 H1 { s1 with heap:=h3 }:=J2.fly (s:={ s1 with heap:=h2 }) x2 x3.stays u3 hB g
  have J4:Inv ((X.pinned pins).inX ea) [] σ1 H1 { s1 with heap:=h3 }:=J3.toX ea (hfm ea)
  obtain⟨oe,vs,he,hc,_⟩:=x3.ob
  have LT:PySem.W.Looks (model X.prog X.w) h3 (typeOf (.ref ea)) cls:=by rw[← hc];exact (PySem.W.Looks.ld he).andThen .now
  refine wpAny_handleBy_cons (codeAny_handlers_test (ld_glob (X:=(X.pinned pins).inX ea) J4 hg hm ((PySem.W.exm_one (K:=X.K) (h:=h3) J3.kIn LT hex).here ?_) hd)) (by intro q;cases q)
  refine codeAny_handlers_suite_as (exn_flight (s:={ s1 with heap:=h3 }) x3 fun h5 x5 u5=>?_)
  have J5:Inv (X.pinned pins) [] σ1 H1 { s1 with heap:=h5 }:=J3.fly (s:={ s1 with heap:=h3 }) x3 x5.stays u5 hB g
  obtain⟨hne,J6⟩:=J5.see (s:={ s1 with heap:=h5 }) x5 hB g
  have J7:Inv ((X.pinned pins).inX ea) [] σ1 (upd H1 ea (hX ea cls d)) { s1 with heap:=h5 }:=J6.toX ea (hfm ea)
  refine store_ok (X:=(X.pinned pins).inX ea) (v:=.ref ea) J7 hN hi (.inl hn) rfl (fun s8 J8=>?_) (.inr hn)
  refine wpAny_mono (hh ea pins [] s8 _ _ _ (J8.wish _) (hth ea hne)) (fun f s9 q=>?_) fun _ _ z=>z.elim
  have ub:∀ {σ9:St} {H9:Hp} {Q:Unit→Shared→Prop} {E:Value→Shared→Prop},Inv (((X.pinned pins).inX ea).wish fun _ _=>False) [] σ9 H9 s9→(∀ s',Inv X pins (σ9.set i none) H9 s'→Q () s')→wpAny (model X.prog X.w) X.A (do bindName X.env n .none;unbindBehindTheSuite X.env n hpos) Q E s9:=fun {σ9 H9 Q E} J q=>by
   have J':Inv X pins σ9 H9 s9:=⟨I.ok,J.os,J.bare,J.base,J.loc,J.cell,J.free,J.freeC,fun p hp=>J.pin p (by simpa using hp),J.hok,J.len⟩
   exact unbind_ok J' hN hi hn q
  cases f with
  | next=>obtain⟨σ',H',J,q⟩:=q;exact ub J fun s' J'=>⟨_,H',J',q⟩
  | brk=>obtain⟨σ',H',J,q⟩:=q;exact ub J fun s' J'=>⟨_,H',J',q⟩
  | cont=>obtain⟨σ',H',J,q⟩:=q;exact ub J fun s' J'=>⟨_,H',J',q⟩
  | ret u=>obtain⟨v,σ',H',J,r,q⟩:=q;exact ub J fun s' J'=>⟨v,_,H',J',r,q⟩
end
end L2
end
section
namespace L2
open PySem PySem.Spec PyProof.Rows PySem.W
structure ExcGet(K:W.Frag)(C:Addr):Prop where
 ga:findIn K (.ref C) "__getattribute__" = some (some (.builtin "BaseException.__getattribute__"))
 hook:findIn K (.ref C) "__getattr__" = some none
 base:mroIn K C (.type "BaseException")=some true
 obj:mroIn K C (.type "object")=some true
section
variable{prog:Program}{w:World}{A:Around}{E:Value→Shared→Prop}{s:Shared}{K:W.Frag}{x C:Addr}{ox:Obj}{od:Option Obj}{name:Str}
theorem exc_check{nameV:Value}{M:Model}{Q:Unit→Shared→Prop}(X:K.In s.heap)(I:PySem.W.InstAt s.heap x ox C od)(g:ExcGet K C)(h:Q () s):wpAny M A (checkBuiltinCall "BaseException.__getattribute__" ⟨[.ref x,nameV],[]⟩) Q E s:=by
 have hk:builtinKind "BaseException.__getattribute__" = some .slot:=by decide +kernel
 have hsplit:splitId "BaseException.__getattribute__" = some ("BaseException", "__getattribute__"):=by decide +kernel
 have ha:=F.args_bexc_ga (.ref x) nameV
 have L0:=I.type (M:=M)
 have L1:=looks_mroIn (M:=M) X g.base
 obtain⟨hh,g',d,t,os⟩:=s
 simp only[checkBuiltinCall,hk,hsplit]
 refine wpAny_bind ?_
 unfold isInstance
 refine wpAny_bind (L0.at (L1.at ?_))
 repeat (first|assumption|wp_step)
theorem exc_by{fill expr:Bool}{tk:Tok}{Q:Value→Shared→Prop}(X:K.In s.heap)(I:PySem.W.InstAt s.heap x ox C od)(g:ExcGet K C)
  (h:∀ A' R,(∀ v s',wpAny (model prog w) A (handedOut v) Q E s'→R (.done (.ret v)) s')→wpAny (model prog w) A' (Builtin.«object.__getattribute__» ⟨[.ref x,.str name tk],[]⟩) R (fun _ _=>False) s) :
  wpAny (model prog w) A (getAttrBy (.ref x) (.str name tk) fill expr) Q E s:=by
 have L0:=I.type (M:=model prog w)
 have L1:=looks_findIn (M:=model prog w) X g.ga
 have L2:=looks_findIn (M:=model prog w) X g.hook
 have f3:=F.excAttr_ValueError.ga.bind (.ref x)
 have hx0:(expr && onTheHeap (Value.builtin "BaseException.__getattribute__"))=false:=by cases expr<;>rfl
 have hx2:(Value.builtin "BaseException.__getattribute__" == Value.builtin "object.__getattribute__")=false:=by decide +kernel
 unfold getAttrBy
 refine wpAny_holding (wpAny_bind (L0.at (wpAny_bind (L1.at ?_))))
 show wpAny _ _ (if (onTheHeap (Value.ref C) && Value.builtin "BaseException.__getattribute__" == Value.builtin "object.__getattribute__")=true then _ else _) _ _ _
 rw[hx2]
 unfold getAttrByItsOwn hookBefore
 refine wpAny_bind (L2.at ?_)
 unfold callGetattribute
 rw[hx0]
 unfold boundAndCalled
 rw[f3]
 refine wpAny_bind (wpAny_attempt (wpAny_holding (wpAny_bind (wpAny_pure (wpAny_call (codeAny_call_builtin F.excAttr_ValueError.ga.plain F.entry_bexc_ga (exc_check X I g (wpAny_mono (h _ (fun fin s'=>match fin with|.done (.ret v)=>wpAny (model prog w) A (handedOut v) Q E s'|_=>False) fun v s' z=>z) (fun fin s' z=>?_) fun _ _ z=>z.elim))))))))
 rcases fin with (_|_|_|_)|_<;>first|exact z|exact z.elim
theorem exc_val{fill expr:Bool}{tk:Tok}{v:Value}{Q:Value→Shared→Prop}(X:K.In s.heap)(I:PySem.W.InstAt s.heap x ox C od)(g:ExcGet K C)(hf:findObj K C od name=some (.value v))(hh:handedIn v=true)(h:Q v s) :
  wpAny (model prog w) A (getAttrBy (.ref x) (.str name tk) fill expr) Q E s:=by
 refine exc_by X I g fun A' R k=>?_
 have L0:=I.type (M:=model prog w)
 have L1:=looks_find (M:=model prog w) X I hf
 obtain⟨hh',gg,d,t,os⟩:=s
 unfold Builtin.«object.__getattribute__»
 refine wpAny_bind (wpAny_pure (wpAny_bind (wpAny_pure (wpAny_bind (L0.at (wpAny_bind (L1.at ?_)))))))
 exact wpAny_pure (k _ _ (by rw[handedOut_of hh];exact wpAny_pure h))
theorem exc_attr{expr:Bool}{v:Value}{Q:Value→Shared→Prop}(X:K.In s.heap)(I:PySem.W.InstAt s.heap x ox C od)(g:ExcGet K C)(hf:findObj K C od name=some (.value v))(hh:handedIn v=true)(h:Q v { s with toks:=s.toks+1 }) :
  wpAny (model prog w) A (getAttr (.ref x) name expr) Q E s:=by
 unfold getAttr
 exact wpAny_bind (wpAny_mkText (exc_val (s:={ s with toks:=s.toks+1 }) X I g hf hh h))
theorem exc_class{Q:Option Value→Shared→Prop}(X:K.In s.heap)(I:PySem.W.InstAt s.heap x ox C od)(g:ExcGet K C)(hf:findObj K C od "__class__" = some (.bind (.builtin "getset_descriptor.__get__") (.builtin "object.__class__")))(h:Q (some (.ref C)) { s with toks:=s.toks+1 }) :
  wpAny (model prog w) A (getAttr? (.ref x) "__class__") Q E s:=by
 unfold getAttr? getAttrBy?
 refine wpAny_bind (wpAny_mkText (wpAny_bind (wpAny_attempt (exc_by (s:={ s with toks:=s.toks+1 }) X I g fun A' R k=>?_))))
 have L0:=I.type (M:=model prog w)
 have L1:=looks_find (M:=model prog w) X I hf
 obtain⟨hh',gg,d,t,os⟩:=s
 unfold Builtin.«object.__getattribute__»
 refine wpAny_bind (wpAny_pure (wpAny_bind (wpAny_pure (wpAny_bind (L0.at (wpAny_bind (L1.at ?_)))))))
 refine wpAny_bind (wpAny_holding (wpAny_call (class_get (s:=⟨hh',gg,d,t+1,os⟩) (ox:=ox) (od:=od) X I g.obj ?_)))
 exact wpAny_pure (k _ _ (handed_on rfl (wpAny_pure h)))
structure ExcCls(K:W.Frag)(C:Addr):Prop extends ExcGet K C where
 cls:findIn K (.ref C) "__class__" = some (some (.builtin "object.__class__"))
 get:specialIn K (.builtin "object.__class__") "__get__" = some (some (.builtin "getset_descriptor.__get__"))
 tks:takesIn K (.builtin "object.__class__")=some true
theorem ExcCls.isCls(g:ExcCls K C):∃ o cd,K.lookup C=some o∧o.data=.cls cd∧clsIn K C=some cd:=by
 obtain⟨cd,hc,_⟩:=Option.bind_eq_some_iff.mp g.obj
 have hc':=hc
 unfold clsIn at hc
 split at hc
 ·rename_i c' d' cd' sl' ho
  cases hc
  exact⟨_,_,ho,rfl,hc'⟩
 ·cases hc
theorem kitx_exc(g:ExcCls K C):KitX K (.ref x) (.ref C) (fun h=>∃ ox od,PySem.W.InstAt h x ox C od) where
 ty:=fun _ _ _ ⟨_,_,I⟩=>I.type
 it:=fun _ _ X _=>by
  obtain⟨o,cd,ho,hd,_⟩:=g.isCls
  intro A' Q' E' s' k q
  unfold isType loadHead
  obtain⟨c1,c2,c3,c4⟩:=o
  cases hd
  exact wpAny_bind (wpAny_loadPart (k _ _ (X _ _ ho)) (wpAny_pure q))
 ne:=fun h tp dd its n sl X htp=>by
  obtain⟨o,cd,ho,hd,_⟩:=g.isCls
  refine Bool.eq_false_iff.mpr fun q=>?_
  have e:C=tp:=Value.ref.inj (beq_iff_eq.mp q)
  subst e
  have z:=(X _ _ ho).symm.trans htp
  cases z
  cases hd
 ca:=fun X ⟨_,_,I⟩ k=>by
  obtain⟨o,cd,ho,hd,hc⟩:=g.isCls
  refine exc_class X I g.toExcGet ?_ k
  unfold findObj
  rw[hc,Option.bind_some,g.cls,Option.bind_some]
  simp[g.get,g.tks]
end
end L2
end
section
namespace VL
open PySem PySem.Spec PyProof.Rows L2
variable[Tabs]
noncomputable def dX(e:Exc):PyData:=.dict ((.none,.int e.cls)::e.fs.map fun p=>(.str p.1,p.2))
section
variable{K:W.Frag}{F:FK}{X:Exc→Sl→Prop}{ρ:Sl}{Q:TV→Prop}{DV:VEnds}{H0 H:Hp}{σ:L2.St}{ts:List V}{as:List TV}
theorem SR.pops(s:SR K H0 σ ρ ts as H):SR K H0 σ ρ [] [] H:=by
 obtain⟨⟨p,q,h1,h2,h3,h4⟩,sm⟩:=s
 exact SR.of_le (p:=p) (q:=q) (p':=p) (q':=fun _=>0) sm h3 h4 (fun b=>by omega) h1 (.nil fun _=>rfl)
theorem SR.aside(st:Stb as)(s:SR K H0 σ ρ ts as H):∃ H1,SR K H1 σ ρ [] [] H∧(∀ σ' ρ' H',SR K H1 σ' ρ' [] [] H'→SR K H0 σ' ρ' ts as H')∧(∀ σ' ρ' H' v a,SR K H1 σ' ρ' [v] [a] H'→SR K H0 σ' ρ' (v::ts) (a::as) H')∧Same H0 H1:=by
 obtain⟨⟨p,q,h1,h2,h3,h4⟩,sm⟩:=s
 have q0:=h2.stb st
 have none1:∀ b,0<p b→VL.hid H p q b=none:=fun b z=>by
  unfold VL.hid
  rw[if_neg (by omega)]
 have up:∀ b o,H0 b=some o→VL.hid H p q b=some o:=fun b o e=>by
  unfold VL.hid
  rw[if_pos]
  ·exact sm b o e
  ·rcases Nat.eq_zero_or_pos (p b+q b) with z|z
   ·exact z
   ·rw[h4 b z] at e;cases e
 have back:∀ {p' q':Fp} {H':Hp},(∀ b,0<p' b+q' b→VL.hid H p q b=none)→Same (VL.hid H p q) H'→RTs K (VL.hid H' p' q') H' ts as q:=fun {p' q' H'} k4 m=>by
  refine RTs.monoS (fun b o e=>?_) h2 st fun b o z=>by have:=q0 b;omega
  unfold VL.hid
  rw[if_pos]
  ·exact m b o e
  ·rcases Nat.eq_zero_or_pos (p' b+q' b) with z|z
   ·exact z
   ·rw[k4 b z] at e;cases e
 have no0:∀ {p' q':Fp},(∀ b,0<p' b+q' b→VL.hid H p q b=none)→∀ b,0<p' b+q' b→H0 b=none:=fun {p' q'} k4 b z=>by
  cases e:H0 b with
  | none=>rfl
  | some o=>have:=up b o e;rw[k4 b z] at this;cases this
 refine⟨VL.hid H p q,⟨⟨p,fun _=>0,h1.mono (hid_more fun b z=>by show p b+0=0;omega) (fun _ _ _ z=>z),.nil fun _=>rfl,fun b=>by have:=h3 b;show p b+0≤1;omega,fun b z=>none1 b (by have z':0<p b+0:=z;omega)⟩,hid_le⟩,fun σ' ρ' H' ⟨⟨p',q',k1,k2,k3,k4⟩,m⟩=>?_,fun σ' ρ' H' v a ⟨⟨p',q',k1,k2,k3,k4⟩,m⟩=>?_,up⟩
 ·cases k2 with
  | nil e=>exact⟨⟨p',q',k1,by
    have:=back k4 m
    have e2:q=q':=by funext b;rw[q0 b,e b]
    exact e2▸this,k3,no0 k4⟩,fun b o e=>m b o (up b o e)⟩
 ·cases k2 with
  | @cons _ _ _ _ q1 q2 _ r rs e =>
   cases rs with
   | nil e2=>exact⟨⟨p',q',k1,.cons r (back k4 m) fun b=>by have:=e b;have:=e2 b;have:=q0 b;omega,k3,no0 k4⟩,fun b o e=>m b o (up b o e)⟩
theorem XOk.aside{H1:Hp}(x:XOk K F X H0)(m:Same H0 H1)(b:∀ σ' ρ' H',SR K H1 σ' ρ' [] [] H'→SR K H0 σ' ρ' ts as H'):XOk K F X H1:=⟨fun e ρ z c d σ H' s r=>x.x e ρ z c d σ H' (b σ ρ H' s).pops r,x.t.same m⟩
noncomputable def ClX(S:List PyData→AV→Prop)(SX:List PyData→Exc→Prop)(dds:List PyData)(Q:TV→Prop)(X:Exc→Prop)(bs:List TV):Prop:=NRs bs∧((∃ c a,S (bs.map TV.data++dds) c∧Got c a∧Q a)∨∃ e,SX (bs.map TV.data++dds) e∧X e)
theorem ev_cX{S:List PyData→AV→Prop}{SX:List PyData→Exc→Prop}{dvs:List V}{dds:List PyData}{A:TA}(hd:DvDs dvs dds)(h:Ea K F X A ρ (ClX S SX dds Q fun e=>X e ρ)):Ev K F X (tCallX (spV K S SX) dvs F A) ρ Q:=fun H0 σ ts as H QV s x k =>
 h H0 σ ts as H _ s x fun bs ⟨nr,q⟩ vs H' s' hl=>by
  obtain⟨rp,s2⟩:=SR.reps nr.all hl s'
  refine⟨x.t.same s2.same,bs.map TV.data++dds,rp.append hd.reps,?_⟩
  rcases q with⟨c,a,h1,h2,h3⟩|⟨e,h1,h2⟩
  ·exact .inl ⟨c,h1,fun v H2 r=>k a h3 v H2 (s2.gotG r h2)⟩
  ·exact .inr ⟨e,h1,fun c d H2 sm xr=>x.x e ρ h2 c d σ H2 (s2.ext sm).pops xr⟩
theorem Fit.aside{H1:Hp}{D:Ends}(f:Fit K H0 ts as DV D)(b:∀ σ' ρ' H',SR K H1 σ' ρ' [] [] H'→SR K H0 σ' ρ' ts as H')(b1:∀ σ' ρ' H' v a,SR K H1 σ' ρ' [v] [a] H'→SR K H0 σ' ρ' (v::ts) (a::as) H'):Fit K H1 [] [] DV D :=
 ⟨fun ρ q σ H s=>f.nx ρ q σ H (b _ _ _ s),fun ρ q σ H s=>f.bk ρ q σ H (b _ _ _ s),fun ρ q σ H s=>f.ct ρ q σ H (b _ _ _ s),fun a q v σ ρ H s=>f.rt a q v σ ρ H (b1 _ _ _ _ _ s)⟩
theorem SR.dropS{i:Nat}{o:Option V}(h:SR K H0 σ ρ ts as H):SR K H0 (σ.set i o) (ρ.set i none) ts as H:=by
 obtain⟨⟨p,q,h1,h2,h3,h4⟩,s⟩:=h
 obtain⟨p2,e1,e2⟩:=h1.drop (i:=i) (o:=o)
 exact SR.of_le (p:=p) (q:=q) (p':=p2) (q':=q) s h3 h4 (fun b=>by have:=e1 b;omega) e2 h2
theorem SR.pushG{v:V}{x:PyData}(h:SR K H0 σ ρ ts as H)(r:∀ p q:Fp,(∀ b,0<p b+q b→∃ o,H b=some o∧Mu o)→Rep K (VL.hid H p q) v x):SR K H0 σ ρ (v::ts) (.av (.d x)::as) H:=by
 obtain⟨⟨p,q,h1,h2,h3,h4⟩,s⟩:=h
 exact⟨⟨p,q,h1,.cons (.av (.d (p:=fun _=>0) (r p q (SR.lsts h1 h2)) fun _=>rfl)) h2 (fun b=>by simp),h3,h4⟩,s⟩
theorem hid_keep{p q:Fp}(hl:∀ b,0<p b+q b→∃ o,H b=some o∧Mu o){a:Addr}{o:HO}(e:H a=some o)(n:¬ Mu o):VL.hid H p q a=some o:=by
 unfold VL.hid
 rw[if_pos]
 ·exact e
 ·rcases Nat.eq_zero_or_pos (p a+q a) with z|z
  ·exact z
  ·obtain⟨vs,z,mu⟩:=hl a z;rw[e] at z;cases z;exact absurd mu n
theorem SR.caught{e:Exc}{c:Value}{d:Option Addr}{ea:Addr}(s:SR K H0 σ ρ ts as H)(hn:H ea=none)(xr:XRep K H e c d)(nl:noLsts (e.fs.map Prod.snd)=true):SR K H0 σ ρ (.ref ea::ts) (.av (.d (dX e))::as) (upd H ea (hX ea c d)):=by
 have sm:Same H (upd H ea (hX ea c d)):=same_new hn
 refine (s.ext sm).pushG fun p q hl=>?_
 have h1:=hid_keep hl (a:=ea) (o:=hX ea c d) (upd_same ..) fun z=>(show False from z)
 obtain⟨rfl,⟨h2,rfl⟩|⟨a,vs,rfl,h2,h3,h4⟩⟩:=xr
 ·exact .exc h1 (by rw[h2];rfl)
 ·refine .excF h1 (hid_keep hl (sm _ _ h2) fun z=>(show False from z)) (Reps.hid hl nl (h4.same sm)) ?_
  have:(vs.map fun p=>PyData.str p.1)=e.fs.map fun p=>PyData.str p.1:=by
   have:=congrArg (List.map PyData.str) h3
   rw[List.map_map,List.map_map] at this
   exact this
  rw[this,List.zip_map']
theorem sv_tryAs{X':Exc→Sl→Prop}{C:Value}{i:Nat}{tb:FK→TS}{th:TS}(hb:∀ F',Sv K F' X' (tb F') ρ DV)
  (hx:∀ e ρ',X' e ρ'→PySem.W.exmOne K (.ref e.cls) C=some true∧noLsts (e.fs.map Prod.snd)=true∧i<ρ'.length∧Sv K F X th (ρ'.set i (some (.d (dX e)))) ⟨fun ρ2=>DV.nx (ρ2.set i none),DV.rt,fun ρ2=>DV.bk (ρ2.set i none),fun ρ2=>DV.ct (ρ2.set i none)⟩) :
  Sv K F X (tTryAs K C i tb th) ρ DV:=fun H0 σ ts as H D st s x f=>by
 obtain⟨H1,s1,b,b1,m⟩:=s.aside st
 refine hb _ H1 σ [] [] H D Stb.nil s1 ⟨fun e ρ' z c d σ' H' s' xr=>?_,x.t.same m⟩ (f.aside b b1)
 obtain⟨h1,nl,hi,h2⟩:=hx e ρ' z
 have hc:=xr.1
 refine⟨by rw[hc];exact h1,fun ea hea=>?_⟩
 have f1:=f.aside b b1
 exact h2 H1 _ [] [] _ _ Stb.nil ((s'.caught hea xr nl).store hi) (x.aside m b) ⟨fun ρ2 q σ2 H2 s2=>f1.nx _ q _ _ s2.dropS,fun ρ2 q σ2 H2 s2=>f1.bk _ q _ _ s2.dropS,fun ρ2 q σ2 H2 s2=>f1.ct _ q _ _ s2.dropS,f1.rt⟩
end
end VL
end
section
namespace L2
open PySem PySem.Spec PyProof.Rows
theorem boot_ValueError:bootBuiltins "ValueError" = some (.type "ValueError"):=by kernel_rfl
section
variable{P:Program}{w:World}{K:W.Frag}{mg:Str→Option Value}{base:Heap}
theorem passE{X:Cx}:Passes (CXE P w) X E0:=by
 intro _ _ _ _ _ _ _ h
 obtain⟨_,_,_,_,_,_,_,_,_,_,_,_,_,z⟩:=h
 exact z.elim
theorem FunD.okX{x qual:Str}{st:Stmt}{dV:Value}{f:Addr}{fd:FuncData}{N ps:List Str}{k:Nat}{sp:Sp}(F:FunD K x qual st dV f fd)(S:FnScope N ps (defScope st))(len:∀ vs H Q E,sp vs H Q E→vs.length=ps.length)
  (hbody:∀ (cdv:Value) (A:Around) (outer:List Env) (s:Shared) (H:Hp) (vs:List V) (Q:VK) (E:XK),Room k (A.deeper (envOfC qual (defScope st) s.heap.objs.size f cdv))→sp vs H Q E →
   ∃ t,PSs ((cxOf (CXE P w) P w K mg base N qual (defScope st) f cdv A outer s H E).wish (XE (cxOf (CXE P w) P w K mg base N qual (defScope st) f cdv A outer s H E) (toF E))) (defBody st) t∧t { nx:=fun _ H'=>Q .non H',rt:=Q } (start N vs) H):FnOk P w K mg base (CXE P w) (k+1) f fd ps sp:=by
 obtain⟨oc,od,kV,doc,pm,an,cdv,ct,osl,rfl,lk,hcd⟩:=F.ex
 refine fn_of lk hcd S len fun A outer s H vs Q E hr hsp=>?_
 obtain⟨t,h,q⟩:=hbody cdv A outer s H vs Q E hr hsp
 exact⟨t,h.xmono fun e s z=>leave_XE z,q⟩
theorem Tx.calX{x:Str}{st:Stmt}{N ps:List Str}{dvss:List (List V)}{k:Nat}{sp:Sp}(T:Tx K mg x st ps dvss)(S:FnScope N ps (defScope st))
  (len:∀ vs H Q E,sp vs H Q E→vs.length=ps.length)
  (hbody:∀ (f:Addr) (cdv:Value) (A:Around) (outer:List Env) (s:Shared) (H:Hp) (vs:List V) (Q:VK) (E:XK),Room k (A.deeper (envOfC x (defScope st) s.heap.objs.size f cdv))→sp vs H Q E →
   ∃ t,PSs ((cxOf (CXE P w) P w K mg base N x (defScope st) f cdv A outer s H E).wish (XE (cxOf (CXE P w) P w K mg base N x (defScope st) f cdv A outer s H E) (toF E))) (defBody st) t∧t { nx:=fun _ H'=>Q .non H',rt:=Q } (start N vs) H) :
  ∀ dvs∈dvss,Cal P w K mg base (CXE P w) (k+1) x ps dvs sp:=by
 obtain⟨dV,f,fd,F,m,b⟩:=T.ex
 intro dvs hd
 obtain⟨ds,b1,b2⟩:=b dvs hd
 exact⟨f,fd,ds,F.okX S len (fun cdv A outer s H vs Q E hr h=>hbody f cdv A outer s H vs Q E hr h),m,F.kp,b1,b2⟩
end
section
variable{X:Cx}{pins:List (Addr×Obj)}{σ:St}{H:Hp}{s:Shared}
theorem exc_inst{x:V}{C:Addr}{kvs:List (PyData×PyData)}(I:Inv X pins σ H s)(h:Rep X.K H x (.dict ((.none,.int (C:Nat))::kvs))):∃ ea ox od,x=.ref ea∧PySem.W.InstAt s.heap ea ox C od:=by
 cases h with
 | @exc ea C' _ h z =>
  have e:C=C':=by
   have:=(List.cons.inj z).1
   simp only[Prod.mk.injEq,PyData.int.injEq,true_and] at this
   exact Int.ofNat.inj this
  subst e
  obtain⟨o,vs,h1,h2,h3,h4⟩:=(I.hok _ _ h).1
  exact⟨ea,o,none,rfl,h1,h2,by obtain⟨c,d,da,sl⟩:=o;cases h4;rfl,by rw[h3];trivial⟩
 | @excF ea C' a vs ds _ h k _ z =>
  have e:C=C':=by
   have:=(List.cons.inj z).1
   simp only[Prod.mk.injEq,PyData.int.injEq,true_and] at this
   exact Int.ofNat.inj this
  subst e
  obtain⟨o,vs,h1,h2,h3,h4⟩:=(I.hok _ _ h).1
  obtain⟨mA,⟨od,es,ep,e1,_⟩,_⟩:=(I.hok _ _ k).1
  exact⟨ea,o,some od,rfl,h1,h2,by obtain⟨c,d,da,sl⟩:=o;cases h4;rfl,by rw[h3];exact e1⟩
 | dK _ _ z=>exact absurd z zipK_ne
 | dT _ _ z=>exact absurd z zipT_ne
 | dN _ _ _ z=>exact absurd z zipN_ne
noncomputable def rIsiX(K:W.Frag):List V→Hp→VK→Prop:=fun xs H Q=>∃ x c C kvs cv b,xs=[x,c]∧clsV c=some cv∧ExcCls K C∧Rep K H x (.dict ((.none,.int (C:Nat))::kvs))∧PySem.W.kitOne K (.ref C) cv=some b∧Q (.bl b) H
theorem call_isiX:CallR X (.builtin "isinstance") (rIsiX X.K):=by
 intro pins s σ H xs us Q I r h
 obtain⟨x,c,C,kvs,cv,b,rfl,hc,g,hx,e,q⟩:=h
 obtain⟨ea,ox,od,rfl,J⟩:=exc_inst I hx
 obtain⟨u,w',rfl,rx,r2⟩:=vals2 r
 rw[clsV_rel hc r2]
 cases (show u=Value.ref ea from rx)
 exact PySem.W.kia_one (kitx_exc g) I.kIn ⟨ox,od,J⟩ e (fun z=>nomatch z) fun tk=>⟨.bl b,H,I.tok tk,rfl,q⟩
inductive ClsVs:List V→List Value→Prop
 | nil:ClsVs [] []
 | cons {c:V} {cv:Value} {cs:List V} {cvs:List Value}:clsV c=some cv→ClsVs cs cvs→ClsVs (c::cs) (cv::cvs)
theorem ClsVs.rel{cs:List V}{cvs us:List Value}(h:ClsVs cs cvs)(r:Vals cs us):us=cvs:=by
 induction h generalizing us with
 | nil=>cases r;rfl
 | cons e _ ih=>cases r with|cons r1 r2=>rw[clsV_rel e r1,ih r2]
noncomputable def rIsiT(K:W.Frag):List V→Hp→VK→Prop:=fun xs H Q=>∃ x t cs cvs C kvs b,xs=[x,.ref t]∧H t=some (.tup cs)∧ClsVs cs cvs∧ExcCls K C∧Rep K H x (.dict ((.none,.int (C:Nat))::kvs))∧PySem.W.kitAny K (.ref C) cvs=some b∧Q (.bl b) H
theorem call_isiT:CallR X (.builtin "isinstance") (rIsiT X.K):=by
 intro pins s σ H xs us Q I r h
 obtain⟨x,t,cs,cvs,C,kvs,b,rfl,ht,hc,g,hx,e,q⟩:=h
 obtain⟨ea,ox,od,rfl,J⟩:=exc_inst I hx
 obtain⟨u,w',rfl,rx,r2⟩:=vals2 r
 cases (show u=Value.ref ea from rx)
 cases (show w'=Value.ref t from r2)
 obtain⟨_,its,rv,⟨⟨c0,d0,da0,sl0⟩,h1,h2,n,h3⟩⟩:=I.hok _ _ ht
 cases h2
 cases h3
 cases hc.rel rv
 exact PySem.W.kia_tup (kitx_exc g) I.kIn ⟨ox,od,J⟩ h1 e (fun z=>nomatch z) fun tk=>⟨.bl b,H,I.tok tk,rfl,q⟩
noncomputable def rIsi3(K:W.Frag):List V→Hp→VK→Prop:=fun xs H Q=>rIsi2 K xs H Q∨(rIsiX K xs H Q∨rIsiT K xs H Q)
theorem call_isi3K{K:W.Frag}(h:X.K=K):CallR X (.builtin "isinstance") (rIsi3 K):=h▸CallR.or (call_isi2K rfl) (CallR.or call_isiX call_isiT)
end
end L2
namespace VL
open PySem PySem.Spec PyProof.Rows L2
variable[Tabs]
noncomputable def NS:List PyData→AV→Prop:=fun _ _=>False
noncomputable abbrev finX:VEnds:=⟨fun _=>False,fun _=>False,fun _=>False,fun _=>False⟩
section
variable{P:Program}{w:World}{K:W.Frag}{mg:Str→Option Value}{base:Heap}{x qual:Str}{st:Stmt}{N ps:List Str}{dvss:List (List V)}{k:Nat}{SX:List PyData→Exc→Prop}
theorem valX(T:Tx K mg x st ps dvss)(Sc:FnScope N ps (defScope st))(hS:∀ ds e,SX ds e→ds.length=ps.length)
  (hbody:∀ (f:Addr) (cdv:Value) (A:Around) (outer:List Env) (s:Shared) (H:Hp) (E:XK),Room k (A.deeper (envOfC x (defScope st) s.heap.objs.size f cdv)) →
   ∃ t,PSs ((cxOf (CXE P w) P w K mg base N x (defScope st) f cdv A outer s H E).wish (XE (cxOf (CXE P w) P w K mg base N x (defScope st) f cdv A outer s H E) (toF E))) (defBody st) t∧∀ ds e,SX ds e→Sv K (toF E) (fun e' _=>e'=e) t (ini N ds) finX) :
  ∀ dvs∈dvss,Cal P w K mg base (CXE P w) (k+1) x ps dvs (spV K NS SX) :=
 T.calX (k:=k) Sc (fun vs H Q E ⟨_,ds,r,h⟩=>by
  rcases h with⟨c,hc,_⟩|⟨e,he,_⟩
  ·exact hc.elim
  ·rw[r.length];exact hS ds e he) fun f cdv A outer s H vs Q E hr h =>
  let ⟨t,h1,h2⟩:=hbody f cdv A outer s H E hr
  ⟨t,h1,body_ok (N:=N) h fun ds=>⟨fun c hc=>hc.elim,fun e he=>h2 ds e he⟩⟩
end
section
variable{K:W.Frag}{E:FK}{X:Exc→Sl→Prop}{ρ:Sl}{Q:TV→Prop}{DV:VEnds}{a:TV}
noncomputable def CrX(SX:List PyData→Exc→Prop)(dds:List PyData)(X:Exc→Prop)(bs:List TV):Prop:=NRs bs∧∃ e,SX (bs.map TV.data++dds) e∧X e
theorem ev_x0{S:List PyData→AV→Prop}{SX:List PyData→Exc→Prop}{A:TA}(h:Ea K E X A ρ (CrX SX [] fun e=>X e ρ)):Ev K E X (tCallX (spV K S SX) [] E A) ρ Q:=ev_cX .nil fun H0 σ ts as H QV s x k=>h H0 σ ts as H QV s x fun bs ⟨nr,q⟩=>k bs ⟨nr,.inr q⟩
theorem bi_isiX{e:Exc}{c:V}{cv:Value}{b:Bool}(g:ExcCls K e.cls)(hc:clsV c=some cv)(k:PySem.W.kitOne K (.ref e.cls) cv=some b)(q:Q (.av (.d (.bool b)))):Bi K E X (rIsi3 K) [.av (.d (dX e)),.raw c] Q:=fun H0 σ ρ ts as H vs QV s hl _ kk=>by
 obtain⟨v,w,rfl,s⟩:=two_of s hl
 have:=s.pop.raw
 subst this
 exact .inr (.inl ⟨v,w,e.cls,_,cv,b,rfl,hc,g,s.top_d,k,kk _ q _ H (s.pop.pop.bl _)⟩)
inductive TCs:TA→List V→Prop
 | nil:TCs tNil []
 | cons {c:V} {t:TA} {cs:List V}:TCs t cs→TCs (tCons (tC c) t) (c::cs)
theorem TCs.run{t:TA}{cs:List V}(h:TCs t cs){σ:L2.St}{H:Hp}{QV:List V→Hp→Prop}(q:QV cs H):t σ H QV:=by
 induction h generalizing QV with
 | nil=>exact q
 | cons _ ih=>exact ih (QV:=fun xs H2=>QV (_::xs) H2) q
theorem ev_isiT{i:Nat}{e:Exc}{t:TA}{cs:List V}{cvs:List Value}{b:Bool}(hi:ρ[i]?=some (some (.d (dX e))))(ht:TCs t cs)(hc:ClsVs cs cvs)(hz:cs.length≤100)(g:ExcCls K e.cls)(k:PySem.W.kitAny K (.ref e.cls) cvs=some b)(q:Q (.av (.d (.bool b)))) :
  Ev K E X (tCB (rIsi3 K) (tCons (tVar i) (tCons (tTup t) tNil))) ρ Q:=fun H0 σ ts as H QV s x kk=>by
 unfold tCB tCons
 refine ev_var hi (Q:=fun a=>a=.av (.d (dX e))) rfl H0 σ ts as H _ s x fun a ha v H1 s1=>?_
 subst ha
 unfold tTup
 refine ht.run ⟨Nat.le_trans hz (by decide),fun p hp=>.inr (.inr ⟨v,p,cs,cvs,e.cls,_,b,rfl,upd_same ..,hc,g,(s1.ext (same_new hp)).top_d,k,?_⟩)⟩
 exact kk _ q _ _ ((s1.ext (same_new hp)).pop.bl _)
end
end VL
end
section
namespace L2
open PySem PySem.Spec PyProof.Rows
section
variable{prog:Program}{w:World}{A:Around}{E:Value→Shared→Prop}{h:Heap}{g:Array GenState}{d:Drawn}{t:Nat}{os:OsState}
variable{nm q:Str}{C N:Addr}{bs bm bmB:List Value}{hdct:Bool}{sn:List Str}{sub:List Value}{ab:Bool}{col:Option Bool}{dd:Option Addr}{k0 k1 k2 k3 k5:Option Value}{B Bn newId nid initId inN:String}{bmN:List Value}
theorem type_call_initU(Fn:ExcBaseFacts Bn newId inN bmN)(hBn:bmB.contains (.type Bn)=true)(F:ExcBaseFacts B nid initId bmB)(T:OwnTail h bmB bm){mN:Str→Option Value}{rest:List Value}{fI:Addr}{oI:Obj}{Q:Fin→Shared→Prop}
  (hC:h.get? C=some (excClassObj nm q C N bs bm hdct sn sub ab col dd k0 k1 k2 k3 k5 newId)) (hn:h.Ns N mN) (hi:mN "__init__" = some (.ref fI))
  (hfI:h.get? fI=some oI) (hfc:oI.cls=.type "function")
  (hq:∀ h' e,Heap.MadeExcOf h h' e (.ref C) rest →
   wpAny (model prog w) A (call (.ref fI) (.ref e::rest)) (fun r s'=>r=.none∧Q (.done (.ret (.ref e))) s') E ⟨h',g,d,t,os⟩) (hrest:rest.length≤sizeLine) :
  wpAny (model prog w) A (Builtin.«type.__call__» ⟨.ref C::rest,[]⟩) Q E ⟨h,g,d,t,os⟩:=by
 repeat (first|with_reducible refine wpAny_loadPart_at hC ?_|with_reducible refine wpAny_madeBy_exc hC ?_|wp_step)
 refine codeAny_call_builtin_code (Code.quiet_builtin _ Fn.quiet) (wpAny_check_new_subU Fn hBn T hC ?_)
 refine codeAny_exc_new_subU Fn hBn F T hC ?_ hrest
 show wpAny _ _ _ _ _ _
 have hC₁:=Heap.get?_push_of_some { cls:=.ref C,data:=.fields #[.ref h.objs.size,.none,.none,.none,.bool false,.none] }
  (Heap.get?_push_of_some { cls:=.type "tuple",data:=.seq rest.toArray } hC)
 have hfI₁:=Heap.get?_push_of_some { cls:=.ref C,data:=.fields #[.ref h.objs.size,.none,.none,.none,.bool false,.none] }
  (Heap.get?_push_of_some { cls:=.type "tuple",data:=.seq rest.toArray } hfI)
 have hn₁:((h.push { cls:=.type "tuple",data:=.seq rest.toArray }).push { cls:=.ref C,data:=.fields #[.ref h.objs.size,.none,.none,.none,.bool false,.none] }).Ns N mN :=
  let ⟨o,es,ep,e,r⟩:=hn;⟨o,es,ep,Heap.get?_push_of_some _ (Heap.get?_push_of_some _ e),r⟩
 have hget:((h.push { cls:=.type "tuple",data:=.seq rest.toArray }).push
   { cls:=.ref C,data:=.fields #[.ref h.objs.size,.none,.none,.none,.bool false,.none] }).get? (h.objs.size+1)=some
   { cls:=.ref C,data:=.fields #[.ref h.objs.size,.none,.none,.none,.bool false,.none] }:=by heap_get
 have hcC:(Value.ref C::bm).contains (.ref C)=true:=by simp
 have T₁:=T.keeps (h':=(h.push { cls:=.type "tuple",data:=.seq rest.toArray }).push { cls:=.ref C,data:=.fields #[.ref h.objs.size,.none,.none,.none,.bool false,.none] })
  fun b o e=>Heap.get?_push_of_some _ (Heap.get?_push_of_some _ e)
 unfold isInstance
 repeat (first|with_reducible refine wpAny_loadPart_at hget ?_|(with_reducible refine wpAny_isSubtype_exc hC₁ ?_;rw[hcC])|wp_step)
 show wpAny _ _ (typeLookup (.ref C) _) _ _ _
 refine wpAny_typeLookup_tail hC₁ hn₁ T₁ F.mroIs F.init.lookup ?_
 rw[hi]
 refine wpAny_holding (wpAny_bind ?_)
 unfold bindSpecial
 refine wpAny_bind (wpAny_typeOf (T := "function") ⟨_,hfI₁,hfc⟩ ?_)
 rw[if_pos (by decide)]
 refine wpAny_pure (wpAny_bind (wpAny_mono (hq _ (h.objs.size+1) ⟨fun b o hb=>Heap.get?_push_of_some _ (Heap.get?_push_of_some _ hb),Heap.get?_none_of_le (Nat.le_succ _),h.objs.size,hget,Heap.get?_none_of_le (Nat.le_refl _),?_⟩) (fun r s' hr=>?_) fun _ _ x=>x))
 ·exact Heap.get?_push_of_some _ (Heap.get?_push_at rfl rfl)
 ·obtain⟨rfl,hQ⟩:=hr
  wp_walk
  exact hQ
theorem call_initU(Fn:ExcBaseFacts Bn newId inN bmN)(hBn:bmB.contains (.type Bn)=true)(F:ExcBaseFacts B nid initId bmB)(T:OwnTail h bmB bm){mN:Str→Option Value}{rest:List Value}{fI:Addr}{oI:Obj}{Q:Value→Shared→Prop}
  (hC:h.get? C=some (excClassObj nm q C N bs bm hdct sn sub ab col dd k0 k1 k2 k3 k5 newId)) (hn:h.Ns N mN) (hi:mN "__init__" = some (.ref fI))
  (hfI:h.get? fI=some oI) (hfc:oI.cls=.type "function")
  (hq:∀ h' e,Heap.MadeExcOf h h' e (.ref C) rest →
   wpAny (model prog w) (A.under (.builtin "type.__call__" ⟨.ref C::rest,[]⟩)) (call (.ref fI) (.ref e::rest)) (fun r s'=>r=.none∧Q (.ref e) s') E ⟨h',g,d,t,os⟩) (hrest:rest.length≤sizeLine) :
  wpAny (model prog w) A (call (.ref C) rest) Q E ⟨h,g,d,t,os⟩:=by
 have f1:=tc_lookup
 have f2:=tc_bind (.ref C)
 have hT:(⟨h,g,d,t,os⟩:Shared).TypeIs (.ref C) "type" := ⟨_,hC,rfl⟩
 refine wpAny_call (codeAny_of_tree ?_)
 show wpAny _ _ (callAny (.ref C) _) _ _ _
 repeat (any_goals (first|assumption|with_reducible refine wpAny_loadPart_at hC ?_|wp_step))
 refine⟨rfl,?_⟩
 refine codeAny_call_builtin_at (Code.quiet_builtin _ (by decide +kernel)) entry_typeCall (wpAny_check_type_call_sub hC (type_call_initU (hrest:=hrest) Fn hBn F T hC hn hi hfI hfc fun h' e hm=>?_))
 exact hq h' e hm
end
section
variable{prog:Program}{w:World}{A:Around}{E:Value→Shared→Prop}{s:Shared}{env:Env}
variable{nm q:Str}{C N:Addr}{bs bm bmB:List Value}{hdct:Bool}{sn:List Str}{sub:List Value}{ab:Bool}{col:Option Bool}{dd:Option Addr}{k0 k1 k2 k3 k5:Option Value}{B Bn newId nid initId inN:String}{bmN:List Value}
theorem raiseStmt_dict{M:Model}{x:Sem Value}{Q:Flow→Shared→Prop}(hbase:bm.contains (.type "BaseException")=true)(hh:A.handled=none)
  (h:wpAny M A x (fun v s₁=>∃ e t dx,v=.ref e∧s₁.heap.get? C=some (excClassObj nm q C N bs bm hdct sn sub ab col dd k0 k1 k2 k3 k5 newId) ∧
   s₁.heap.get? e=some { cls:=.ref C,dict:=dx,data:=.fields #[.ref t,.none,.none,.none,.bool false,.none] }∧E (.ref e) s₁) E s) :
  wpAny M A (raiseStmt env (some x) none) Q E s:=by
 have hcB:(Value.ref C::bm).contains (.type "BaseException")=true:=by rw[List.contains_cons,hbase,Bool.or_true]
 unfold raiseStmt
 refine wpAny_bind (wpAny_mono h (fun v s₁ h₁=>?_) fun _ _ x=>x)
 obtain⟨e,t,dx,rfl,hC,he,hE⟩:=h₁
 obtain⟨hp,g,d,tk,os⟩:=s₁
 repeat (first|with_reducible refine wpAny_loadPart_at he ?_|with_reducible refine wpAny_loadPart_at hC ?_|(with_reducible refine wpAny_isSubtype_exc hC ?_;rw[hcB])|wp_step)
 exact wpAny_raiseNew_none hh hE
theorem Raise_call_initU(Fn:ExcBaseFacts Bn newId inN bmN)(hBn:bmB.contains (.type Bn)=true)(F:ExcBaseFacts B nid initId bmB){mN:Str→Option Value}{x:Str}{np cpos pos:Pos}{args:List Expr}{fI:Addr}{Q:Flow→Shared→Prop}
  (hbase:bm.contains (.type "BaseException")=true) (hh:A.handled=none) (hplain:(backTo cpos (starEach args env)).any (·.1)=false) (hi:mN "__init__" = some (.ref fI))
  (h:wpAny (model prog w) A (eval (.Name x np) env) (fun f s₁=>f=.ref C∧wpAny (model prog w) A (evalArgs (.ref C) true (backTo cpos (starEach args env)) [])
   (fun a s₂=>a.kw=[]∧a.pos.length≤sizeLine∧s₂.heap.get? C=some (excClassObj nm q C N bs bm hdct sn sub ab col dd k0 k1 k2 k3 k5 newId)∧s₂.heap.Ns N mN∧OwnTail s₂.heap bmB bm∧(∃ oI,s₂.heap.get? fI=some oI∧oI.cls=.type "function") ∧
    ∀ h' e,Heap.MadeExcOf s₂.heap h' e (.ref C) a.pos→wpAny (model prog w) (A.under (.builtin "type.__call__" ⟨.ref C::a.pos,[]⟩)) (call (.ref fI) (.ref e::a.pos)) (fun r s'=>r=.none ∧
     s'.heap.get? C=some (excClassObj nm q C N bs bm hdct sn sub ab col dd k0 k1 k2 k3 k5 newId)∧(∃ t dx,s'.heap.get? e=some { cls:=.ref C,dict:=dx,data:=.fields #[.ref t,.none,.none,.none,.bool false,.none] })∧E (.ref e) s') E { s₂ with heap:=h' }) E s₁) E s) :
  wpAny (model prog w) A (exec (.Raise (some (.Call (.Name x np) args [] cpos)) none pos) env) Q E s:=by
 rw[arm_exec_Raise]
 first
  | refine wpAny_bind (wpAny_standAt (raiseStmt_dict (C:=C) (nm:=nm) (q:=q) (N:=N) (bs:=bs) (bm:=bm) (hdct:=hdct) (sn:=sn) (sub:=sub) (ab:=ab) (col:=col) (dd:=dd) (k0:=k0) (k1:=k1) (k2:=k2) (k3:=k3) (k5:=k5) (newId:=newId) hbase hh (wpAny_bind (wpAny_mono (wpAny_Call_ofName (wpAny_mono h (fun f s₁ h₁=>?_) fun _ _ x=>x)) (fun v s₃ h₃=>wpAny_bind (wpAny_standAt (wpAny_pure h₃))) fun _ _ x=>x))))
  | (simp only[evalOpt,Option.map];refine wpAny_bind (wpAny_standAt (raiseStmt_dict (C:=C) (nm:=nm) (q:=q) (N:=N) (bs:=bs) (bm:=bm) (hdct:=hdct) (sn:=sn) (sub:=sub) (ab:=ab) (col:=col) (dd:=dd) (k0:=k0) (k1:=k1) (k2:=k2) (k3:=k3) (k5:=k5) (newId:=newId) hbase hh (wpAny_bind (wpAny_mono (wpAny_Call_ofName (wpAny_mono h (fun f s₁ h₁=>?_) fun _ _ x=>x)) (fun v s₃ h₃=>wpAny_bind (wpAny_standAt (wpAny_pure h₃))) fun _ _ x=>x)))))
  | (refine wpAny_bind (wpAny_standAt (raiseStmt_dict (C:=C) (nm:=nm) (q:=q) (N:=N) (bs:=bs) (bm:=bm) (hdct:=hdct) (sn:=sn) (sub:=sub) (ab:=ab) (col:=col) (dd:=dd) (k0:=k0) (k1:=k1) (k2:=k2) (k3:=k3) (k5:=k5) (newId:=newId) hbase hh ?_));refine wpAny_bind (wpAny_mono (wpAny_Call_ofName (wpAny_mono h (fun f s₁ h₁=>?_) fun _ _ x=>x)) (fun v s₃ h₃=>wpAny_bind (wpAny_standAt (wpAny_pure h₃))) fun _ _ x=>x))
 obtain⟨rfl,h₁⟩:=h₁
 unfold callWith
 refine wpAny_bind (wpAny_holding (wpAny_mono h₁ (fun a s₂ h₂=>wpAny_bind (wpAny_standAt ?_)) fun _ _ x=>x))
 obtain⟨apos,akw⟩:=a
 obtain⟨hkw,hlen,hC,hn,T,⟨oI,hfI,hfc⟩,h₂⟩:=h₂
 obtain rfl:akw=[]:=hkw
 obtain⟨hp,g,d,tk,os⟩:=s₂
 simp only[hplain]
 refine wpAny_bind (wpAny_keeperOf_exc hC ?_)
 refine wpAny_bind (call_initU (hrest:=hlen) Fn hBn F T hC hn hi hfI hfc fun h' e hm=>wpAny_mono (h₂ h' e hm) (fun r s' z=>⟨z.1,wpAny_bind (wpAny_holding (wpAny_point (wpAny_pure ?_)))⟩) fun _ _ z=>z)
 obtain⟨_,z1,⟨t,dx,z2⟩,z3⟩:=z
 exact⟨e,t,dx,rfl,z1,z2,z3⟩
end
end L2
end
section
namespace L2
open PySem PySem.Spec PyProof.Rows PySem.W PySem.Builtin.ObjectAttr
noncomputable def onlyVal:List Value→Bool
 | [.type a,.type b,.type c,.type d]=>a == "ValueError" && b == "Exception" && c == "BaseException" && d == "object"
 | .ref _::r=>onlyVal r
 | _=>false
theorem onlyVal_inv{l:List Value}(h:onlyVal l=true):(∃ c r,l=.ref c::r∧onlyVal r=true)∨l=[.type "ValueError",.type "Exception",.type "BaseException",.type "object"]:=by
 unfold onlyVal at h
 split at h
 ·rename_i a b c d
  simp only[Bool.and_eq_true,beq_iff_eq] at h
  obtain⟨⟨⟨rfl,rfl⟩,rfl⟩,rfl⟩:=h
  exact .inr rfl
 ·exact .inl ⟨_,_,rfl,h⟩
 ·cases h
theorem refuse_onlyVal(self:Value)(l:List Value)(h:onlyVal l=true):refuseLoop self "__setattr__" l=pure ():=by
 induction l with
 | nil=>cases h
 | cons v r ih =>
  rcases onlyVal_inv h with⟨c,r',e,h'⟩|e
  ·cases e;rw[refuseLoop_ref];exact ih h'
  ·rw[e];exact PySem.F.store_ValueError.passes self
theorem onlyVal_has(l:List Value)(h:onlyVal l=true):l.contains (.type "object")=true:=by
 induction l with
 | nil=>cases h
 | cons v r ih =>
  rcases onlyVal_inv h with⟨c,r',e,h'⟩|e
  ·cases e;rw[List.contains_cons,ih h',Bool.or_true]
  ·rw[e];decide +kernel
noncomputable def valOver(K:Frag)(C:Addr):Bool:=(clsIn K C).any fun cd=>onlyVal cd.mro
structure ExcSet(K:W.Frag)(C:Addr)(name:Str):Prop where
 sa:findIn K (.ref C) "__setattr__" = some (some (.builtin "object.__setattr__"))
 ov:valOver K C=true
 tk:takerIn K C name=some none
 hd:hasDictIn K C=true
section
variable{prog:Program}{w:World}{A:Around}{E:Value→Shared→Prop}{s:Shared}{K:W.Frag}{x C:Addr}{ox:Obj}{od:Option Obj}{name:Str}{R:Result→Shared→Prop}
theorem osa_openX{tk:Tok}{v:Value}(X:K.In s.heap)(I:PySem.W.InstAt s.heap x ox C od)(hp:valOver K C=true)(ht:takerIn K C name=some none)
  (h:∀ b,wpAny (model prog w) A.in1 (storeInOwnDict (.ref x) (.ref C) (.str name tk) name v b)
   (fun fin s'=>match fin with|.done f=>R (.ok f) s'|.again c'=>c'.quiet=true∧codeAny (model prog w) A c' R s') (fun e s'=>R (.error e) s') s) :
  codeAny (model prog w) A (.call (.builtin "object.__setattr__") ⟨[.ref x,.str name tk,v],[]⟩) R s:=by
 have SF:=PySem.F.store_object
 obtain⟨cd,hc,ho⟩:=any_some hp
 have ne:cd.mro.isEmpty=false:=by cases q:cd.mro with|nil=>rw[q] at ho;cases ho|cons _ _=>rfl
 have sub:Looks (model prog w) s.heap (isInstance (.ref x) (.type "object")) true:=I.type.andThen (looks_mroIn X (by unfold mroIn;rw[hc,Option.bind_some,if_neg (by rw[ne];decide),onlyVal_has _ ho]))
 refine codeAny_call_builtin SF.slot.plain SF.entry (@check_slot (model prog w) _ _ s "object.__setattr__" "object" "__setattr__" (.ref x) [.str name tk,v] [] _ SF.kind SF.split sub (SF.args (.ref x) (.str name tk) v) ?_)
 obtain⟨attr,ha,hr⟩:=Option.bind_eq_some_iff.mp ht
 have hm:Looks (model prog w) s.heap (mroOf (.ref C)) cd.mro:=(looks_clsIn X hc).andThen .now
 have L3:Looks (model prog w) s.heap (storeTaker? attr) none:=by
  cases attr with
  | none=>exact .now
  | some a =>
   obtain⟨b,hb,hr'⟩:=Option.map_eq_some_iff.mp hr
   refine (looks_takesIn X hb).andThen ?_
   cases b with
   | false=>exact .now
   | true=>cases hr'
 rw[osa_eq,refuse_eq]
 refine wpAny_bind (wpAny_bind (I.type.here (wpAny_bind (hm.here ?_))))
 rw[refuse_onlyVal _ _ ho]
 refine wpAny_pure (wpAny_bind (I.type.here (wpAny_bind ((looks_findIn X ha).here (wpAny_bind (L3.here ?_))))))
 exact h _
theorem exc_set0{v:Value}{vs:Array Value}{sl:Array (Option Value)}{Q:Unit→Shared→Prop}(X:K.In s.heap)(g:ExcSet K C name)(hx:s.heap.get? x=some ⟨.ref C,none,.fields vs,sl⟩)
  (h:∀ h',h'.get? x=some ⟨.ref C,some s.heap.objs.size,.fields vs,sl⟩→h'.Ns1 s.heap.objs.size (fun y=>if y=name then some v else none)→(∀ b o,b≠x→s.heap.get? b=some o→h'.get? b=some o)→Q () { s with heap:=h',toks:=s.toks+2 }) :
  wpAny (model prog w) A (setAttr (.ref x) name v) Q E s:=by
 have I:PySem.W.InstAt s.heap x ⟨.ref C,none,.fields vs,sl⟩ C none:=⟨hx,rfl,rfl,trivial⟩
 refine PySem.W.set_plain X I g.sa (osa_openX (s:={ s with toks:=s.toks+1 }) X I g.ov g.tk fun b=>?_)
 obtain⟨cd,hc,hd'⟩:=PySem.W.any_some g.hd
 have hxs:x≠s.heap.objs.size:=Nat.ne_of_lt (Heap.lt_size hx)
 refine wpAny_bind (wpAny_pure (wpAny_bind (wpAny_bind (wpAny_loadPart hx (wpAny_bind (PySem.W.Looks.here (s:={ s with toks:=s.toks+1 }) (PySem.W.looks_clsIn X hc) ?_))))))
 rw[hd']
 have hx₁:(s.heap.push { cls:=.type "dict",data:=.dict #[] }).get? x=some ⟨.ref C,none,.fields vs,sl⟩:=Heap.get?_push_of_some _ hx
 refine wpAny_bind (wpAny_alloc ?_)
 refine wpAny_bind (wpAny_update hx₁ ?_)
 refine wpAny_pure (wpAny_bind (wpAny_pure (wpAny_bind ?_)))
 have hgd:((s.heap.push { cls:=.type "dict",data:=.dict #[] }).update x fun o=>{ o with dict:=some s.heap.objs.size }).get? s.heap.objs.size=some { cls:=.type "dict",data:=.dict #[] } :=
  (Heap.get?_update_ne _ _ _ _ hxs.symm).trans (Heap.get?_push_at rfl rfl)
 have hnd:((s.heap.push { cls:=.type "dict",data:=.dict #[] }).update x fun o=>{ o with dict:=some s.heap.objs.size }).Ns s.heap.objs.size (fun _=>none) :=
  ⟨_,#[],_,hgd,rfl,fun e he=>absurd he (by simp),fun _=>rfl⟩
 refine wpAny_nsSet1 (Heap.Ns1.of_empty hnd) fun h' hn' hs=>?_
 obtain⟨oD,esD,epD,hoD,hdD,hcD⟩:=hn'.count (Within.cons name v Within.nil)
 refine wpAny_bind (wpAny_lookBehind hoD (by rw[hdD];exact pastItsLine_dict (Nat.le_trans hcD (by rw[List.length_cons,List.length_nil,sizeLine_eq];omega))) ?_)
 refine wpAny_pure (h h' ?_ hn' fun b o hb e=>?_)
 ·exact (hs.2 x hxs).trans (Heap.get?_update_self _ hx₁ rfl)
 ·exact (hs.2 b (Nat.ne_of_lt (Heap.lt_size e))).trans ((Heap.get?_update_ne _ _ _ _ hb).trans (Heap.get?_push_of_some _ e))
theorem exc_set1{v:Value}{vs:Array Value}{sl:Array (Option Value)}{dx:Addr}{mA:Str→Option Value}{ns:List Str}{Q:Unit→Shared→Prop}(X:K.In s.heap)(g:ExcSet K C name)(hx:s.heap.get? x=some ⟨.ref C,some dx,.fields vs,sl⟩)(hne:dx≠x)
  (hn:s.heap.Ns1 dx mA) (hw:PySem.Within mA ns) (hsz:ns.length<1000)
  (h:∀ h',h'.Ns1 dx (fun y=>if y=name then some v else mA y)→Heap.SameBut dx s.heap h'→Q () { s with heap:=h',toks:=s.toks+2 }) :
  wpAny (model prog w) A (setAttr (.ref x) name v) Q E s:=by
 obtain⟨od,es,ep,e1,e2⟩:=id hn
 have I:PySem.W.InstAt s.heap x ⟨.ref C,some dx,.fields vs,sl⟩ C (some od):=⟨hx,rfl,rfl,e1⟩
 refine PySem.W.set_plain X I g.sa (osa_openX (s:={ s with toks:=s.toks+1 }) X I g.ov g.tk fun b=>?_)
 obtain⟨cd,hc,hd'⟩:=PySem.W.any_some g.hd
 refine wpAny_bind (wpAny_pure (wpAny_bind (wpAny_bind (wpAny_loadPart hx (wpAny_bind (PySem.W.Looks.here (s:={ s with toks:=s.toks+1 }) (PySem.W.looks_clsIn X hc) ?_))))))
 rw[hd']
 refine wpAny_pure (a:=some dx) (wpAny_bind (wpAny_pure (wpAny_bind ?_)))
 refine wpAny_nsSet1 (s:={ s with toks:=s.toks+1 }) hn fun h' hn2 hs2=>?_
 obtain⟨oD,esD,epD,hoD,hdD,hcD⟩:=hn2.count (PySem.Within.cons name v hw)
 refine wpAny_bind (wpAny_lookBehind hoD (by rw[hdD];exact pastItsLine_dict (Nat.le_trans hcD (by rw[List.length_cons,sizeLine_eq];omega))) ?_)
 exact wpAny_pure (h _ hn2 hs2)
end
end L2
end
section
namespace L2
open PySem PySem.Spec PyProof.Rows PySem.W
noncomputable def YObj(e C:Addr)(d:Option Addr):Heap→Prop:=fun h=>∃ t,h.get? e=some ⟨.ref C,d,.fields #[.ref t,.none,.none,.none,.bool false,.none],#[]⟩
noncomputable def hY(e C:Addr)(d:Option Addr):HO:=.ext (YObj e C d)
theorem ok_hY{P:Program}{w:World}{H:Hp}{h:Heap}{e C:Addr}{d:Option Addr}(x:YObj e C d h):ObjOk P w H h e (hY e C d) :=
 ⟨x,let ⟨t,q⟩:=x;⟨_,q⟩,fun h1 h2 ⟨t,q⟩ k=>⟨t,k _ q⟩⟩
theorem ok_hXD{P:Program}{w:World}{H:Hp}{h:Heap}{d:Addr}{fs:List (Str×V)}(x:XDct d fs h):ObjOk P w H h d (hXD d fs) :=
 ⟨x,let ⟨_,⟨_,_,_,q,_⟩,_⟩:=x;⟨_,q⟩,fun h1 h2 ⟨mA,n,r⟩ k=>⟨mA,n.at k,r⟩⟩
noncomputable def sXset(K:W.Frag)(C:Addr)(ta tv:TE)(f:Str):TS:=fun D σ H=>tv σ H fun y H1=>ta σ H1 fun x H2=>∃ e,x=.ref e ∧
  ((H2 e=some (hY e C none)∧∀ d,H2 d=none→d≠e→D.nx σ (upd (upd H2 e (hY e C (some d))) d (hXD d [(f,y)]))) ∨
   ∃ d fs,H2 e=some (hY e C (some d))∧H2 d=some (hXD d fs)∧d≠e∧fs.length<900∧D.nx σ (upd H2 d (hXD d (putF f y fs))))
section
variable{X:Cx}{pins:List (Addr×Obj)}{σ:St}{H:Hp}{s:Shared}{o value:Expr}{f:Str}{pos pos':Pos}{ta tv:TE}{C:Addr}
theorem Inv.excd{e d:Addr}{φ:Heap→Prop}{o1 o2:HO}{h':Heap}{t':Nat}(I:Inv X pins σ H s)(he:H e=some (.ext φ))(hd:H d=none)(hds:s.heap.get? d=none)(k:∀ b u,b≠e→s.heap.get? b=some u→h'.get? b=some u)(heo:∃ u,h'.get? e=some u)
  (n1:ObjOk X.prog X.w (upd (upd H e o1) d o2) h' e o1) (n2:ObjOk X.prog X.w (upd (upd H e o1) d o2) h' d o2):Inv X pins σ (upd (upd H e o1) d o2) { s with heap:=h',toks:=t' }:=by
 have hde:d≠e:=fun z=>by rw[z,he] at hd;cases hd
 have ne:∀ b,H b=none→b≠e:=fun b n z=>by rw[z,he] at n;cases n
 have nd:∀ b u,s.heap.get? b=some u→b≠d:=fun b u q z=>by rw[z,hds] at q;cases q
 have keepH:∀ b u,H b=some u→(∀ ψ,u≠.ext ψ)→upd (upd H e o1) d o2 b=some u:=fun b u q n=>by
  rw[upd_ne (fun z=>by rw[z,hd] at q;cases q),upd_ne (fun z=>by rw[z,he] at q;cases q;exact n _ rfl)];exact q
 refine I.un ⟨fun b u q n _ _=>k b u (ne b n) q,fun b u q n _ _=>⟨u.slots,k b u (ne b n) q⟩,fun b u q n _=>by rw[upd_ne (nd b u q),upd_ne (ne b n)];exact n,fun b u q _=>?_,fun b xs q=>keepH b _ q (by intro _ z;cases z),fun b u xs q=>keepH b _ q (by intro _ z;cases z),fun b ps q=>⟨#[],by simpa using keepH b _ q (by intro _ z;cases z)⟩⟩ fun a u q=>?_
 ·by_cases hbe:b=e
  ·subst hbe;exact heo
  ·exact⟨u,k b u hbe q⟩
 ·by_cases had:a=d
  ·subst had;rw[upd_same] at q;cases q;exact n2
  ·rw[upd_ne had] at q
   by_cases hae:a=e
   ·subst hae;rw[upd_same] at q;cases q;exact n1
   ·rw[upd_ne hae] at q
    refine (I.hok a u q).stay (fun b u' hb z=>k b u' (fun y=>?_) z) (fun b z=>keepH b _ z (by intro _ y;cases y)) (fun b xs z=>keepH b _ z (by intro _ y;cases y)) fun b o z=>keepH b _ z (by intro _ w;cases w)
    rcases hb with r|r
    ·exact hae (r▸y)
    ·rw[y,he] at r;cases r
theorem ps_xset(g:ExcSet X.K C f)(ha:PE X o ta)(hv:PE X value tv)(hs:swapsWith value (some (.Attribute o f pos')) pos.line X.env=pure false):PS X (.Assign [.Attribute o f pos'] value pos) (sXset X.K C ta tv f):=by
 intro pins s σ H D I h
 refine plainObj_wpAny_Assign_Attribute (thn (hv pins s σ H _ I h) fun u s1 ⟨y,H1,I1,ry,q⟩=>thn (ha pins s1 σ H1 _ I1 q) fun ov s2 ⟨x,H2,I2,rx,e,ex,q2⟩=>?_) hs
 subst ex
 obtain rfl:ov=Value.ref e:=rx
 rcases q2 with⟨he,q2⟩|⟨d,fs,he,hd,hde,hl,q2⟩
 ·obtain⟨t,ht⟩:=(I2.hok _ _ he).1
  have hf:H2 s2.heap.objs.size=none:=I2.hok.fresh (Nat.le_refl _)
  have hde:s2.heap.objs.size≠e:=Nat.ne_of_gt (Heap.lt_size ht)
  refine exc_set0 I2.kIn g ht fun h' k1 k2 k3=>⟨σ,_,I2.excd (t':=s2.toks+2) he hf (Heap.get?_none_of_le (Nat.le_refl _)) k3 ⟨_,k1⟩ (ok_hY ⟨t,k1⟩) (ok_hXD ⟨_,k2,fun g=>?_,fun g hg=>?_⟩),q2 _ hf hde⟩
  ·by_cases z:g=f
   ·subst z;simp only[List.lookup_cons_self,if_true];exact ry
   ·have:([(f,y)]:List (Str×V)).lookup g=none:=by
     rw[List.lookup_cons]
     have:(g == f)=false:=beq_false_of_ne z
     rw[this];rfl
    rw[this,if_neg z];trivial
  ·by_cases z:g=f
   ·subst z;exact .head _
   ·exact absurd (if_neg z) hg
 ·obtain⟨t,ht⟩:=(I2.hok _ _ he).1
  obtain⟨mA,hn,hr,hw⟩:=(I2.hok _ _ hd).1
  refine exc_set1 I2.kIn g ht hde hn hw (by rw[List.length_map];omega) fun h' k1 k2=>⟨σ,_,I2.write (t':=s2.toks+2) (x:=d) (e:=d) (by rw[hd];exact True.intro) (.inl rfl) (fun b u hb z=>(k2.2 b hb).trans z) (let ⟨o,_,_,q,_⟩:=k1;⟨o,q⟩) (ok_hXD ⟨_,k1,fun g=>?_,fun g hg=>?_⟩),q2⟩
  ·rw[lookup_putF]
   by_cases z:g=f
   ·rw[if_pos z,if_pos z];exact ry
   ·rw[if_neg z,if_neg z];exact hr g
  ·by_cases z:g=f
   ·rw[z];exact (keys_putF f y fs).1
   ·exact (keys_putF f y fs).2 g (hw g fun q=>hg ((if_neg z).trans q))
end
end L2
end
section
namespace L2
open PySem PySem.Spec PyProof.Rows
structure ExcI(K:W.Frag)(C:Addr)(bmB:List Value)(newId:String)(fI:Addr):Prop where
 ex:∃ tl N nm qn bs hdct sn sub ab col dd k0 k1 k2 k3 k5,K.lookup C=some (excClassObj nm qn C N bs tl hdct sn sub ab col dd k0 k1 k2 k3 k5 newId)∧PySem.W.nsOkIn K N=true∧PySem.W.nsIn K N "__init__" = some (some (.ref fI))∧PySem.W.tailIn K bmB tl=true∧∃ oN,K.lookup N=some oN
 fn:∃ oI,K.lookup fI=some oI∧oI.cls=.type "function"
theorem ns_some{K:W.Frag}{h:Heap}{N:Addr}{m:Str→Option Value}{n:Str}{v:Value}(X:K.In h)(G:h.Ns N m)(e:PySem.W.nsIn K N n=some (some v)):m n=some v:=by
 obtain⟨o,es,ep,ho,hd,_,hf⟩:=G
 have hf':=hf n
 unfold PySem.W.nsIn at e
 split at e
 case h_2=>cases e
 rename_i q
 have e1:=(X _ _ q).symm.trans ho
 cases e1
 cases hd
 split at e
 case h_2=>split at e<;>cases e
 rename_i en he
 cases e
 rw[← hf']
 unfold nsFind findBy
 rw[← Array.find?_toList,he]
 rfl
section
variable{X:Cx}{pins:List (Addr×Obj)}{σ:St}{H:Hp}{s:Shared}{F:FK}
theorem Inv.born{e:Addr}{o:HO}{h':Heap}{t':Nat}(I:Inv X pins σ H s)(hn:H e=none)(hes:s.heap.get? e=none)(k:∀ b u,s.heap.get? b=some u→h'.get? b=some u)(n1:ObjOk X.prog X.w (upd H e o) h' e o):Inv X pins σ (upd H e o) { s with heap:=h',toks:=t' }:=by
 have ne:∀ b u,s.heap.get? b=some u→b≠e:=fun b u q z=>by rw[z,hes] at q;cases q
 refine I.un ⟨fun b u q n _ _=>k b u q,fun b u q n _ _=>⟨u.slots,k b u q⟩,fun b u q n _=>by rw[upd_ne (ne b u q)];exact n,fun b u q _=>⟨u,k b u q⟩,fun b xs q=>by rw[upd_ne (ne_of_none q hn)];exact q,fun b u xs q=>by rw[upd_ne (ne_of_none q hn)];exact q,fun b ps q=>⟨#[],by rw[upd_ne (ne_of_none q hn)];simpa using q⟩⟩ fun a u q=>?_
 by_cases ha:a=e
 ·subst ha;rw[upd_same] at q;cases q;exact n1
 ·rw[upd_ne ha] at q
  refine (I.hok a u q).stay (fun b u' _ z=>k b u' z) (fun b z=>by rw[upd_ne (ne_of_none z hn)];exact z) fun b xs z=>by rw[upd_ne (ne_of_none z hn)];exact z
noncomputable def del(H:Hp)(e:Addr):Hp:=fun b=>if b=e then none else H b
theorem del_ne{b e:Addr}(h:b≠e):del H e b=H b:=if_neg h
theorem Inv.forget{e:Addr}{φ:Heap→Prop}(I:Inv X pins σ H s)(he:H e=some (.ext φ)):Inv X pins σ (del H e) s:=by
 have keepH:∀ b u,H b=some u→(∀ ψ,u≠.ext ψ)→del H e b=some u:=fun b u q n=>by
  rw[del_ne (fun z=>by rw[z,he] at q;cases q;exact n _ rfl)];exact q
 have:=I.un (t':=s.toks) (H':=del H e) (h':=s.heap) ⟨fun b u q n _ _=>q,fun b u q n _ _=>⟨u.slots,q⟩,fun b u q n _=>by unfold del;split;rfl;exact n,fun b u q _=>⟨u,q⟩,fun b xs q=>keepH b _ q (by intro _ z;cases z),fun b u xs q=>keepH b _ q (by intro _ z;cases z),fun b ps q=>⟨#[],by simpa using keepH b _ q (by intro _ z;cases z)⟩⟩ fun a u q=>?_
 ·exact this
 ·have ha:a≠e:=fun z=>by rw[z] at q;unfold del at q;rw[if_pos rfl] at q;cases q
  rw[del_ne ha] at q
  exact (I.hok a u q).stay (fun b u' _ z=>z) (fun b z=>keepH b _ z (by intro _ y;cases y)) (fun b xs z=>keepH b _ z (by intro _ y;cases y)) fun b o z=>keepH b _ z (by intro _ w;cases w)
theorem made_XE2{s':Shared}{ea:Addr}{oe:Obj}{vs:Array Value}{H':Hp}(I:Inv X pins σ H s)(I':Inv X pins σ H' s')(k:∀ b o,s.heap.get? b=some o→b∉frs X.stack→H b=none→s'.heap.get? b=some o)
  (he:s'.heap.get? ea=some oe) (hd:oe.data=.fields vs) (hz:1<vs.size) (h1:vs[1]?=some .none) (hn:H' ea=none) (hnew:s.heap.get? ea=none) (th:∀ b o,s.heap.get? b=some o→∃ o',s'.heap.get? b=some o') (f:F oe.cls oe.dict σ H'):XE X F (.ref ea) s':=by
 have nf:ea∉frs X.stack:=fun hm=>by
  obtain⟨_,o,ho,hdn⟩:=I'.stack.mem hm
  rw[he] at ho
  cases ho
  exact hdn vs hd
 have hin:∀ env∈X.stack,∀ a,env.frame=some a→a∈ea::frs X.stack:=fun env h1 a h2=>.tail _ (List.mem_filterMap.mpr ⟨env,h1,h2⟩)
 refine⟨ea,oe.cls,oe.dict,false,PySem.W.hideAll s'.heap (ea::frs X.stack),H',σ,rfl,⟨fun b o e=>PySem.W.of_hideAll _ e,PySem.W.hideAll_none _ (.head _),PySem.W.funFrames_hide I'.stack hin,oe,vs,he,rfl,rfl,hd,hz,by rw[if_neg Bool.false_ne_true];exact h1⟩,
  I'.pins_of fun p hp=>I'.pin p (by simpa using List.mem_append_left _ (by simpa using hp)),fun a o e=>?_,⟨fun b o e n nf' ne=>?_,fun b o e nf' ne=>?_,fun p hp=>?_⟩,f⟩
 ·refine (I'.hok a o e).stay (fun b u hb q=>PySem.W.hideAll_get _ q fun hm=>?_) (fun _ z=>z) fun _ _ z=>z
  have hnb:H' b=none:=by
   rcases List.mem_cons.mp hm with z|z
   ·rw[z];exact hn
   ·exact I'.stkFree b z
  rcases hb with z|z
  ·rw[z,e] at hnb;cases hnb
  ·rw[z] at hnb;cases hnb
 ·have e1:=I.base.keep b o e n (fun z=>nf' (fs_stack I z)) ne
  exact PySem.W.hideAll_get _ (k b o e1 nf' (I.base.free b o e n ne)) fun hm=>by
   rcases List.mem_cons.mp hm with z|z
   ·rw[z,hnew] at e1;cases e1
   ·exact nf' z
 ·obtain⟨o1,e1⟩:=I.base.there b o e ne
  obtain⟨o',e'⟩:=th b o1 e1
  exact⟨o',PySem.W.hideAll_get _ e' fun hm=>by
   rcases List.mem_cons.mp hm with z|z
   ·rw[z,hnew] at e1;cases e1
   ·exact nf' z⟩
 ·obtain⟨e1,n1,l1,f1,_⟩:=I'.pin p (List.mem_append_left _ hp)
  obtain⟨e0,n0,l0,f0,_⟩:=I.pin p (List.mem_append_left _ hp)
  refine PySem.W.hideAll_get _ e1 fun z=>?_
  rcases List.mem_cons.mp z with z|z
  ·rw[z,hnew] at e0;cases e0
  rcases I.ok.stk with e|⟨e,ef⟩
  ·rw[e] at z;exact f1 z
  ·rw[e] at z
   rcases frs_at z with y|y
   ·rw[ef] at y;exact l1 (Option.some.inj y).symm
   ·exact f1 y
noncomputable def spInit(C:Addr)(ks:List Str):Sp:=fun vs H Q _=>∃ e ws,vs=.ref e::ws∧ws.length=ks.length∧H e=some (hY e C none)∧∀ d,H d=none→d≠e→Q .non (upd (upd H e (hY e C (some d))) d (hXD d (ks.zip ws)))
noncomputable def tRaiseI(C:Addr)(ks:List Str)(F:FK)(t:TA):TS:=fun _ σ H=>t σ H fun vs H1=>vs.length=ks.length∧vs.length≤1000∧∀ d,H1 d=none→F (.ref C) (some d) σ (upd H1 d (hXD d (ks.zip vs)))
theorem ps_raiseI{C fI:Addr}{x:Str}{np cpos pos:Pos}{bm bmN:List Value}{B Bn newId nid initId inN:String}{k:Nat}{fd:FuncData}{ps ks:List Str}{t:TA}{e:Expr}{es:List Expr}(Fn:ExcBaseFacts Bn newId inN bmN)(hBn:bm.contains (.type Bn)=true)(FB:ExcBaseFacts B nid initId bm)(hx:ExcI X.K C bm newId fI)(hc:X.calm=true)(hg:Gl X x)(hm:X.mg x=some (.ref C))
  (Fk:FnOk X.prog X.w X.K X.mg X.base (CXE X.prog X.w) k fI fd ps (spInit C ks)) (hr:Room (k+1) X.A) (hb:Binds X.K fd ps []) (ha:PA (X.wish (XE X F)) (e::es) t) (hd:(x == ("__debug__" : Str))=false:=by decide)
  (he:starEach (e::es) X.env=(false,eval e X.env)::starEach es X.env:=by rfl) (hpl:(backTo cpos (starEach es X.env)).any (·.1)=false:=by rfl) :
  PS (X.wish (XE X F)) (.Raise (some (.Call (.Name x np) (e::es) [] cpos)) none pos) (tRaiseI C ks F t):=by
 intro pins s σ H D I f
 have I0:Inv X pins σ H s:=I.unwish
 obtain⟨tl,N,nm,q,bs,hdct,sn,sub,ab,col,dd,k0,k1,k2,k3,k5,hC,hN,hi,hT,oN,hoN⟩:=hx.ex
 obtain⟨oI,hoI,hfc⟩:=hx.fn
 have G:s.heap.Ns N (s.heap.nsMap N):=.of_isNs (PySem.W.isNs_of_in I0.kIn hN)
 have hplain:(backTo cpos (starEach (e::es) X.env)).any (·.1)=false:=by rw[he];show (false || (backTo cpos (starEach es X.env)).any (·.1))=false;rw[hpl];rfl
 refine Raise_call_initU (C:=C) (nm:=nm) (q:=q) (N:=N) (bs:=bs) (bm:=tl) (hdct:=hdct) (sn:=sn) (sub:=sub) (ab:=ab) (col:=col) (dd:=dd) (k0:=k0) (k1:=k1) (k2:=k2) (k3:=k3) (k5:=k5) (mN:=s.heap.nsMap N) (fI:=fI)
  Fn hBn FB ((PySem.W.tail_of_in I0.kIn hT).hasType FB.hasBase) (I0.ok.hd hc) hplain (ns_some I0.kIn G hi) (ld_glob (X:=X.wish (XE X F)) I hg hm ⟨rfl,?_⟩ hd)
 have ha1:=ha cpos pins s σ H _ I f
 rw[he] at ha1 ⊢
 refine Calls.evalArgs_plain (thn ha1 fun us s1 ⟨vs,H1,I1w,r,hl1,hl2,hq⟩=>?_)
 have I1:Inv X pins σ H1 s1:=I1w.unwish
 refine⟨rfl,by rw[← r.length,sizeLine_eq];omega,I1.kIn _ _ hC,?_,PySem.W.tail_of_in I1.kIn hT,⟨oI,I1.kIn _ _ hoI,hfc⟩,fun h' ea mk=>?_⟩
 ·obtain⟨o,es',ep,e1,r1⟩:=G
  have:=(I0.kIn _ _ hoN).symm.trans e1
  cases this
  exact⟨_,es',ep,I1.kIn _ _ hoN,r1⟩
 have hne:H1 ea=none:=by
  cases z:H1 ea with
  | none=>rfl
  | some o =>
   obtain⟨u,hu⟩:=objOk_there (I1.hok ea o z)
   rw[mk.new] at hu
   cases hu
 obtain⟨tt,he0,ht0,_⟩:=mk.there
 have I2:Inv X pins σ (upd H1 ea (hY ea C none)) { s1 with heap:=h',toks:=s1.toks }:=I1.born hne mk.new mk.keeps (ok_hY ⟨tt,he0⟩)
 have r2:Vals (V.ref ea::vs) (Value.ref ea::us):=.cons rfl r
 have hsp:spInit C ks (V.ref ea::vs) (upd H1 ea (hY ea C none)) (fun v H2=>v=.non∧∃ d,H1 d=none∧d≠ea∧H2=upd (upd (upd H1 ea (hY ea C none)) ea (hY ea C (some d))) d (hXD d (ks.zip vs))) E0 :=
  ⟨ea,vs,rfl,hl1,upd_same ..,fun d hd hde=>⟨rfl,d,by rw[upd_ne hde] at hd;exact hd,hde,rfl⟩⟩
 have hlen:(Value.ref ea::us++[]).length=ps.length:=by
  rw[List.append_nil,← Fk.len _ _ _ _ hsp];exact r2.length.symm
 have hbb:=hb _ (Value.ref ea::us) I2.kIn hlen
 rw[List.append_nil] at hbb
 refine wpAny_call (codeAny_mono (Fk.run _ X.stack _ _ ⟨Value.ref ea::us,[]⟩ (Value.ref ea::us) _ _ E0 (hr.make C us []) (I2.env0.make C us []) hbb r2 hsp) fun z s' hq'=>?_)
 cases z with
 | error e=>obtain⟨_,_,_,_,_,_,_,_,_,_,_,_,_,y⟩:=hq';exact y.elim
 | ok fl =>
  cases fl with
  | ret u =>
   have hq2:=hq'
   obtain⟨_,H',_,_,un,_,_,_,_⟩:=hq2
   obtain⟨v,H',I3,rv,ev,d,hd1,hde,rfl⟩:=I2.after hq'
   subst ev
   have hY3:upd (upd (upd H1 ea (hY ea C none)) ea (hY ea C (some d))) d (hXD d (ks.zip vs)) ea=some (hY ea C (some d)):=by rw[upd_ne (Ne.symm hde),upd_same]
   obtain⟨t3,g3⟩:=(I3.hok _ _ hY3).1
   have eH:del (upd (upd (upd H1 ea (hY ea C none)) ea (hY ea C (some d))) d (hXD d (ks.zip vs))) ea=upd H1 d (hXD d (ks.zip vs)):=by
    funext b
    by_cases z:b=ea
    ·subst z;rw[upd_ne (Ne.symm hde)];unfold del;rw[if_pos rfl];exact hne.symm
    ·rw[del_ne z]
     by_cases y:b=d
     ·subst y;rw[upd_same,upd_same]
     ·rw[upd_ne y,upd_ne y,upd_ne z,upd_ne z]
   have I4:=I3.forget hY3
   rw[eH] at I4
   have hu:u=Value.none:=rv
   have nb:∀ b o,s1.heap.get? b=some o→b≠ea:=fun b o q z=>by rw[z,mk.new] at q;cases q
   refine⟨hu,I3.kIn _ _ hC,⟨t3,some d,g3⟩,made_XE2 (oe:=⟨.ref C,some d,.fields #[.ref t3,.none,.none,.none,.bool false,.none],#[]⟩) I1 I4 (fun b o q nf n=>?_) g3 rfl (by simp) rfl (by rw[upd_ne (Ne.symm hde)];exact hne) mk.new (fun b o q=>un.there b o (mk.keeps b o q) (by simp)) (hq d hd1)⟩
   exact un.keep b o (mk.keeps b o q) (by rw[upd_ne (nb b o q)];exact n) nf (by simp)
  | next=>exact hq'.elim
  | brk=>exact hq'.elim
  | cont=>exact hq'.elim
end
end L2
end
section
namespace L2
open PySem PySem.Spec PyProof.Rows
structure ExcFld(K:W.Frag)(C:Addr)(f:Str):Prop where
 get:ExcGet K C
 hd:PySem.W.hasDictIn K C=true
 no:PySem.W.findIn K (.ref C) f=some none
noncomputable def tXfld(K:W.Frag)(ta:TE)(f:Str):TE:=fun σ H Q=>ta σ H fun x H1=>∃ ea C a vs v,x=.ref ea∧H1 ea=some (hX ea (.ref C) (some a))∧H1 a=some (hXD a vs)∧ExcFld K C f∧vs.lookup f=some v∧Q v H1
theorem pe_xfld{X:Cx}{e:Expr}{f:Str}{pos:Pos}{ta:TE}(he:PE X e ta)(hb:attributeBase e f X.env (eval e X.env)=eval e X.env:=by rfl):PE X (.Attribute e f pos) (tXfld X.K ta f):=by
 intro pins s σ H Q I h
 refine attr_of hb (thn (he pins s σ H _ I h) fun u s1 ⟨x,H1,I1,rx,ea,C,a,vs,v,ex,h1,h2,g,l,q⟩=>?_)
 subst ex
 obtain rfl:u=Value.ref ea:=rx
 obtain⟨o,ws,k1,k2,k3,k4⟩:=(I1.hok _ _ h1).1
 obtain⟨mA,n,r,_⟩:=(I1.hok _ _ h2).1
 obtain⟨od,ho,hl⟩:=lookIn_ns n
 have rf:=r f
 rw[l] at rf
 cases hv:mA f with
 | none=>rw[hv] at rf;exact rf.elim
 | some u =>
  rw[hv] at rf
  have ru:RelV v u:=rf
  have J:PySem.W.InstAt s1.heap ea o C (some od):=⟨k1,k2,by obtain⟨c,d,da,sl⟩:=o;cases k4;rfl,by rw[k3];exact ho⟩
  exact exc_attr I1.kIn J g.get (PySem.W.findObj_own g.hd g.no rfl (by rw[hl,hv])) (handed_of ru) ⟨v,H1,I1.tok _,ru,q⟩
theorem pe_xfldK{X:Cx}{K:W.Frag}{e:Expr}{f:Str}{pos:Pos}{ta:TE}(h:X.K=K)(he:PE X e ta)(hb:attributeBase e f X.env (eval e X.env)=eval e X.env:=by rfl):PE X (.Attribute e f pos) (tXfld K ta f):=h▸pe_xfld he hb
theorem init_sem1{K:W.Frag}{C e:Addr}{k1:Str}{H:Hp}{Q:VK}{w1:V}(he:H e=some (hY e C none))(q:∀ d,H d=none→d≠e→Q .non (upd (upd H e (hY e C (some d))) d (hXD d [(k1,w1)]))) :
  sXset K C (tVar 0) (tVar 1) k1 { nx:=fun _ H'=>Q .non H',rt:=Q } [some (.ref e),some w1] H :=
 ⟨w1,rfl,.ref e,rfl,e,rfl,.inl ⟨he,q⟩⟩
section
variable{P:Program}{w:World}{K:W.Frag}{mg:Str→Option Value}{base:Heap}{CX:CXT}{qual p1 p2 k1 k2 self:Str}{st:Stmt}{f C:Addr}{fd:FuncData}{k:Nat}{dV:Value}
theorem init1(F:FunD K "__init__" qual st dV f fd)(Sc:FnScope [self,p1] [self,p1] (defScope st))
  (hbody:∀ (cdv:Value) (A:Around) (outer:List Env) (s:Shared) (H:Hp) (E:XK),PSs (cxOf CX P w K mg base [self,p1] qual (defScope st) f cdv A outer s H E).nox (defBody st) (sXset K C (tVar 0) (tVar 1) k1)) :
  FnOk P w K mg base CX (k+1) f fd [self,p1] (spInit C [k1]):=by
 refine F.ok Sc (fun vs H Q E ⟨e,ws,z,l,_⟩=>by rw[z,List.length_cons,l];rfl) fun cdv A outer s H vs Q E _ h=>⟨_,hbody cdv A outer s H E,?_⟩
 obtain⟨e,ws,rfl,l,he,q⟩:=h
 match ws,l with
 | [w1],_=>exact init_sem1 he q
end
end L2
namespace VL
open PySem PySem.Spec PyProof.Rows L2
variable[Tabs]
section
variable{K:W.Frag}{F:FK}{X:Exc→Sl→Prop}{ρ:Sl}{Q:TV→Prop}{DV:VEnds}
theorem zip_fst{α β:Type}:∀ {as:List α} {bs:List β},as.length=bs.length→(as.zip bs).map Prod.fst=as
 | [],[],_=>rfl
 | a::as,b::bs,h=>by rw[List.zip_cons_cons,List.map_cons,zip_fst (by simpa using h)]
theorem zip_snd{α β:Type}:∀ {as:List α} {bs:List β},as.length=bs.length→(as.zip bs).map Prod.snd=bs
 | [],[],_=>rfl
 | a::as,b::bs,h=>by rw[List.zip_cons_cons,List.map_cons,zip_snd (by simpa using h)]
theorem sv_raiseI{C:Addr}{ks:List Str}{A:TA}(h:Ea K F X A ρ fun bs=>NRs bs∧bs.length=ks.length∧bs.length≤1000∧X ⟨C,ks.zip (bs.map TV.data)⟩ ρ):Sv K F X (tRaiseI C ks F A) ρ DV:=fun H0 σ ts as H D _ s x _ =>
 h H0 σ ts as H _ s x fun bs ⟨nr,hl,hz,q⟩ vs H' s' hv=>by
  obtain⟨rp,s2⟩:=SR.reps nr.all hv s'
  have l1:ks.length=vs.length:=by omega
  have l2:ks.length=(bs.map TV.data).length:=by rw[List.length_map];omega
  refine⟨by omega,by omega,fun d hd=>x.x _ ρ q _ _ σ _ (s2.ext (same_new hd)).pops ⟨rfl,.inr ⟨d,ks.zip vs,rfl,upd_same ..,?_,?_⟩⟩⟩
  ·rw[zip_fst l1,zip_fst l2]
  ·rw[zip_snd l1,zip_snd l2]
   exact rp.same (same_new hd)
theorem fld_look{G:Hp}{f:Str}{y:PyData}:∀ {fs:List (Str×PyData)} {vs:List (Str×V)} {ds:List PyData},fs.map (fun p=>(PyData.str p.1,p.2))=(vs.map fun p=>PyData.str p.1).zip ds→Reps K G (vs.map Prod.snd) ds→fs.lookup f=some y→∃ v,vs.lookup f=some v∧Rep K G v y
 | [],_,_,_,_,l=>by cases l
 | (g,x)::fs,[],_,e,_,_=>by simp at e
 | (g,x)::fs,(g',v)::vs,[],e,_,_=>by simp at e
 | (g,x)::fs,(g',v)::vs,d::ds,e,r,l=>by
  simp only[List.map_cons,List.zip_cons_cons,List.cons.injEq,Prod.mk.injEq,PyData.str.injEq] at e
  obtain⟨⟨rfl,rfl⟩,e⟩:=e
  cases r with
  | cons r rs =>
   rw[List.lookup_cons] at l ⊢
   cases z:f == g with
   | true=>rw[z] at l;cases l;exact⟨v,rfl,r⟩
   | false=>rw[z] at l;exact fld_look e rs l
theorem ev_xfld{te:TE}{f:Str}(h:Ev K F X te ρ fun a=>∃ (e:Exc) (y:PyData),a=.av (.d (dX e))∧ExcFld K e.cls f∧e.fs.lookup f=some y∧Q (.av (.d y))):Ev K F X (tXfld K te f) ρ Q:=fun H0 σ ts as H QV s x k =>
 h H0 σ ts as H _ s x fun a ⟨e,y,ea,g,l,q⟩ v H' s'=>by
  subst ea
  obtain⟨w,⟨b,c,vs,rfl,h1,h2,h3⟩,s2⟩:=s'.item (c:=.av (.d y)) (y:=y) NR.av Item.d (fun w=>∃ b c vs,v=.ref b∧H' b=some (hX b (.ref e.cls) (some c))∧H' c=some (hXD c vs)∧vs.lookup f=some w) fun G r sm=>by
   have r':Rep K G v (.dict ((.none,.int e.cls)::e.fs.map fun p=>(.str p.1,p.2))):=r
   cases r' with
   | exc _ z => 
    have:=(List.cons.inj z).2
    cases hf:e.fs with
    | nil=>rw[hf] at l;cases l
    | cons _ _=>rw[hf] at this;cases this
   | @excF b C' c vs ds _ h1 h2 rs z =>
    obtain⟨z1,z2⟩:=List.cons.inj z
    simp only[Prod.mk.injEq,PyData.int.injEq,true_and] at z1
    have z3:e.cls=C':=Int.ofNat.inj z1
    subst z3
    obtain⟨w,hw,rw'⟩:=fld_look z2 rs l
    exact⟨w,⟨b,c,vs,rfl,sm _ _ h1,sm _ _ h2,hw⟩,rw'⟩
   | dK _ _ z=>exact absurd z zipK_ne
   | dT _ _ z=>exact absurd z zipT_ne
   | dN _ _ _ z=>exact absurd z zipN_ne
  exact⟨b,e.cls,c,vs,w,rfl,h1,h2,g,h3,k _ q _ _ s2⟩
end
end VL
end
section
namespace VL
open PySem PySem.Spec L2
variable[Tabs]
section
variable{K:W.Frag}{G G' H H' H0:Hp}{σ:St}{ρ:Sl}{ts:List V}{as:List TV}{v x y:V}{a b:TV}
end
section
variable{K:W.Frag}{E:FK}{X:Exc→Sl→Prop}{ρ:Sl}{Q:TV→Prop}{DV:VEnds}{ta tb te ti tj:TE}{i j:Int}{n:Nat}{r r':R2}{t u:TS}{a b:TV}
end
end VL
end
section
namespace VL
open PySem PySem.Spec L2
variable[Tabs]
section
variable{α:Type}[DecidableEq α]
structure KEnc(f:α→PyData):Prop where
 ex:(∃ g:α→Key,(∀ a b,g a=g b→a=b)∧∀ a,f a=keyD (g a))∨(∃ g:α→List Key,(∀ a b,g a=g b→a=b)∧∀ a,f a=.tuple ((g a).map keyD))∨∃ g:α→Key×List Key,(∀ a b,g a=g b→a=b)∧∀ a,f a=.tuple [keyD (g a).1,.tuple ((g a).2.map keyD)]
noncomputable abbrev encD(f:α→PyData)(kvs:List (α×PyData)):List (PyData×PyData):=kvs.map fun p=>(f p.1,p.2)
theorem KEnc.str:KEnc PyData.str:=⟨.inl ⟨Sum.inr,fun _ _ e=>Sum.inr.inj e,fun _=>rfl⟩⟩
theorem keyD_inj:∀ {a b:Key},keyD a=keyD b→a=b
 | .inl _,.inl _,e=>by cases e;rfl
 | .inr _,.inr _,e=>by cases e;rfl
theorem keyD_tup{k:Key}{l:List PyData}:keyD k≠.tuple l:=by cases k<;>exact fun e=>nomatch e
theorem keyDs_tup{k:List Key}{x:PyData}{l:List PyData}:k.map keyD≠[x,.tuple l]:=fun e=>by
 cases k with
 | nil=>simp at e
 | cons a k =>
  cases k with
  | nil=>simp at e
  | cons b k =>
   simp only[List.map_cons,List.cons.injEq] at e
   exact keyD_tup e.2.1
theorem keyDs_inj:∀ {a b:List Key},a.map keyD=b.map keyD→a=b
 | [],[],_=>rfl
 | [],_::_,e=>by simp at e
 | _::_,[],e=>by simp at e
 | x::a,y::b,e=>by
  simp only[List.map_cons,List.cons.injEq] at e
  rw[keyD_inj e.1,keyDs_inj e.2]
end
section
variable{K:W.Frag}{H:Hp}{α κ:Type}[DecidableEq α][DecidableEq κ]{g:α→κ}{en:κ→PyData}
noncomputable abbrev PR(K:W.Frag)(H:Hp)(g:α→κ):List (κ×V)→List (α×PyData)→Prop:=Paired fun p q=>p.1=g q.1∧Rep K H p.2 q.2
theorem pr_of(he:∀ a b,en a=en b→a=b):∀ {ks:List (κ×V)} {ds:List PyData} {kvs:List (α×PyData)},encD (fun a=>en (g a)) kvs=(ks.map fun p=>en p.1).zip ds→Reps K H (ks.map Prod.snd) ds→PR K H g ks kvs
 | [],_,[],_,_=>.nil
 | [],_,_::_,e,_=>by simp at e
 | _::_,_,[],e,.cons _ _=>by simp at e
 | p::ks,d::ds,q::kvs,e,.cons r rs=>by
  simp only[encD,List.map_cons,List.zip_cons_cons,List.cons.injEq,Prod.mk.injEq] at e
  refine .cons ⟨(he _ _ e.1.1).symm,?_⟩ (pr_of he e.2 rs)
  rw[e.1.2]
  exact r
theorem pr_reps:∀ {ks:List (κ×V)} {kvs:List (α×PyData)},PR K H g ks kvs→Reps K H (ks.map Prod.snd) (kvs.map Prod.snd)
 | _,_,.nil=>.nil
 | _,_,.cons h t=>.cons h.2 (pr_reps t)
theorem pr_zip:∀ {ks:List (κ×V)} {kvs:List (α×PyData)},PR K H g ks kvs→encD (fun a=>en (g a)) kvs=(ks.map fun p=>en p.1).zip (kvs.map Prod.snd)
 | _,_,.nil=>rfl
 | p::ks,q::kvs,.cons h t=>by
  have ih:=pr_zip t
  simp only[encD,List.map_cons,List.zip_cons_cons] at ih ⊢
  rw[ih,h.1]
theorem pr_get(hg:∀ a b,g a=g b→a=b){k:α}:∀ {ks:List (κ×V)} {kvs:List (α×PyData)},PR K H g ks kvs→(valV ks (g k)).isSome=(getA kvs k).isSome∧∀ y,getA kvs k=some y→∃ v,valV ks (g k)=some v∧Rep K H v y
 | _,_,.nil=>⟨rfl,fun _ z=>nomatch z⟩
 | p::ks,q::kvs,.cons h t=>by
  obtain⟨i1,i2⟩:=pr_get hg (k:=k) t
  by_cases e:q.1=k
  ·have e':p.1=g k:=by rw[h.1,e]
   rw[valV_pos e']
   have:getA (q::kvs) k=some q.2:=by simp[getA,List.find?_cons,e]
   rw[this]
   exact⟨rfl,fun y z=>by cases z;exact⟨_,rfl,h.2⟩⟩
  ·have e':¬ p.1=g k:=fun z=>e (hg _ _ (h.1.symm.trans z))
   rw[valV_neg e']
   have:getA (q::kvs) k=getA kvs k:=by simp[getA,List.find?_cons,e]
   rw[this]
   exact⟨i1,i2⟩
theorem pr_put(hg:∀ a b,g a=g b→a=b){k:α}{v:V}{y:PyData}(rv:Rep K H v y){ks:List (κ×V)}{kvs:List (α×PyData)}(h:PR K H g ks kvs):PR K H g (putK ks (g k) v) (putA kvs k y):=by
 have e:=(pr_get hg (k:=k) h).1
 unfold putK putA
 rw[valV_any,e]
 by_cases c:(getA kvs k).isSome=true
 ·rw[if_pos c,if_pos c]
  clear e c
  induction h with
  | nil=>exact .nil
  | @cons p q ps qs hh t ih =>
   refine .cons ?_ ih
   dsimp only
   by_cases e:q.1=k
   ·rw[if_pos e,if_pos (show p.1=g k by rw[hh.1,e])];exact⟨hh.1,rv⟩
   ·rw[if_neg e,if_neg (fun z=>e (hg _ _ (hh.1.symm.trans z)))];exact hh
 ·rw[if_neg c,if_neg c]
  exact Paired.snoc h ⟨rfl,rv⟩
theorem Rep.kV{k:Key}{x:V}(h:Rep K H x (keyD k)):x=L2.kV k:=by
 cases k with
 | inl i=>exact h.int_inv
 | inr z=>cases (show Rep K H x (.str z) from h);rfl
theorem Reps.kVs:∀ {ks:List Key} {xs:List V},Reps K H xs (ks.map keyD)→xs=ks.map L2.kV
 | [],_,.nil=>rfl
 | k::ks,_,.cons r rs=>by rw[Rep.kV r,Reps.kVs rs];rfl
noncomputable abbrev en3(k:Key×List Key):PyData:=.tuple [keyD k.1,.tuple (k.2.map keyD)]
theorem en3_inj{a b:Key×List Key}(e:en3 a=en3 b):a=b:=by
 simp only[en3,PyData.tuple.injEq,List.cons.injEq,and_true] at e
 exact Prod.ext (keyD_inj e.1) (keyDs_inj e.2)
theorem Rep.keyN{k:Key×List Key}{x:V}(h:Rep K H x (en3 k)):∃ b,x=.ref b∧KeyN H b k:=by
 obtain⟨b,xs,rfl,hb,hr⟩:=h.tuple_at
 cases hr with
 | cons r1 hr =>
  cases hr with
  | cons r2 hr =>
   cases hr
   have e1:=Rep.kV r1
   subst e1
   obtain⟨c,ys,rfl,hc,hs⟩:=r2.tuple_at
   have e2:=Reps.kVs hs
   subst e2
   exact⟨b,rfl,c,hb,hc⟩
theorem pr_len{ks:List (κ×V)}{kvs:List (α×PyData)}(h:PR K H g ks kvs):ks.length=kvs.length:=Paired.length h
theorem enc_nil{f:α→PyData}{en:κ→PyData}{ks:List (κ×V)}{ds:List PyData}{kvs:List (α×PyData)}(rs:Reps K H (ks.map Prod.snd) ds)(z:encD f kvs=(ks.map fun p=>en p.1).zip ds)(hne:∀ a k,f a≠en k):kvs=[]∧ks=[]:=by
 have hl:(encD f kvs).length=ks.length:=by
  have:=rs.length
  rw[List.length_map] at this
  rw[z,List.length_zip,List.length_map]
  omega
 cases kvs with
 | nil=>exact⟨rfl,List.eq_nil_of_length_eq_zero hl.symm⟩
 | cons q kvs =>
  cases ks with
  | nil=>cases hl
  | cons k ks =>
   cases ds with
   | nil=>cases z
   | cons d ds=>exact absurd (congrArg (fun l=>(l.headD (PyData.none,PyData.none)).1) z) (hne q.1 k.1)
theorem keyD_none{k:Key}:keyD k≠.none:=by cases k<;>exact fun e=>nomatch e
theorem enc_none{f:α→PyData}(F:KEnc f){kvs:List (α×PyData)}{z:PyData}{l:List (PyData×PyData)}:encD f kvs≠(.none,z)::l:=fun e=>by
 cases kvs with
 | nil=>cases e
 | cons q kvs =>
  have e:=congrArg (fun l=>(l.headD (PyData.none,PyData.none)).1) e
  have e:f q.1=.none:=e
  rcases F.ex with⟨g,_,hf⟩|⟨g,_,hf⟩|⟨g,_,hf⟩
  ·exact keyD_none ((hf _).symm.trans e)
  ·exact nomatch (hf _).symm.trans e
  ·exact nomatch (hf _).symm.trans e
theorem dict_get{G:Hp}{f:α→PyData}(F:KEnc f){kvs:List (α×PyData)}{x y:V}{c:α}(sm:Same G H)(hy:Rep K G y (.dict (encD f kvs)))(hx:Rep K H x (f c)) :
  ∃ a r,y=.ref a∧DGet0 H a x r∧r.isSome=(getA kvs c).isSome∧∀ z,getA kvs c=some z→∃ v,r=some v∧DGetA H a x r∧Rep K G v z:=by
 generalize hk:encD f kvs=l at hy
 cases hy with
 | exc _ z=>exact absurd (hk.trans z) (enc_none F)
 | excF _ _ _ z=>exact absurd (hk.trans z) (enc_none F)
 | junk=>exact absurd hk (enc_none F)
 | @dK a ks ds _ hd rs z =>
  have z:=hk.trans z
  clear hk
  rcases F.ex with⟨g,hg,hf⟩|⟨g,hg,hf⟩|⟨g,hg,hf⟩
  ·cases show f=fun a=>keyD (g a) from funext hf
   cases Rep.kV hx
   obtain⟨h1,h2⟩:=pr_get hg (k:=c) (pr_of (fun _ _=>keyD_inj) z rs)
   exact⟨a,valV ks (g c),rfl,.inl (.inl ⟨ks,g c,sm.rd hd,rfl,rfl⟩),h1,fun z hz=>let ⟨v,e1,e2⟩:=h2 z hz;⟨v,e1,.inl (.inl ⟨ks,g c,sm.rd hd,rfl,rfl⟩),e2⟩⟩
  ·cases show f=fun a=>.tuple ((g a).map keyD) from funext hf
   obtain⟨b,xs,rfl,hb,hr⟩:=hx.tuple_at
   cases Reps.kVs hr
   obtain⟨rfl,rfl⟩:=enc_nil rs z fun _ _=>Ne.symm keyD_tup
   exact⟨a,none,rfl,.inr (.inr (.inl ⟨rfl,⟨g c,b,rfl,hb⟩,sm.rd hd⟩)),rfl,fun _ z=>nomatch z⟩
  ·cases show f=fun a=>en3 (g a) from funext hf
   obtain⟨b,rfl,kn⟩:=Rep.keyN hx
   obtain⟨rfl,rfl⟩:=enc_nil rs z fun _ _=>Ne.symm keyD_tup
   exact⟨a,none,rfl,.inr (.inr (.inr (.inr ⟨rfl,⟨g c,b,rfl,kn⟩,.inl (sm.rd hd)⟩))),rfl,fun _ z=>nomatch z⟩
 | @dT a ks ds _ hd rs z =>
  have z:=hk.trans z
  clear hk
  rcases F.ex with⟨g,hg,hf⟩|⟨g,hg,hf⟩|⟨g,hg,hf⟩
  ·cases show f=fun a=>keyD (g a) from funext hf
   cases Rep.kV hx
   obtain⟨rfl,rfl⟩:=enc_nil (en:=fun k=>PyData.tuple (k.map keyD)) rs z fun _ _=>keyD_tup
   exact⟨a,none,rfl,.inr (.inl ⟨rfl,⟨g c,rfl⟩,sm.rd hd⟩),rfl,fun _ z=>nomatch z⟩
  ·cases show f=fun a=>.tuple ((g a).map keyD) from funext hf
   obtain⟨b,xs,rfl,hb,hr⟩:=hx.tuple_at
   cases Reps.kVs hr
   obtain⟨h1,h2⟩:=pr_get hg (k:=c) (pr_of (en:=fun k=>PyData.tuple (k.map keyD)) (fun _ _ e=>keyDs_inj (PyData.tuple.inj e)) z rs)
   exact⟨a,valV ks (g c),rfl,.inl (.inr ⟨ks,g c,b,sm.rd hd,rfl,hb,rfl⟩),h1,fun z hz=>let ⟨v,e1,e2⟩:=h2 z hz;⟨v,e1,.inl (.inr ⟨ks,g c,b,sm.rd hd,rfl,hb,rfl⟩),e2⟩⟩
  ·cases show f=fun a=>en3 (g a) from funext hf
   obtain⟨b,rfl,kn⟩:=Rep.keyN hx
   obtain⟨rfl,rfl⟩:=enc_nil (en:=fun k=>PyData.tuple (k.map keyD)) rs z fun _ _ e=>keyDs_tup (PyData.tuple.inj e).symm
   exact⟨a,none,rfl,.inr (.inr (.inr (.inr ⟨rfl,⟨g c,b,rfl,kn⟩,.inr (sm.rd hd)⟩))),rfl,fun _ z=>nomatch z⟩
 | @dN a ks ds _ ne hd rs z =>
  have z:=hk.trans z
  clear hk
  rcases F.ex with⟨g,hg,hf⟩|⟨g,hg,hf⟩|⟨g,hg,hf⟩
  ·cases show f=fun a=>keyD (g a) from funext hf
   exact absurd (enc_nil (en:=en3) rs z fun _ _=>keyD_tup).2 ne
  ·cases show f=fun a=>.tuple ((g a).map keyD) from funext hf
   exact absurd (enc_nil (en:=en3) rs z fun _ _ e=>keyDs_tup (PyData.tuple.inj e)).2 ne
  ·cases show f=fun a=>en3 (g a) from funext hf
   obtain⟨b,rfl,kn⟩:=Rep.keyN hx
   obtain⟨h1,h2⟩:=pr_get hg (k:=c) (pr_of (en:=en3) (fun _ _=>en3_inj) z rs)
   exact⟨a,valV ks (g c),rfl,.inr (.inr (.inr (.inl ⟨_,g c,b,sm.rd hd,rfl,kn,rfl⟩))),h1,fun z hz=>let ⟨v,e1,e2⟩:=h2 z hz;⟨v,e1,.inr ⟨_,g c,b,sm.rd hd,rfl,kn,rfl⟩,e2⟩⟩
theorem dic_put{f:α→PyData}(F:KEnc f){kvs:List (α×PyData)}{o:HO}{x v:V}{c:α}(hd:DicAt K H o (encD f kvs))(hx:Rep K H x (f c))(hl:kvs.length≤1000000) :
  ∃ o',(∀ a,H a=some o→DPut0 H a x v (upd H a o'))∧Mu o'∧∀ G y,DicAt K G o (encD f kvs)→Rep K G v y→DicAt K G o' (encD f (putA kvs c y)):=by
 rcases F.ex with⟨g,hg,hf⟩|⟨g,hg,hf⟩|⟨g,hg,hf⟩
 ·cases show f=fun a=>keyD (g a) from funext hf
  cases Rep.kV hx
  rcases hd with⟨ks,ds,rfl,rs,z⟩|⟨ks,ds,rfl,rs,z⟩|⟨ks,ds,ne,rfl,rs,z⟩
  ·have p:=pr_of (fun _ _=>keyD_inj) z rs
   refine⟨.dK (putK ks (g c) v),fun a ha=>.inl (DPut.k ha (small6 (by rw[pr_len p];exact hl))),trivial,fun G y hd' rv=>?_⟩
   clear z rs hx
   rcases hd' with⟨ks',ds',e,rs',z'⟩|⟨ks',ds',e,rs',z'⟩|⟨ks',ds',_,e,rs',z'⟩
   ·cases HO.dK.inj e
    have p':=pr_put hg (k:=c) rv (pr_of (fun _ _=>keyD_inj) z' rs')
    exact .inl ⟨_,_,rfl,pr_reps p',pr_zip p'⟩
   ·exact nomatch e
   ·exact nomatch e
  ·obtain⟨rfl,rfl⟩:=enc_nil (en:=fun k=>PyData.tuple (k.map keyD)) rs z fun _ _=>keyD_tup
   exact⟨.dK [(g c,v)],fun a ha=>.inr (.inl ⟨g c,rfl,ha,rfl⟩),trivial,fun G y _ rv=>.inl ⟨[(g c,v)],[y],rfl,.cons rv .nil,rfl⟩⟩
  ·exact absurd (enc_nil (en:=en3) rs z fun _ _=>keyD_tup).2 ne
 ·cases show f=fun a=>.tuple ((g a).map keyD) from funext hf
  obtain⟨b,xs,rfl,hb,hr⟩:=hx.tuple_at
  cases Reps.kVs hr
  clear hx hr
  rcases hd with⟨ks,ds,rfl,rs,z⟩|⟨ks,ds,rfl,rs,z⟩|⟨ks,ds,ne,rfl,rs,z⟩
  ·obtain⟨rfl,rfl⟩:=enc_nil rs z fun _ _=>Ne.symm keyD_tup
   exact⟨.dT [(g c,v)],fun a ha=>.inr (.inr (.inl ⟨g c,b,rfl,hb,ha,rfl⟩)),trivial,fun G y _ rv=>.inr (.inl ⟨[(g c,v)],[y],rfl,.cons rv .nil,rfl⟩)⟩
  ·have hen:∀ a b:List Key,PyData.tuple (a.map keyD)=.tuple (b.map keyD)→a=b:=fun _ _ e=>keyDs_inj (PyData.tuple.inj e)
   have p:=pr_of (en:=fun k=>PyData.tuple (k.map keyD)) hen z rs
   refine⟨.dT (putK ks (g c) v),fun a ha=>.inl (DPut.t ha hb (small6 (by rw[pr_len p];exact hl))),trivial,fun G y hd' rv=>?_⟩
   clear z rs
   rcases hd' with⟨ks',ds',e,rs',z'⟩|⟨ks',ds',e,rs',z'⟩|⟨ks',ds',_,e,rs',z'⟩
   ·exact nomatch e
   ·cases HO.dT.inj e
    have p':=pr_put hg (k:=c) rv (pr_of (en:=fun k=>PyData.tuple (k.map keyD)) hen z' rs')
    exact .inr (.inl ⟨_,_,rfl,pr_reps p',pr_zip (en:=fun k=>PyData.tuple (k.map keyD)) p'⟩)
   ·exact nomatch e
  ·exact absurd (enc_nil (en:=en3) rs z fun _ _ e=>keyDs_tup (PyData.tuple.inj e)).2 ne
 ·cases show f=fun a=>en3 (g a) from funext hf
  obtain⟨b,rfl,kn⟩:=Rep.keyN hx
  clear hx
  rcases hd with⟨ks,ds,rfl,rs,z⟩|⟨ks,ds,rfl,rs,z⟩|⟨ks,ds,ne,rfl,rs,z⟩
  ·obtain⟨rfl,rfl⟩:=enc_nil rs z fun _ _=>Ne.symm keyD_tup
   exact⟨.dN [(g c,v)],fun a ha=>.inr (.inr (.inr (.inr ⟨g c,b,rfl,kn,.inl ha,rfl⟩))),trivial,fun G y _ rv=>.inr (.inr ⟨[(g c,v)],[y],(fun z=>nomatch z),rfl,.cons rv .nil,rfl⟩)⟩
  ·obtain⟨rfl,rfl⟩:=enc_nil (en:=fun k=>PyData.tuple (k.map keyD)) rs z fun _ _ e=>keyDs_tup (PyData.tuple.inj e).symm
   exact⟨.dN [(g c,v)],fun a ha=>.inr (.inr (.inr (.inr ⟨g c,b,rfl,kn,.inr ha,rfl⟩))),trivial,fun G y _ rv=>.inr (.inr ⟨[(g c,v)],[y],(fun z=>nomatch z),rfl,.cons rv .nil,rfl⟩)⟩
  ·have p:=pr_of (en:=en3) (fun _ _=>en3_inj) z rs
   refine⟨.dN (putK ks (g c) v),fun a ha=>.inr (.inr (.inr (.inl ⟨ks,g c,b,ha,rfl,kn,small6 (by rw[pr_len p];exact hl),rfl⟩))),trivial,fun G y hd' rv=>?_⟩
   rcases hd' with⟨ks',ds',e,rs',z'⟩|⟨ks',ds',e,rs',z'⟩|⟨ks',ds',ne',e,rs',z'⟩
   ·cases e
   ·cases e
   ·cases e
    have p':=pr_put hg (k:=c) rv (pr_of (en:=en3) (fun _ _=>en3_inj) z' rs')
    refine .inr (.inr ⟨_,_,fun w=>ne ?_,rfl,pr_reps p',pr_zip (en:=en3) p'⟩)
    have:=congrArg List.length w
    unfold putK at this
    split at this
    ·rw[List.length_map] at this;exact List.length_eq_zero_iff.mp this
    ·simp at this
end
section
variable{K:W.Frag}{G G' H H' H0:Hp}{σ:St}{ρ:Sl}{ts:List V}{as:List TV}{v x y:V}{a b:TV}
theorem SR.writeD{i:Nat}{kvs kvs':List (PyData×PyData)}{z:PyData}(h:SR K H0 σ ρ (v::ts) (.av (.d z)::as) H)(hS:Stb as)(hi:ρ[i]?=some (some (.dic kvs))) :
  ∃ l o,σ[i]?=some (some (.ref l))∧H l=some o∧DicAt K H o kvs∧∀ o',Mu o'→(∀ G,DicAt K G o kvs→Rep K G v z→DicAt K G o' kvs')→SR K H0 σ (ρ.set i (some (.dic kvs'))) ts as (upd H l o'):=by
 obtain⟨⟨p,q,h1,h2,h3,h4⟩,s⟩:=h
 obtain⟨p1,p2,w,e1,e2,e3,e4⟩:=h1.frz hi fun _ _ _ _=>trivial
 cases h2 with
 | @cons _ _ _ _ q1 q2 _ r rs eq =>
  cases r with
  | av r =>
  cases r with
  | d rp eqz =>
  cases e3 with
  | @dic l o _ _ hl hd ep =>
   refine⟨l,o,e2,hl,hd.mono hid_le,fun o' mu hw=>?_⟩
   have hpl:p1 l=1:=by have:=ep l;simpa using this
   have ne:∀ b u,p b+q b=0→H b=some u→b≠l:=fun b u z _ y=>by subst y;have:=e1 b;omega
   have m0:Same (hid H p q) (hid (upd H l o') p q):=hid_upd fun b u z w=>⟨z,ne b u z w⟩
   have k2:∀ b u,0<q b+p2 b→H b=some u→upd H l o' b=some u:=fun b u z w=>by
    rw[upd_ne (fun y=>by subst y;have:=h3 b;have:=e1 b;omega)];exact w
   have z:=e4 (hid (upd H l o') p q) (upd H l o') (.ref l) (.dic kvs') (fun b=>if b=l then 1 else 0) (fun b=>(if b=l then 1 else 0)+p2 b) m0 (fun b u y=>k2 b u (by omega)) (.dic upd_same (hw _ (hd.mono m0) (rp.same m0)) fun _=>rfl) (fun _=>rfl)
   rw[set_same e2] at z
   have s2:Same H0 (upd H l o'):=s.updF (h4 l (by have:=e1 l;omega))
   refine SR.of_le (p:=p) (q:=q) (p':=fun b=>(if b=l then 1 else 0)+p2 b) (q':=q2) s2 h3 h4 (fun b=>?_) z (rs.monoS m0 hS fun b o y=>k2 b o (by have:=eq b;omega))
   have:=ep b;have:=e1 b;have:=eq b
   show (if b=l then 1 else 0)+p2 b+q2 b≤p b+q b
   omega
theorem SR.newD{l:Addr}(h:SR K H0 σ ρ ts as H)(hl:H l=none):SR K H0 σ ρ (.ref l::ts) (.av (.dic [])::as) (upd H l (.dK [])):=by
 obtain⟨⟨p,q,h1,h2,h3,h4⟩,s⟩:=h
 have hL:=SR.lsts h1 h2
 have z:∀ b u,H b=some u→b≠l:=fun b u y w=>by subst w;rw[hl] at y;cases y
 have zl:p l+q l=0:=by
  rcases Nat.eq_zero_or_pos (p l+q l) with w|w
  ·exact w
  ·obtain⟨_,w,_⟩:=hL l w;rw[hl] at w;cases w
 have m:Same (hid H p q) (hid (upd H l (.dK [])) p (fun b=>(if b=l then 1 else 0)+q b)):=hid_upd fun b u y w=>by
  have:=z b u w
  refine⟨?_,this⟩
  show p b+((if b=l then 1 else 0)+q b)=0
  rw[if_neg this]
  omega
 have mo:∀ b u,H b=some u→upd H l (.dK []) b=some u:=fun b u y=>by rw[upd_ne (z b u y)];exact y
 have s2:Same H (upd H l (.dK [])):=same_new hl
 refine⟨⟨p,fun b=>(if b=l then 1 else 0)+q b,h1.mono m (fun b o _=>mo b o),.cons (.av (.dic upd_same (.inl ⟨[],[],rfl,.nil,rfl⟩) fun _=>rfl)) (h2.mono m s2) (fun _=>rfl),fun b=>?_,fun b w=>?_⟩,s.trans s2⟩
 ·have:=h3 b
  by_cases hb:b=l
  ·subst hb;simp;omega
  ·simp[hb];omega
 ·by_cases hb:b=l
  ·subst hb;exact s.free hl
  ·refine h4 b ?_;simp[hb] at w;omega
end
section
variable{K:W.Frag}{E:FK}{X:Exc→Sl→Prop}{ρ:Sl}{Q:TV→Prop}{DV:VEnds}{ta tb te ti tj:TE}{i j:Int}{n:Nat}{r r':R2}{t u:TS}{a b:TV}
theorem ev_dnew(q:Q (.av (.dic []))):Ev K E X tDNewK ρ Q:=fun H0 σ ts as H QV s x k=>fun p hp=>k _ q _ _ (s.newD hp)
theorem in_dc{α:Type}[DecidableEq α]{f:α→PyData}{c:α}{kvs:List (α×PyData)}(F:KEnc f)(ha:a.data=f c)(hb:b.data=.dict (encD f kvs))(q:Q (.av (.d (.bool (getA kvs c).isSome))))(na:NR a:=by first|exact NR.av|exact NR.bor)(nb:NR b:=by first|exact NR.av|exact NR.bor):Op K E X (rInA K false) a b Q:=fun H0 σ ρ ts as H x y QV s _ k=>by
 have h1:=s.pop.top na
 have h2:=s.top nb
 rw[ha] at h1
 rw[hb] at h2
 obtain⟨l,r,rfl,g,e,_⟩:=dict_get F (.refl H) h2 h1
 refine .inr (.inl ⟨l,r,rfl,g,?_⟩)
 rw[if_neg Bool.false_ne_true,e]
 exact k _ q _ H (s.pop.pop.bl _)
theorem nin_dc{α:Type}[DecidableEq α]{f:α→PyData}{c:α}{kvs:List (α×PyData)}(F:KEnc f)(ha:a.data=f c)(hb:b.data=.dict (encD f kvs))(q:Q (.av (.d (.bool (!(getA kvs c).isSome)))))(na:NR a:=by first|exact NR.av|exact NR.bor)(nb:NR b:=by first|exact NR.av|exact NR.bor):Op K E X (rInA K true) a b Q:=fun H0 σ ρ ts as H x y QV s _ k=>by
 have h1:=s.pop.top na
 have h2:=s.top nb
 rw[ha] at h1
 rw[hb] at h2
 obtain⟨l,r,rfl,g,e,_⟩:=dict_get F (.refl H) h2 h1
 refine .inr (.inl ⟨l,r,rfl,g,?_⟩)
 rw[if_pos rfl,e]
 exact k _ q _ H (s.pop.pop.bl _)
theorem ix_dc{α:Type}[DecidableEq α]{f:α→PyData}{c:α}{kvs:List (α×PyData)}{z:PyData}{d:TV}(F:KEnc f)(ha:a.data=.dict (encD f kvs))(hb:b.data=f c)(e:getA kvs c=some z)(it:Item a z d)(q:Q d)(na:NR a:=by first|exact NR.av|exact NR.bor)(nb:NR b:=by first|exact NR.av|exact NR.bor):Op K E X (rIdx K) a b Q:=fun H0 σ ρ ts as H x y QV s _ k=>by
 have h1:=s.top nb
 rw[hb] at h1
 obtain⟨v,⟨l,e1,e2⟩,s'⟩:=s.pop.item na it (fun v=>∃ l,x=.ref l∧DGetA H l y (some v)) fun G rp sm=>by
  rw[ha] at rp
  obtain⟨l,r,e1,_,_,g⟩:=dict_get F sm rp h1
  obtain⟨v,e2,e3,e4⟩:=g z e
  subst e2
  exact⟨v,⟨l,e1,e3⟩,e4⟩
 exact .inr (.inr (.inr ⟨l,v,e1,e2,k _ q _ H s'⟩))
theorem sv_dput{α:Type}[DecidableEq α]{f:α→PyData}{kvs:List (α×PyData)}(F:KEnc f)(hi:ρ[n]?=some (some (.dic (encD f kvs))))(hz:kvs.length≤1000000)(h:Ev K E X te ρ fun a=>Ev K E X ti ρ fun b=>∃ z c,a.sto=some (.d z)∧b.data=f c∧NR b∧DV.nx (ρ.set n (some (.dic (encD f (putA kvs c z)))))) :
  Sv K E X (tAsg te (gSub (tVar n) ti rSetA)) ρ DV:=fun H0 σ ts as H D st s x fi=>by
 refine h H0 σ ts as H _ s x fun a h2 v H1 s1=>?_
 obtain⟨l,o,e1,e2,e3,_⟩:=(s.push (x:=.none) fun _=>.non).writeD (kvs':=encD f kvs) st hi
 refine⟨.ref l,e1,h2 H0 σ _ _ H1 _ s1 x fun b ⟨z,c,ea,eb,nb,q⟩ w H2 s2=>.inr ?_⟩
 have hx:=s2.top nb
 rw[eb] at hx
 obtain⟨l',o',k1,k2,k3,k4⟩:=(s2.pop.sto ea).writeD (kvs':=encD f (putA kvs c z)) st hi
 rw[e1] at k1
 cases k1
 obtain⟨o2,p1,p2,p3⟩:=dic_put (v:=v) F k3 hx hz
 exact⟨l,_,rfl,p1 l k2,fi.nx _ q _ _ (k4 o2 p2 fun G hd rv=>p3 G z hd rv)⟩
end
end VL
end
section
namespace VL
open PySem PySem.Spec PyProof.Rows L2
variable[Tabs]
noncomputable def Z0:Fp:=fun _=>0
noncomputable def spR(K:W.Frag)(Pre:List AV→Prop)(Post:List AV→AV→Prop)(PX:List AV→Exc→Prop):Sp:=fun vs H Q E=>TabsIn H ∧
 ∃ as,RAs K H H vs as Z0∧Pre as∧(∀ c,Post as c→∀ v H',Rs K H H' v c→Q v H')∧∀ e,PX as e→∀ c d H',Same H H'→XRep K H' e c d→E c d H'
noncomputable def NP:List AV→Exc→Prop:=fun _ _=>False
noncomputable abbrev inA(N:List Str)(as:List AV):Sl:=as.map some++List.replicate (N.length-as.length) none
noncomputable abbrev finR(Post:AV→Prop):VEnds:=⟨fun _=>Post (.d .none),fun a=>∃ c,Res a c∧Post c,fun _=>False,fun _=>False⟩
section
variable{K:W.Frag}{H H0:Hp}{σ:L2.St}{ρ:Sl}{ts:List V}{as:List TV}
theorem SR.startA{N:List Str}{vs:List V}{cs:List AV}(h:RAs K H H vs cs Z0):SR K H (L2.start N vs) (inA N cs) [] [] H:=by
 have hl:=h.len
 have hid0:hid H (fun _=>0) (fun _=>0)=H:=by funext b;simp[hid]
 refine⟨⟨fun _=>0,fun _=>0,?_,.nil fun _=>rfl,fun _=>by simp,fun b z=>by simp at z⟩,.refl H⟩
 rw[hid0]
 unfold L2.start inA
 rw[hl]
 clear hl
 generalize N.length-cs.length=m
 have gen:∀ {vs:List V} {cs:List AV} {p:Fp},RAs K H H vs cs p→(∀ b,p b=0)→RSl K H H (vs.map some++List.replicate m none) (cs.map some++List.replicate m none) fun _=>0:=by
  intro vs cs
  induction vs generalizing cs with
  | nil =>
   intro p r _
   cases r
   simp only[List.map_nil,List.nil_append]
   clear h
   induction m with
   | zero=>exact .nil fun _=>rfl
   | succ m ih=>exact .no ih
  | cons v vs ih =>
   intro p r z
   cases r with
   | @cons _ _ _ _ p1 q1 _ r rs e =>
    have z1:∀ b,p1 b=0:=fun b=>by have:=e b;have:=z b;omega
    have z2:∀ b,q1 b=0:=fun b=>by have:=e b;have:=z b;omega
    exact .so r (ih rs z2) fun b=>by simp[z1 b]
 exact gen h fun _=>rfl
theorem bodyR{t:TS}{N:List Str}{Pre:List AV→Prop}{Post:List AV→AV→Prop}{PX:List AV→Exc→Prop}{vs:List V}{Qv:VK}{E:XK}(sp:spR K Pre Post PX vs H Qv E)
  (h:∀ cs,Pre cs→Sv K (toF E) (fun e _=>PX cs e) t (inA N cs) (finR (Post cs))):t { nx:=fun _ H'=>Qv .non H',rt:=Qv } (L2.start N vs) H:=by
 obtain⟨tb,cs,rp,pre,q,qx⟩:=sp
 refine h cs pre H _ [] [] H _ Stb.nil (SR.startA rp) ⟨fun e ρ z c d σ H' s xr=>qx e z c d H' s.same xr,tb⟩ ⟨fun ρ z σ' H' s'=>?_,fun _ z=>z.elim,fun _ z=>z.elim,fun a ⟨c,r,z⟩ v σ' ρ' H' s'=>?_⟩
 ·exact q _ z _ _ (SR.rs (v:=.non) (s'.push fun _=>.non))
 ·rcases r with rfl|⟨nr,rfl⟩
  ·exact q _ z _ _ s'.rs
  ·refine q _ z _ _ ⟨s'.same,fun _=>0,fun _=>by simp,fun b z=>by simp at z,.d ?_ fun _=>rfl⟩
   have hid0:hid H' (fun _=>0) (fun _=>0)=H':=by funext b;simp[hid]
   rw[hid0]
   exact s'.top nr
inductive Sh:TV→AV→Prop
 | d {b:TV} {x:PyData}:NR b→b.data=x→Sh b (.d x)
 | o {φ:V→Hp→Prop}:Sh (.av (.obj φ)) (.obj φ)
inductive Shs:List TV→List AV→Prop
 | nil:Shs [] []
 | cons {b:TV} {c:AV} {bs:List TV} {cs:List AV}:Sh b c→Shs bs cs→Shs (b::bs) (c::cs)
theorem SR.lent:∀ {vs:List V} {bs:List TV} {cs:List AV},Shs bs cs→vs.length=bs.length→SR K H0 σ ρ (vs++ts) (bs++as) H→RAs K H H vs cs Z0∧SR K H0 σ ρ ts as H
 | [],_,_,.nil,_,s=>⟨.nil fun _=>rfl,s⟩
 | [],_,_,.cons _ _,e,_=>by simp at e
 | v::vs,_,_,.nil,e,_=>by simp at e
 | v::vs,b::bs,c::cs,.cons h t,e,s=>by
  have s':SR K H0 σ ρ (v::(vs++ts)) (b::(bs++as)) H:=s
  obtain⟨r,s2⟩:=SR.lent t (by simpa using e) s'.pop
  refine⟨.cons (p:=Z0) (q:=Z0) ?_ r fun _=>rfl,s2⟩
  cases h with
  | d nr ed=>exact .d (ed▸s'.top nr) fun _=>rfl
  | o =>
   obtain⟨⟨p,q,h1,h2,h3,h4⟩,sm⟩:=s'
   cases h2 with
   | cons r rs e=>cases r with
    | av r=>cases r with
     | obj h m z=>exact .obj (m _ _ hid_le h) m fun _=>rfl
end
section
variable{P:Program}{w:World}{K:W.Frag}{mg:Str→Option Value}{base:Heap}{CX:CXT}{x qual:Str}{st:Stmt}{N ps:List Str}{dvss:List (List V)}{k:Nat}{Pre:List AV→Prop}{Post:List AV→AV→Prop}{PX:List AV→Exc→Prop}
theorem spR_len{vs:List V}{H:Hp}{Q:VK}{E:XK}{n:Nat}(h:spR K Pre Post PX vs H Q E)(hS:∀ cs,Pre cs→cs.length=n):vs.length=n:=by
 obtain⟨_,cs,r,pre,_⟩:=h
 rw[r.len];exact hS cs pre
theorem valR(T:Tx K mg x st ps dvss)(Sc:FnScope N ps (defScope st))(hS:∀ cs,Pre cs→cs.length=ps.length)
  (hbody:∀ (f:Addr) (cdv:Value) (A:Around) (outer:List Env) (s:Shared) (H:Hp) (E:XK),Room k (A.deeper (envOfC x (defScope st) s.heap.objs.size f cdv)) →
   ∃ t,PSs (cxOf CX P w K mg base N x (defScope st) f cdv A outer s H E).nox (defBody st) t∧∀ cs,Pre cs→Sv K (toF E) NE t (inA N cs) (finR (Post cs))) :
  ∀ dvs∈dvss,Cal P w K mg base CX (k+1) x ps dvs (spR K Pre Post NP) :=
 T.cal (k:=k) Sc (fun vs H Q E h=>spR_len h hS) fun f cdv A outer s H vs Q E hr h =>
  let ⟨t,h1,h2⟩:=hbody f cdv A outer s H E hr
  ⟨t,h1,bodyR h fun cs pre=>h2 cs pre⟩
end
section
variable{K:W.Frag}{E:FK}{X:Exc→Sl→Prop}{ρ:Sl}{Q:TV→Prop}{DV:VEnds}{a:TV}{Pre:List AV→Prop}{Post:List AV→AV→Prop}{PX:List AV→Exc→Prop}
noncomputable def ClR(Pre:List AV→Prop)(Post:List AV→AV→Prop)(PX:List AV→Exc→Prop)(dds:List AV)(Q:TV→Prop)(X:Exc→Prop)(bs:List TV):Prop :=
 ∃ cs,Shs bs cs∧Pre (cs++dds)∧(∀ c,Post (cs++dds) c→∃ a,Got c a∧Q a)∧∀ e,PX (cs++dds) e→X e
theorem RAs.app{H:Hp}:∀ {vs ws:List V} {xs ys:List AV},RAs K H H vs xs Z0→RAs K H H ws ys Z0→RAs K H H (vs++ws) (xs++ys) Z0:=by
 intro vs ws xs ys h g
 have gen:∀ {vs:List V} {xs:List AV} {p:Fp},RAs K H H vs xs p→(∀ b,p b=0)→RAs K H H (vs++ws) (xs++ys) Z0:=by
  intro vs
  induction vs with
  | nil=>intro xs p r _;cases r;exact g
  | cons v vs ih =>
   intro xs p r z
   cases r with
   | @cons _ _ _ _ p1 q1 _ r rs e =>
    have z1:∀ b,p1 b=0:=fun b=>by have:=e b;have:=z b;omega
    have z2:∀ b,q1 b=0:=fun b=>by have:=e b;have:=z b;omega
    exact .cons r (ih rs z2) fun b=>by simp[Z0,z1 b]
 exact gen h fun _=>rfl
theorem dv_nil{H:Hp}:RAs K H H [] [] Z0:=.nil fun _=>rfl
theorem ev_rN{dvs:List V}{dds:List AV}{A:TA}{E':XK}(hd:∀ H,RAs K H H dvs dds Z0)(h:Ea K E X A ρ (ClR Pre Post NP dds Q fun _=>True)):Ev K E X (tCall (spR K Pre Post NP) dvs E' A) ρ Q:=fun H0 σ ts as H QV s x k =>
 h H0 σ ts as H _ s x fun bs ⟨cs,sh,pre,q,_⟩ vs H' s' hl=>by
  obtain⟨rp,s2⟩:=SR.lent sh hl s'
  exact⟨x.t.same s2.same,cs++dds,rp.app (hd H'),pre,fun c hc v H2 r=>let ⟨a,g,z⟩:=q c hc;k a z v H2 (s2.gotG r g),fun e z=>z.elim⟩
theorem ev_r0{A:TA}{E':XK}(h:Ea K E X A ρ (ClR Pre Post NP [] Q fun _=>True)):Ev K E X (tCall (spR K Pre Post NP) [] E' A) ρ Q:=ev_rN (fun _=>dv_nil) h
theorem ev_rXN{dvs:List V}{dds:List AV}{A:TA}(hd:∀ H,RAs K H H dvs dds Z0)(h:Ea K E X A ρ (ClR Pre Post PX dds Q fun e=>X e ρ)):Ev K E X (tCallX (spR K Pre Post PX) dvs E A) ρ Q:=fun H0 σ ts as H QV s x k =>
 h H0 σ ts as H _ s x fun bs ⟨cs,sh,pre,q,qx⟩ vs H' s' hl=>by
  obtain⟨rp,s2⟩:=SR.lent sh hl s'
  exact⟨x.t.same s2.same,cs++dds,rp.app (hd H'),pre,fun c hc v H2 r=>let ⟨a,g,z⟩:=q c hc;k a z v H2 (s2.gotG r g),fun e z c d H2 sm xr=>x.x e ρ (qx e z) c d σ H2 (s2.ext sm).pops xr⟩
theorem ev_rx0{A:TA}(h:Ea K E X A ρ (ClR Pre Post PX [] Q fun e=>X e ρ)):Ev K E X (tCallX (spR K Pre Post PX) [] E A) ρ Q:=ev_rXN (fun _=>dv_nil) h
end
end VL
end
section
namespace VL
open PySem PySem.Spec L2
variable[Tabs]
section
variable{K:W.Frag}{E:FK}{X:Exc→Sl→Prop}{Q:TV→Prop}{nx bk ct:Sl→Prop}{rt:TV→Prop}{ta tb te ti tj:TE}{x:PyData}{r:Sl}{a:AV}{n:Nat}{ρ:Sl}{r':R2}
theorem ev_varO{φ:V→Hp→Prop}(h:ρ[n]?=some (some (.obj φ)))(q:Q (.av (.obj φ))):Ev K E X (tVar n) ρ Q:=fun H0 σ ts as H QV s _ k=>by
 have s0:=s
 obtain⟨⟨p,q',h1,h2,h3,h4⟩,e⟩:=s
 obtain⟨p1,p2,v,e1,e2,e3,e4⟩:=h1.frz h fun _ _ _ _=>trivial
 refine⟨v,e2,k _ q v H ⟨⟨p,q',h1,?_,h3,h4⟩,e⟩⟩
 cases e3 with
 | obj g m z=>exact .cons (.av (.obj (p:=fun _=>0) g m fun _=>rfl)) h2 fun b=>by simp
theorem ev_k0{kvs:List (PyData×PyData)}(q:Q (.bor (.dict kvs))):Ev K E X (tVar 0) (some (.dic kvs)::r) Q:=ev_varB rfl q
theorem ev_k1{s0:Option AV}{kvs:List (PyData×PyData)}(q:Q (.bor (.dict kvs))):Ev K E X (tVar 1) (s0::some (.dic kvs)::r) Q:=ev_varB rfl q
theorem ev_f2{s0 s1:Option AV}{φ:V→Hp→Prop}(q:Q (.av (.obj φ))):Ev K E X (tVar 2) (s0::s1::some (.obj φ)::r) Q:=ev_varO rfl q
theorem ev_k3{s0 s1 s2:Option AV}{kvs:List (PyData×PyData)}(q:Q (.bor (.dict kvs))):Ev K E X (tVar 3) (s0::s1::s2::some (.dic kvs)::r) Q:=ev_varB rfl q
theorem ev_f3{s0 s1 s2:Option AV}{φ:V→Hp→Prop}(q:Q (.av (.obj φ))):Ev K E X (tVar 3) (s0::s1::s2::some (.obj φ)::r) Q:=ev_varO rfl q
theorem ev_f4{s0 s1 s2 s3:Option AV}{φ:V→Hp→Prop}(q:Q (.av (.obj φ))):Ev K E X (tVar 4) (s0::s1::s2::s3::some (.obj φ)::r) Q:=ev_varO rfl q
theorem ev_k5{s0 s1 s2 s3 s4:Option AV}{kvs:List (PyData×PyData)}(q:Q (.bor (.dict kvs))):Ev K E X (tVar 5) (s0::s1::s2::s3::s4::some (.dic kvs)::r) Q:=ev_varB rfl q
theorem sv_dp5{s0 s1 s2 s3 s4:Option AV}{α:Type}[DecidableEq α]{f:α→PyData}{kvs:List (α×PyData)}(F:KEnc f)(hz:kvs.length≤1000000)(h:Ev K E X te (s0::s1::s2::s3::s4::some (.dic (encD f kvs))::r) fun a=>Ev K E X ti (s0::s1::s2::s3::s4::some (.dic (encD f kvs))::r) fun b=>∃ z c,a.sto=some (.d z)∧b.data=f c∧NR b∧nx (s0::s1::s2::s3::s4::some (.dic (encD f (putA kvs c z)))::r)):Sv K E X (tAsg te (gSub (tVar 5) ti rSetA)) (s0::s1::s2::s3::s4::some (.dic (encD f kvs))::r) ⟨nx,rt,bk,ct⟩:=sv_dput (n:=5) F rfl hz h
end
end VL
end
section
namespace L2
section
variable{α β:Type}[DecidableEq α]
theorem getA_nil{k:α}:getA ([]:List (α×β)) k=none:=rfl
theorem getA_pos{p:α×β}{r:List (α×β)}{k:α}(e:p.1=k):getA (p::r) k=some p.2:=by simp[getA,List.find?_cons,e]
theorem getA_neg{p:α×β}{r:List (α×β)}{k:α}(e:¬ p.1=k):getA (p::r) k=getA r k:=by simp[getA,List.find?_cons,e]
theorem getA_map{k j:α}{y:β}:∀ kvs:List (α×β),getA (kvs.map fun kv=>if kv.1=k then (kv.1,y) else kv) j=(getA kvs j).map fun x=>if j=k then y else x
 | []=>rfl
 | p::r=>by
  have ih:=getA_map (k:=k) (j:=j) (y:=y) r
  rw[List.map_cons]
  by_cases h:p.1=k
  ·rw[if_pos h]
   by_cases e:p.1=j
   ·rw[getA_pos (p:=(p.1,y)) e,getA_pos e,Option.map_some,if_pos (e.symm.trans h)]
   ·rw[getA_neg (p:=(p.1,y)) e,getA_neg e,ih]
  ·rw[if_neg h]
   by_cases e:p.1=j
   ·rw[getA_pos (p:=p) e,getA_pos e,Option.map_some,if_neg (fun z=>h (e.trans z))]
   ·rw[getA_neg (p:=p) e,getA_neg e,ih]
theorem getA_snoc{k j:α}{y:β}:∀ kvs:List (α×β),getA kvs k=none→getA (kvs++[(k,y)]) j=if j=k then some y else getA kvs j
 | [],_=>by
  by_cases e:k=j
  ·rw[if_pos e.symm];exact getA_pos (p:=(k,y)) e
  ·rw[if_neg (fun z=>e z.symm)];exact getA_neg (p:=(k,y)) e
 | p::r,hn=>by
  rw[List.cons_append]
  have hk:¬ p.1=k:=fun z=>by rw[getA_pos z] at hn;cases hn
  rw[getA_neg hk] at hn
  have ih:=getA_snoc (k:=k) (j:=j) (y:=y) r hn
  by_cases e:p.1=j
  ·rw[getA_pos e,getA_pos e,if_neg (fun z=>hk (e.trans z))]
  ·rw[getA_neg e,getA_neg e,ih]
theorem getA_put(kvs:List (α×β))(k j:α)(y:β):getA (putA kvs k y) j=if j=k then some y else getA kvs j:=by
 unfold putA
 by_cases a:(getA kvs k).isSome=true
 ·rw[if_pos a,getA_map]
  by_cases e:j=k
  ·obtain⟨x,hx⟩:=Option.isSome_iff_exists.mp a
   rw[if_pos e,e,hx,Option.map_some,if_pos rfl]
  ·rw[if_neg e]
   cases getA kvs j with
   | none=>rfl
   | some x=>rw[Option.map_some,if_neg e]
 ·rw[if_neg a]
  refine getA_snoc kvs ?_
  cases q:getA kvs k with
  | none=>rfl
  | some x=>rw[q] at a;exact (a rfl).elim
theorem putA_len(kvs:List (α×β))(k:α)(v:β):(putA kvs k v).length≤kvs.length+1:=by
 unfold putA
 split
 ·rw[List.length_map];omega
 ·rw[List.length_append];simp
end
end L2
namespace VL
open PySem PySem.Spec L2
variable[Tabs]
section
variable{K:W.Frag}{ρ:Sl}{P:Sl→Prop}{g1 g2 g3:TG}{x y z:PyData}
theorem gv_tup2(h:Gv K g1 x ρ fun ρ'=>Gv K g2 y ρ' P):Gv K (gTup K 2 (gCons g1 (gCons g2 gNil))) (.tuple [x,y]) ρ P:=fun H0 σ ts as H v Qg s k=>by
 obtain⟨xs,⟨l,e,h1⟩,h2,s'⟩:=s.items (es:=[x,y]) Kp.d (fun xs=>∃ l,v=.ref l∧SqT K H l xs) (fun G rp sm=>by
  obtain⟨l,xs,e,h3,h4⟩:=Rep.tuple_inv (ds:=[x,y]) rp
  exact⟨xs,⟨l,e,sm.tupS h3⟩,h4⟩) NR.av
 obtain⟨a,b,rfl⟩:=len2 h2
 refine⟨l,[a,b],e,h1,rfl,a,[b],rfl,h H0 σ (b::ts) (.av (.d y)::as) H a _ s' fun ρ' hg σ' H' s2=>?_⟩
 exact⟨b,[],rfl,hg H0 σ' ts as H' b _ s2 fun ρ2 p σ2 H2 s3=>⟨rfl,k ρ2 p σ2 H2 s3⟩⟩
end
section
variable{K:W.Frag}{E:FK}{X:Exc→Sl→Prop}{ρ:Sl}{nx bk ct:Sl→Prop}{rt:TV→Prop}{c:TT}{t u:TS}
end
end VL
end
section
namespace VL
open PySem PySem.Spec L2
variable[Tabs]
section
variable{K:W.Frag}{E:FK}{X:Exc→Sl→Prop}{ρ:Sl}{Q:TV→Prop}{te:TE}
theorem ev_compR{cap:List (Option Nat)}{wi:TI}{g:TG}{tt:TT}(h:Iv K E X wi ρ fun n f _=>n≤1000000∧∃ I:Nat→List AV→Prop,I 0 []∧(∀ i ys,i<n→I i ys→Gv K g (f i) (capV cap ρ) fun ρ'=>Wk ρ' (capV cap ρ)∧Tv K E NE tt ρ' fun b=>if b=true then Ev K E NE te ρ' fun a=>∃ c,a.sto=some c∧I (i+1) (ys++[c]) else I (i+1) ys) ∧
  ∀ ys,I n ys→∃ a,Got (.own ys) a∧Q a):Ev K E X (tComp cap wi g tt te) ρ Q:=fun H0 σ ts as H QV s x k =>
 h H0 σ ts as H _ s x fun n f hd ⟨hn,I,i0,turn,fin⟩ u J H1 nr s1 ok D hD=>by
  have xo:XOk K E NE H1:=XOk.ne (x.t.same s1.same)
  have sD:Same H1 (upd H1 D (.lst [])):=same_new hD
  have st:Stb [TV.av (.d hd.data)]:=Stb.cons Stb.nil
  have start:SR K H1 (capS cap σ) (capV cap ρ) [.ref D,u] [.av (.own []),.av (.d hd.data)] (upd H1 D (.lst [])):=by
   have m:Same H1 (hid (upd H1 D (.lst [])) (fun _=>0) fun b=>if b=D then 1 else 0):=fun b o e=>by
    have hb:b≠D:=ne_of_none e hD
    unfold hid
    simp[hb]
    rw[upd_ne hb]
    exact e
   refine⟨⟨fun _=>0,fun b=>if b=D then 1 else 0,RSl.cap s1 m cap,.cons (.av (.own upd_same (.nil (p:=fun _=>0) fun _=>rfl) (q:=fun b=>if b=D then 1 else 0) fun b=>by simp)) (.cons (.av (.d (p:=fun _=>0) ((s1.top nr).same m) fun _=>rfl)) (.nil (p:=fun _=>0) fun _=>rfl) (r:=fun _=>0) fun b=>by simp) (fun b=>by simp),fun b=>by simp;split<;>omega,fun b z=>?_⟩,sD⟩
   by_cases hb:b=D
   ·rw[hb];exact hD
   ·simp[hb] at z
  refine⟨fun i m σ' H'=>m=n-i∧i≤n∧∃ ys,I i ys∧ys.length≤i∧SR K H1 σ' (capV cap ρ) [.ref D,u] [.av (.own ys),.av (.d hd.data)] H',⟨n,by simp,Nat.zero_le _,[],i0,Nat.le_refl _,start⟩,?_⟩
  rintro i m σ2 H2 ⟨rfl,hi,ys,iy,hly,s2⟩
  by_cases hlt:i<n
  ·obtain⟨g1,g2⟩:=s2.swap.turn ok hlt
   refine .inr ⟨g1,fun σ' H'=>∃ ys,I (i+1) ys∧ys.length≤i+1∧SR K H1 σ' (capV cap ρ) [.ref D,u] [.av (.own ys),.av (.d hd.data)] H',fun σ' H' p=>⟨n-(i+1),by omega,rfl,hlt,p⟩,fun w H3 hw=>?_⟩
   have s3:=g2 w H3 hw
   refine turn i ys hlt iy H1 σ2 _ _ H3 w _ s3 fun ρ4 ⟨wk,tv⟩ σ4 H4 s4=>?_
   refine tv H1 σ4 _ _ H4 _ s4 xo fun b qb H5 s5=>?_
   cases b with
   | true =>
    rw[if_pos rfl] at qb ⊢
    refine qb H1 σ4 _ _ H5 _ s5 xo fun a ⟨c,e2,e1⟩ z H6 s6=>?_
    have s7:=(s6.sto e2)
    have s8:SR K H1 σ4 ρ4 [z,.ref D,u] [.av c,.av (.own ys),.av (.d hd.data)] H6:=by
     obtain⟨⟨p,q,k1,k2,k3,k4⟩,e⟩:=s7
     refine⟨⟨p,q,k1,?_,k3,k4⟩,e⟩
     cases k2 with
     | cons r rs eq=>exact .cons r rs.swap eq
    obtain⟨vs,h1,h2,h3⟩:=s8.snocT st
    refine⟨vs,h1,small6 ?_,ys++[c],e1,by rw[List.length_append];simp;omega,wk _ _ _ _ _ _ h3⟩
    rw[h2]
    omega
   | false =>
    rw[if_neg Bool.false_ne_true] at qb ⊢
    exact⟨ys,qb,by omega,wk _ _ _ _ _ _ s5.swap⟩
  ·have e:i=n:=by omega
   subst e
   obtain⟨a,hg,q⟩:=fin ys iy
   exact .inl ⟨s2.swap.halt NR.av rfl ok (Nat.le_refl _),k _ q _ _ (s1.pop.gotG s2.rs hg)⟩
theorem compR_L{α:Type}{cap:List (Option Nat)}{g:TG}{tt:TT}{ti:TE}(h:Ev K E X ti ρ fun a=>∃ (xs:List α) (e:α→PyData) (I:Nat→List AV→Prop),(a.data=.list (xs.map e)∨a.data=.tuple (xs.map e))∧NR a∧xs.length≤1000000∧I 0 [] ∧
  (∀ i ys (hi:i<xs.length),I i ys→Gv K g (e xs[i]) (capV cap ρ) fun ρ'=>Wk ρ' (capV cap ρ)∧Tv K E NE tt ρ' fun b=>if b=true then Ev K E NE te ρ' fun a=>∃ c,a.sto=some c∧I (i+1) (ys++[c]) else I (i+1) ys) ∧
  ∀ ys,I xs.length ys→∃ a,Got (.own ys) a∧Q a):Ev K E X (tComp cap (iSeq K ti) g tt te) ρ Q :=
 ev_compR (iv_seq (ev_imp h (fun a hh=>by
  obtain⟨xs,e,I,ha,na,hl,i0,turn,fin⟩:=hh
  exact⟨xs.map e,ha,na,by rw[List.length_map];exact hl,I,i0,fun i ys hi iy=>by
  rw[List.length_map] at hi
  show Gv K g ((xs.map e).getD i .none) _ _
  rw[getD_map hi]
  exact turn i ys hi iy,fun ys iy=>fin ys (by rw[List.length_map] at iy;exact iy)⟩)))
theorem compR_R{cap:List (Option Nat)}{A:TA}{g:TG}{tt:TT}(h:Ea K E X A ρ fun bs=>∃ (j:Int) (I:Nat→List AV→Prop),bs=[.av (.d (.int j))]∧(-(2 ^ 62)≤j∧j≤1000000)∧I 0 [] ∧
  (∀ (i:Nat) ys,i<j.toNat→I i ys→Gv K g (.int i) (capV cap ρ) fun ρ'=>Wk ρ' (capV cap ρ)∧Tv K E NE tt ρ' fun b=>if b=true then Ev K E NE te ρ' fun a=>∃ c,a.sto=some c∧I (i+1) (ys++[c]) else I (i+1) ys) ∧
  ∀ ys,I j.toNat ys→∃ a,Got (.own ys) a∧Q a):Ev K E X (tComp cap (iRng1 A) g tt te) ρ Q :=
 ev_compR (iv_rng1 fun H0 σ ts as H QV s x k=>h H0 σ ts as H QV s x (fun bs hh=>by
  obtain⟨j,I,e,hj,i0,turn,fin⟩:=hh
  exact k bs ⟨j,e,⟨hj.1,by omega⟩,by omega,I,i0,fun i ys hi iy H0 σ ts as H v Qg s k=>by
  have s:SR K H0 σ (capV cap ρ) (v::ts) (.av (.d (.int (0+(i:Int))))::as) H:=s
  rw[Int.zero_add] at s
  exact turn i ys hi iy H0 σ ts as H v Qg s k,fin⟩))
theorem tv_allc{ρ:Sl}{B C:Prop}(h:B):Tv K E NE tAll ρ fun b=>if b=true then B else C:=tv_all (by rw[if_pos rfl];exact h)
end
end VL
end
section
namespace VL
open PySem PySem.Spec L2
variable[Tabs]
section
variable{K:W.Frag}{E:FK}{X:Exc→Sl→Prop}{ρ:Sl}{Q:TV→Prop}{te:TE}
theorem it_enum{l:Addr}{ds:List PyData}:ItOk K (Ite K l) (.ref l) (.list ds) ds.length fun i=>.tuple [.int i,ds.getD i .none]:=by
 intro G H sm rp
 obtain⟨l',ys,e',h3,h4⟩:=rp.list_inv
 cases e'
 have h5:=sm.seq h3
 refine⟨fun i hi=>?_,fun i hi=>⟨ys,h5,by rw[h4.length];exact hi⟩⟩
 obtain⟨w,h6,h7⟩:=h4.get (i:=i) (d:=ds.getD i .none) (by rw[List.getD_eq_getElem?_getD,List.getElem?_eq_getElem hi];rfl)
 refine⟨⟨ys,w,h5,h6⟩,fun x H' ⟨p,x0,hp,e1,e2,e3⟩=>?_⟩
 subst e1 e2
 have:=e3 ys h5
 rw[h6] at this
 cases this
 exact⟨same_new hp,fun G' m k=>.tup (k p _ upd_same hp) (.cons (.int i) (.cons (h7.same m) .nil))⟩
theorem iv_enum{A:TA}{P:Nat→(Nat→PyData)→TV→Prop}(h:Ea K E X A ρ fun bs=>∃ a ds,bs=[a]∧a.data=.list ds∧NR a∧P ds.length (fun i=>.tuple [.int i,ds.getD i .none]) a.frz):Iv K E X (iEnum K A) ρ P:=fun H0 σ ts as H R s x k =>
 h H0 σ ts as H _ s x fun bs ⟨a,ds,eb,e,na,q⟩ vs H' s' hl=>by
  subst eb
  obtain⟨v,rfl,s'⟩:=one_of s' hl
  have rp:=s'.top na
  rw[e] at rp
  obtain⟨l,xs,rfl,h1,h2⟩:=rp.list_inv
  refine⟨l,rfl,⟨xs,h1⟩,k _ _ _ q (.ref l) _ H' (TV.frz_nr na) s'.frzV ?_⟩
  rw[TV.frz_data,e]
  exact it_enum
theorem for_E{α:Type}{nx bk ct:Sl→Prop}{rt:TV→Prop}{A:TA}{g:TG}{tb:TS}(h:Ea K E X A ρ fun bs=>∃ (a:TV) (xs:List α) (e:α→PyData),bs=[a]∧a.data=.list (xs.map e)∧(∃ c,a=.av c)∧∃ Iw:Nat→Sl→Prop,Iw 0 ρ∧(∀ i ρ' (hi:i<xs.length),Iw i ρ'→Gv K g (.tuple [.int i,e xs[i]]) ρ' fun ρ''=>Sv K E X tb ρ'' ⟨Iw (i+1),rt,nx,Iw (i+1)⟩)∧∀ ρ',Iw xs.length ρ'→nx ρ'):Sv K E X (tFor (iEnum K A) g tb) ρ ⟨nx,rt,bk,ct⟩ :=
 sv_for (iv_enum fun H0 σ ts as H QV s x k=>h H0 σ ts as H QV s x fun bs ⟨a,xs,e,eb,ha,⟨c,hc⟩,Iw,i0,turn,fin⟩=>k bs ⟨a,xs.map e,eb,ha,by subst hc;exact NR.av,⟨c.data,by rw[hc];rfl⟩,Iw,i0,fun i ρ' hi w=>by
  rw[List.length_map] at hi
  show Gv K g (.tuple [.int i,(xs.map e).getD i .none]) ρ' _
  rw[getD_map hi]
  exact turn i ρ' hi w,fun ρ' w=>fin ρ' (by rw[List.length_map] at w;exact w)⟩)
end
end VL
end
section
namespace L2
open PySem PySem.Spec PyProof.Rows
section
variable{prog:Program}{w:World}{A:Around}{s:Shared}{R:Result→Shared→Prop}{I:Addr}{fp wr:List Addr}{G:Array GenState→Array GenState→Prop}{n:Nat}{P:Nat→Value→Prop}{St:Nat→Shared→Prop}
end
end L2
end
section
namespace L2
open PySem PySem.Spec PyProof.Rows
section
variable{prog:Program}{w:World}{A:Around}{E:Value→Shared→Prop}{s:Shared}
end
end L2
end
section
namespace L2
open PySem PySem.Spec PyProof.Rows
end L2
namespace VL
open PySem PySem.Spec L2
variable[Tabs]
section
variable{K:W.Frag}{E:FK}{X:Exc→Sl→Prop}{ρ:Sl}{Q:TV→Prop}{te:TE}
end
end VL
end
section
namespace L2
open PySem PySem.Spec PySem.Calls PyProof.Rows PySem.W
theorem attach_callB{l:OpenLaw}{n:Nat}{q:Program}{loose:List Str}{XP:(Str→Option Value)→Heap→Prop}{YP:World→Heap→Prop}{d:DefRec}
  (hn:l.most=some n) (hdf:d.params.defaults=[])
  (call:∀ (w:World) (s₀ s₁:Shared) (mg mb:Str→Option Value) (fa:Addr) (o:Obj) (pm cd doc:Value) (a:Addr) (vs:List Value) (ns:List Int),
   Ground q loose [] XP w s₀ mg mb s₁.heap→YP w s₁.heap →
   s₁.heap.get? fa=some o→o.data=.func (docDef d.name d.params d.body d.scope pm cd doc)→s₁.heap.CodeRec cd d.name→mg d.name=some (.ref fa) →
   s₁.heap.get? a=some { cls:=.type "list",data:=.seq vs.toArray }→IntsAre vs ns→ns.length≤n→s₁.gens=#[]→(∀ x∈ns,Builtin.Int.intBits x≤2 ^ 20) →
   codeAny (model l.prog w) callerA (.call (.ref fa) ⟨[.ref a],[]⟩) (fun r s'=>r=.ok (.ret (.bool true))∧OldK s₁.heap s'.heap∧s'.os=s₁.os∧AllBare s'.gens) s₁) :
  WalkO q loose XP YP l.row.toRowW d [] (fun f vs=>PySem.call f vs):=by
 intro w s₀ s₁ mg mb G Y fa o pm cd doc dV kV ho hd hcd hD hmg hg args vals as hpre hlay hrd hwl hlo
 obtain rfl:dV=.none:=Dflts.none hD hdf
 obtain rfl:kV=.none:=Dflts.noKw hD
 obtain⟨a,vs,ns,rfl,rfl,hobj,hints,hlen⟩:=Att.script_of hn hpre hwl
 refine enter_call (codeAny_mono (call w s₀ s₁ mg mb fa o pm cd doc a vs ns G Y ho (fd_plain hd) hcd hmg hobj hints hlen hg ?_) fun r s' hq=>?_)
 ·intro x hx
  have h1:=(layW_cons hlay).1
  have h2:=layableW_item h1 (.int x) (List.mem_map.mpr ⟨x,hx,rfl⟩)
  exact PyData.bits_of_layable (PyData.layable0_of (fun _=>rfl) (layable_int h2))
 obtain⟨rfl,h2,h3,h4⟩:=hq
 exact⟨.inl ⟨.bool true,.bool true,[],rfl,fun _=>rfl,.bool true,Att.post_true l _,fun _=>⟨List.Pairwise.nil,fun _ hm=>(nomatch hm)⟩⟩,h2,h3,h4⟩
end L2
namespace VL
open PySem PySem.Spec PyProof.Rows L2
variable[Tabs]
variable{P:Program}{w:World}{K:W.Frag}{mg:Str→Option Value}{base:Heap}{CX:CXT}{x qual:Str}{st:Stmt}{N ps:List Str}{k:Nat}
end VL
end
section
namespace L2
open PySem PySem.Spec PyProof.Rows
open Classical
noncomputable def lend(C:Addr→Prop)(h:Heap)(H:Hp):Hp:=fun b=>if C b then (h.get? b).map (fun o=>HO.frz o (.own b)) else H b
noncomputable def unl(C:Addr→Prop)(H:Hp):Hp:=fun b=>if C b then none else H b
noncomputable def rel(C:Addr→Prop)(H H':Hp):Hp:=fun b=>if C b then H b else H' b
structure LendOk(C:Addr→Prop)(h:Heap)(H:Hp):Prop where
 no:∀ b,C b→H b=none
 obj:∀ b,C b→∃ o,h.get? b=some o
section
variable{C:Addr→Prop}{P:Program}{w:World}{H H':Hp}{h h':Heap}{fs ex:List Addr}{b:Addr}
theorem lend_ne(hb:¬ C b):lend C h H b=H b:=if_neg hb
theorem lend_at(L:LendOk C h H)(hb:C b):∃ o,h.get? b=some o∧lend C h H b=some (.frz o (.own b)):=by
 obtain⟨o,e⟩:=L.obj b hb
 exact⟨o,e,by unfold lend;rw[if_pos hb,e];rfl⟩
theorem lend_of{o:HO}(L:LendOk C h H)(e:H b=some o):lend C h H b=some o:=by
 have hb:¬ C b:=fun z=>by rw[L.no b z] at e;cases e
 rw[lend_ne hb];exact e
theorem lend_same(L:LendOk C h H):Same H (lend C h H):=fun b o e=>lend_of L e
theorem lend_hok(L:LendOk C h H)(ok:HOk P w H h):HOk P w (lend C h H) h:=fun a o e=>by
 by_cases ha:C a
 ·obtain⟨ob,e1,e2⟩:=lend_at L ha
  rw[e2] at e
  cases e
  exact⟨e1,ob,e1⟩
 ·rw[lend_ne ha] at e
  exact (ok a o e).stay (fun _ _ _ q=>q) (fun _ q=>lend_of L q) (fun _ _ q=>lend_of L q) fun _ _ q=>lend_of L q
theorem unl_ne(hb:¬ C b):unl C H b=H b:=if_neg hb
theorem unl_at(hb:C b):unl C H b=none:=if_pos hb
theorem lent_obj(L:LendOk C h H)(un:Un fs ex (lend C h H) H' h h')(hb:C b):∃ o,h.get? b=some o∧H' b=some (.frz o (.own b)):=by
 obtain⟨o,e1,e2⟩:=lend_at L hb
 exact⟨o,e1,un.frzs b o _ e2⟩
theorem unl_un(L:LendOk C h H)(un:Un fs ex (lend C h H) H' h h')(hok:HOk P w H' h')(hfs:∀ b,C b→b∉fs):Un fs ex H (unl C H') h h' where
 keep:=fun b o e n hb hx=>by
  by_cases hc:C b
  ·obtain⟨o',e1,e2⟩:=lent_obj L un hc
   rw[e] at e1;cases e1
   exact (hok b _ e2).1
  ·exact un.keep b o e (by rw[lend_ne hc];exact n) hb hx
 slot:=fun b o e n hb hx=>un.slot b o e (by rw[lend_ne fun hc=>hfs b hc hb];exact n) hb hx
 free:=fun b o e n hx=>by
  by_cases hc:C b
  ·exact unl_at hc
  ·rw[unl_ne hc]
   exact un.free b o e (by rw[lend_ne hc];exact n) hx
 there:=un.there
 tups:=fun b xs e=>by
  have hc:¬ C b:=fun z=>by rw[L.no b z] at e;cases e
  rw[unl_ne hc]
  exact un.tups b xs (lend_of L e)
 frzs:=fun b o u e=>by
  have hc:¬ C b:=fun z=>by rw[L.no b z] at e;cases e
  rw[unl_ne hc]
  exact un.frzs b o u (lend_of L e)
 tbls:=fun b ps e=>by
  have hc:¬ C b:=fun z=>by rw[L.no b z] at e;cases e
  rw[unl_ne hc]
  exact un.tbls b ps (lend_of L e)
theorem unl_hok(L:LendOk C h H)(un:Un fs ex (lend C h H) H' h h')(hok:HOk P w H' h'):HOk P w (unl C H') h':=fun a o e=>by
 have ha:¬ C a:=fun z=>by rw[unl_at z] at e;cases e
 rw[unl_ne ha] at e
 have nc:∀ {b:Addr} {u:HO},H' b=some u→(∀ o,u≠.frz o (.own b))→unl C H' b=some u:=fun {b u} q n=>by
  have hc:¬ C b:=fun z=>by
   obtain⟨o',_,e2⟩:=lent_obj L un z
   rw[q] at e2
   cases e2
   exact n _ rfl
  rw[unl_ne hc];exact q
 refine (hok a o e).stay (fun _ _ _ q=>q) (fun b q=>nc q fun o z=>by cases z) (fun b xs q=>nc q fun o z=>by cases z) fun b ob q=>?_
 have hc:¬ C b:=fun z=>by
  obtain⟨o',_,e2⟩:=lent_obj L un z
  rw[q] at e2
  cases e2
  exact ha z
 rw[unl_ne hc];exact q
theorem rel_at(hb:C b):rel C H H' b=H b:=if_pos hb
theorem rel_ne(hb:¬ C b):rel C H H' b=H' b:=if_neg hb
theorem drop_same(hC:∀ b,C b→∃ o,H b=some (.frz o (.own b))){o:HO}(e:H b=some o)(n:∀ ob,o≠.frz ob (.own b)):unl C H b=some o:=by
 have hc:¬ C b:=fun z=>by obtain⟨o',e2⟩:=hC b z;rw[e] at e2;cases e2;exact n _ rfl
 rw[unl_ne hc];exact e
theorem drop_hok(hC:∀ b,C b→∃ o,H b=some (.frz o (.own b)))(hok:HOk P w H h):HOk P w (unl C H) h:=fun a o e=>by
 have ha:¬ C a:=fun z=>by rw[unl_at z] at e;cases e
 rw[unl_ne ha] at e
 refine (hok a o e).stay (fun _ _ _ q=>q) (fun b q=>drop_same hC q fun o z=>by cases z) (fun b xs q=>drop_same hC q fun o z=>by cases z) fun b ob q=>?_
 have hc:¬ C b:=fun z=>by
  obtain⟨o',e2⟩:=hC b z
  rw[q] at e2
  cases e2
  exact ha z
 rw[unl_ne hc];exact q
theorem rel_un(hC:∀ b,C b→∃ o,H b=some (.frz o (.own b)))(hok0:HOk P w H h)(un:Un fs ex (unl C H) H' h h')(hfs:∀ b,C b→b∉fs∧b∉ex):Un fs ex H (rel C H H') h h' where
 keep:=fun b o e n hb hx=>by
  have hc:¬ C b:=fun z=>by obtain⟨o',e2⟩:=hC b z;rw[n] at e2;cases e2
  exact un.keep b o e (by rw[unl_ne hc];exact n) hb hx
 slot:=fun b o e n hb hx=>un.slot b o e (by rw[unl_ne fun hc=>(hfs b hc).1 hb];exact n) hb hx
 free:=fun b o e n hx=>by
  have hc:¬ C b:=fun z=>by obtain⟨o',e2⟩:=hC b z;rw[n] at e2;cases e2
  rw[rel_ne hc]
  exact un.free b o e (by rw[unl_ne hc];exact n) hx
 there:=un.there
 tups:=fun b xs e=>by
  by_cases hc:C b
  ·rw[rel_at hc];exact e
  ·rw[rel_ne hc];exact un.tups b xs (by rw[unl_ne hc];exact e)
 frzs:=fun b o u e=>by
  by_cases hc:C b
  ·rw[rel_at hc];exact e
  ·rw[rel_ne hc];exact un.frzs b o u (by rw[unl_ne hc];exact e)
 tbls:=fun b ps e=>by
  have hc:¬ C b:=fun z=>by obtain⟨o',e2⟩:=hC b z;rw[e] at e2;cases e2
  rw[rel_ne hc];exact un.tbls b ps (by rw[unl_ne hc];exact e)
theorem rel_no(hC:∀ b,C b→∃ o,H b=some (.frz o (.own b)))(hok0:HOk P w H h)(un:Un fs ex (unl C H) H' h h')(hfs:∀ b,C b→b∉fs∧b∉ex)(hb:C b):H' b=none:=by
 obtain⟨o,e⟩:=hC b hb
 exact un.free b o (hok0 b _ e).1 (unl_at hb) (hfs b hb).2
theorem rel_hok(hC:∀ b,C b→∃ o,H b=some (.frz o (.own b)))(hok0:HOk P w H h)(un:Un fs ex (unl C H) H' h h')(hfs:∀ b,C b→b∉fs∧b∉ex)(hok:HOk P w H' h'):HOk P w (rel C H H') h':=fun a o e=>by
 by_cases ha:C a
 ·rw[rel_at ha] at e
  obtain⟨ob,e2⟩:=hC a ha
  rw[e2] at e
  cases e
  have:=un.keep a ob (hok0 a _ e2).1 (unl_at ha) (hfs a ha).1 (hfs a ha).2
  exact⟨this,ob,this⟩
 ·rw[rel_ne ha] at e
  have nc:∀ {b:Addr} {u:HO},H' b=some u→rel C H H' b=some u:=fun {b u} q=>by
   have hc:¬ C b:=fun z=>by rw[rel_no hC hok0 un hfs z] at q;cases q
   rw[rel_ne hc];exact q
  exact (hok a o e).stay (fun _ _ _ q=>q) (fun b q=>nc q) (fun b xs q=>nc q) fun b ob q=>nc q
end
structure CloOk(P:Program)(w:World)(K:W.Frag)(mg:Str→Option Value)(base:Heap)(CX:CXT)(k:Nat)(sp:Sp)(v:V)(G:Hp):Prop where
 at':∃ f fo fd,v=.ref f∧G f=some (.frz fo (.own f))∧fo.data=.func fd
 run:∀ f,v=.ref f→∀ (A:Around) (outer:List Env) (s:Shared) (H:Hp) (us:List Value) (vs:List V) (Q:VK) (E:XK),Room k A→Env0 P w K mg base A outer s H→Same G H→Vals vs us→sp vs H Q E →
  codeAny (model P w) A (.call (.ref f) ⟨us,[]⟩) (CR CX outer P w H s Q E) s
theorem CloOk.same{P:Program}{w:World}{K:W.Frag}{mg:Str→Option Value}{base:Heap}{CX:CXT}{k:Nat}{sp:Sp}{v:V}{G G':Hp}(c:CloOk P w K mg base CX k sp v G)(m:Same G G'):CloOk P w K mg base CX k sp v G' :=
 ⟨let ⟨f,fo,fd,e,h,d⟩:=c.at';⟨f,fo,fd,e,m _ _ h,d⟩,fun f e A outer s H us vs Q E hr e0 mm=>c.run f e A outer s H us vs Q E hr e0 (m.trans mm)⟩
section
variable{X:Cx}{CX:CXT}{k:Nat}{sp:Sp}{E:XK}{x:Str}{p pos:Pos}{e:Expr}{es:List Expr}{t:TA}{i:Nat}
theorem run_clo{pins:List (Addr×Obj)}{σ:St}{H:Hp}{s:Shared}{Q:VK}{us:List Value}{vs:List V}{f:Addr}(c:CloOk X.prog X.w X.K X.mg X.base CX k sp (.ref f) H)(hr:Room k X.A)(hx:Passes CX X E)
  (I:Inv X pins σ H s) (r:Vals vs us) (h:sp vs H Q E):wpAny (model X.prog X.w) X.A (call (.ref f) us) (EP X pins σ Q) X.xe s:=by
 refine wpAny_call (codeAny_mono (c.run f rfl X.A X.stack s H us vs Q E hr I.env0 (.refl H) r h) fun r s' hq=>?_)
 cases r with
 | error e=>exact hx pins σ H s e s' I hq
 | ok fl =>
  cases fl with
  | ret u=>exact I.after hq
  | next=>exact False.elim hq
  | brk=>exact False.elim hq
  | cont=>exact False.elim hq
noncomputable def tCallV(P:Program)(w:World)(K:W.Frag)(mg:Str→Option Value)(base:Heap)(CX:CXT)(k:Nat)(i:Nat)(E:XK)(t:TA):TE:=fun σ H Q =>
 ∃ v sp,σ[i]?=some (some v)∧CloOk P w K mg base CX k sp v H∧t σ H fun vs H1=>CloOk P w K mg base CX k sp v H1∧sp vs H1 Q E
theorem fnAt_of{pins:List (Addr×Obj)}{σ:St}{H:Hp}{s:Shared}{f:Addr}{fo:Obj}{fd:FuncData}(I:Inv X pins σ H s)(h:H f=some (.frz fo (.own f)))(d:fo.data=.func fd):PySem.W.FnAt f s.heap:=by
 have e:=(I.hok f _ h).1
 obtain⟨oc,od,dt,sl⟩:=fo
 cases (show dt=_ from d)
 exact⟨oc,od,fd,sl,e⟩
theorem pe_callV(hr:Room k X.A)(hx:Passes CX X E)(ha:PA X (e::es) t)(hN:X.N[i]?=some x:=by rfl)(hv:Vis X.env.scope x:=by first|exact Or.inl rfl|exact Or.inr (Or.inl rfl)|exact Or.inr (Or.inr rfl))
  (hd:(x == ("__debug__" : Str))=false:=by decide) (hcd:(x == ("__classdict__" : Str))=false:=by decide)
  (he:starEach (e::es) X.env=(false,eval e X.env)::starEach es X.env:=by rfl) (hpl:(backTo pos (starEach es X.env)).any (·.1)=false:=by rfl) :
  PE X (.Call (.Name x p) (e::es) [] pos) (tCallV X.prog X.w X.K X.mg X.base CX k i E t):=by
 intro pins s σ H Q I ⟨v,sp,hσ,c,h⟩
 refine wpAny_Call_Name_kw (thn (pe_var (pos:=p) hN hv hd hcd pins s σ H (fun v' H'=>v'=v∧H'=H) I ⟨v,hσ,rfl,rfl⟩) fun u s0 ⟨v',H',I0,r0,ev,eH⟩=>?_)
 subst ev eH
 obtain⟨f,fo,fd,e1,e2,e3⟩:=c.at'
 subst e1
 obtain rfl:u=Value.ref f:=r0
 refine PySem.W.callWith_F (fnAt_of I0 e2 e3) (thn (ha pos pins s0 σ H' _ I0 h) fun us s1 ⟨vs,H1,I1,r,c1,q⟩=>?_) he hpl
 obtain⟨f',fo',fd',e1',e2',e3'⟩:=c1.at'
 cases e1'
 exact⟨fnAt_of I1 e2' e3',run_clo c1 hr hx I1 r q⟩
end
noncomputable def Own(X:Cx)(b:Addr):Prop:=∃ x,X.fn x=true∧X.env.cells.lookup x=some b
structure Lent(X:Cx)(σ:St)(H H2:Hp):Prop where
 same:Same H H2
 cell:∀ (i:Nat) (x:Str) (c:Addr) (v:V),X.N[i]?=some x→X.fn x=true→X.env.scope.names.lookup x=some .cell→X.env.cells.lookup x=some c→σ[i]?=some (some v)→∃ o u,H2 c=some (.frz o (.own c))∧o.data=.cell (some u)∧RelV v u
 out:∀ b,¬ Own X b→H2 b=H b
 own:∀ b,Own X b→H b=none∧∃ o v,H2 b=some (.frz o (.own b))∧o.data=.cell v
section
variable{X:Cx}{pins:List (Addr×Obj)}{σ:St}{H:Hp}{s:Shared}
theorem Inv.lendOk(I:Inv X pins σ H s):LendOk (Own X) s.heap H :=
 ⟨fun b ⟨x,_,e⟩=>I.freeC x b e,fun b ⟨x,_,e⟩=>let ⟨_,o,h,_⟩:=I.cell x b e;⟨o,h⟩⟩
theorem Inv.own_low(I:Inv X pins σ H s){b:Addr}(h:Own X b):X.s₀.heap.objs.size≤b:=let ⟨x,hf,e⟩:=h;I.ok.cab x b hf e
theorem Inv.own_fs(I:Inv X pins σ H s){b:Addr}(h:Own X b):b∉frs X.stack:=fun hb=>by
 rcases List.mem_cons.mp (I.stkSub b hb) with e|hb
 ·obtain⟨x,_,q⟩:=h
  exact I.cne x b q e
 ·obtain⟨_,o,ho,_⟩:=I.ok.funs.mem hb
  exact absurd (Nat.lt_of_lt_of_le (Heap.lt_size ho) (I.own_low h)) (Nat.lt_irrefl _)
theorem Inv.env0L(I:Inv X pins σ H s):Env0 X.prog X.w X.K X.mg X.base X.A X.stack s (lend (Own X) s.heap H):=by
 have e:=I.env0
 refine⟨e.frames,e.mod,fun b o q=>⟨(e.bs b o q).1,?_⟩,e.bsz,e.funs,fun b hb=>?_,lend_hok I.lendOk e.hok,e.bare⟩
 ·rw[lend_ne]
  ·exact (e.bs b o q).2
  ·intro h
   exact absurd (Nat.lt_of_lt_of_le (Heap.lt_size q) (Nat.le_trans I.ok.bsz (I.own_low h))) (Nat.lt_irrefl _)
 ·rw[lend_ne fun h=>I.own_fs h hb]
  exact e.frf b hb
theorem Inv.lent(I:Inv X pins σ H s):Lent X σ H (lend (Own X) s.heap H):=by
 refine⟨lend_same I.lendOk,fun i x c v hN hf hk hc hσ=>?_,fun b h=>lend_ne h,fun b h=>⟨I.lendOk.no b h,?_⟩⟩
 ·obtain⟨m,hn,hl⟩:=I.loc
  obtain⟨u,r,l⟩:=hl i x v hN hσ (.inr (.inl hk))
  obtain⟨o,e1,e2⟩:=lend_at I.lendOk (b:=c) ⟨x,hf,hc⟩
  rcases l with⟨hl,_⟩|⟨_,c',hc',ob,e3,e4⟩
  ·have hl:X.env.scope.names.lookup x=some .local:=hl
   rw[hk] at hl
   cases hl
  ·rw[hc] at hc'
   cases hc'
   rw[e1] at e3
   cases e3
   exact⟨o,u,e2,e4,r⟩
 ·obtain⟨o,e1,e2⟩:=lend_at I.lendOk h
  obtain⟨x,_,hc⟩:=h
  obtain⟨v,ob,e3,e4⟩:=I.cell x b hc
  rw[e1] at e3
  cases e3
  exact⟨o,v,e2,e4⟩
end
noncomputable def tCallL(X:Cx)(sp:Sp)(dvs:List V)(E:XK)(t:TA):TE:=fun σ H Q=>t σ H fun vs H1=>∀ H2,Lent X σ H1 H2→sp (vs++dvs) H2 (fun v H3=>Q v (unl (Own X) H3)) E
noncomputable def PassesL(CX:CXT)(X:Cx)(E:XK):Prop:=∀ (pins:List (Addr×Obj)) (σ:St) (H:Hp) (s:Shared) (e:Value) (s':Shared),Inv X pins σ H s→CX X.stack (lend (Own X) s.heap H) s E e s'→X.xe e s'
section
variable{X:Cx}{CX:CXT}{k:Nat}{f:Addr}{fd:FuncData}{ps:List Str}{sp:Sp}{dvs:List V}{ds:List Value}{E:XK}{x:Str}{p pos:Pos}{e:Expr}{es:List Expr}{t:TA}
theorem run_fnL{pins:List (Addr×Obj)}{σ:St}{H:Hp}{s:Shared}{Q:VK}{us:List Value}{vs:List V}(F:FnOk X.prog X.w X.K X.mg X.base CX k f fd ps sp)(hr:Room k X.A)(hb:Binds X.K fd ps ds)(hd:Vals dvs ds)(hx:PassesL CX X E)
  (I:Inv X pins σ H s) (r:Vals vs us) (h:∀ H2,Lent X σ H H2→sp (vs++dvs) H2 (fun v H3=>Q v (unl (Own X) H3)) E):wpAny (model X.prog X.w) X.A (call (.ref f) us) (EP X pins σ Q) X.xe s:=by
 have r2:Vals (vs++dvs) (us++ds):=r.append hd
 have h:=h _ I.lent
 have hl:(us++ds).length=ps.length:=by rw[← r2.length];exact F.len _ _ _ _ h
 refine wpAny_call (codeAny_mono (F.run X.A X.stack s _ ⟨us,[]⟩ (us++ds) (vs++dvs) _ E hr I.env0L (hb s us I.kIn hl) r2 h) fun r s' hq=>?_)
 cases r with
 | error e=>exact hx pins σ H s e s' I hq
 | ok fl =>
  cases fl with
  | ret u =>
   obtain⟨v,H',os,bare,un,hok,r,q⟩:=hq
   exact I.after ⟨v,unl (Own X) H',os,bare,unl_un I.lendOk un hok fun b hb=>I.own_fs hb,unl_hok I.lendOk un hok,r,q⟩
  | next=>exact False.elim hq
  | brk=>exact False.elim hq
  | cont=>exact False.elim hq
theorem pe_calL(c:Cal X.prog X.w X.K X.mg X.base CX k x ps dvs sp)(hr:Room k X.A)(hg:Gl X x)(hx:PassesL CX X E)(ha:PA X (e::es) t)(hdb:(x == ("__debug__" : Str))=false:=by decide)
  (he:starEach (e::es) X.env=(false,eval e X.env)::starEach es X.env:=by rfl) (hpl:(backTo pos (starEach es X.env)).any (·.1)=false:=by rfl) :
  PE X (.Call (.Name x p) (e::es) [] pos) (tCallL X sp dvs E t):=by
 obtain⟨f,fd,ds,h1,h2,h3,h4,h5⟩:=c.ex
 intro pins s σ H Q I h
 refine wpAny_Call_Name_kw (ld_glob I hg h2 ?_ hdb)
 refine PySem.W.callWith_K (h₀:=X.base) I.ok.mod.kin h3 (thn (ha pos pins s σ H _ I h) fun us s1 ⟨vs,H1,I1,r,q⟩=>⟨I1.kIn,?_⟩) he hpl
 exact run_fnL h1 hr h4 h5 hx I1 r q
end
end L2
end
section
namespace L2
open PySem PySem.Spec PyProof.Rows
theorem codeAmong_app{pos:Pos}{a b:Nat}{c cv:Value}(l:List Value)(h:TriplesOk l)(hc:codeAmong pos (l++[rawInt a,rawInt b,c])=some cv):codeAmong pos l=some cv∨(pos.line=a∧pos.col=b∧cv=c):=by
 fun_induction TriplesOk l with
 | case1 =>
  simp only[List.nil_append,rawInt,codeAmong] at hc
  split at hc
  ·rename_i hq
   simp only[Bool.and_eq_true,beq_iff_eq] at hq
   exact .inr ⟨by omega,by omega,(Option.some.inj hc).symm⟩
  ·cases hc
 | case2 a' t b' u x rest ih =>
  simp only[List.cons_append,codeAmong] at hc ⊢
  split at hc
  ·rename_i hq;rw[if_pos hq];exact .inl hc
  ·rename_i hq;rw[if_neg hq];exact ih h hc
 | case3 l h1 h2=>exact h.elim
noncomputable def Made(name qual:Str)(params:Arguments)(body:List Stmt)(scope:Scope)(cl:List (Str×Addr))(P:Addr)(H H':Hp)(f:Addr):Prop :=
 ∃ (c:Addr) (co:Obj) (doc pm ctv:Value),CodeO co qual∧(H c=none∨H c=some (.frz co (.own P)))∧c≠f∧H f=none∧H'=upd (upd H c (.frz co (.own P))) f (.frz (PySem.W.fnMade name qual params body scope cl doc pm c ctv) (.own f))
theorem upd_id{H:Hp}{c:Addr}{o:HO}(h:H c=some o):upd H c o=H:=by
 funext b
 by_cases e:b=c
 ·rw[e,upd_same,h]
 ·rw[upd_ne e]
theorem Made.same{name qual:Str}{params:Arguments}{body:List Stmt}{scope:Scope}{cl:List (Str×Addr)}{P f:Addr}{H H':Hp}(m:Made name qual params body scope cl P H H' f):Same H H':=by
 obtain⟨c,co,doc,pm,ctv,_,hc,hne,hf,rfl⟩:=m
 intro b o e
 rw[upd_ne (ne_of_none e hf)]
 by_cases hb:b=c
 ·subst hb
  rcases hc with z|z
  ·rw[z] at e;cases e
  ·rw[upd_same,← z,e]
 ·rw[upd_ne hb];exact e
structure Clos(X:Cx)(scope:Scope)(cl:List (Str×Addr)):Prop where
 le:∀ x c,cl.lookup x=some c→X.env.cells.lookup x=some c
 has:∀ x,(x,NameKind.free)∈scope.names→∃ c,cl.lookup x=some c
 inj:∀ x y c,cl.lookup x=some c→cl.lookup y=some c→x=y
noncomputable def tDef(X:Cx)(name qual:Str)(params:Arguments)(body:List Stmt)(scope:Scope)(P:Addr)(pos:Pos)(i:Nat):TS:=fun D σ H =>
 ∃ q,H P=some (.tbq q)∧q pos.line pos.col=qual∧∀ cl f H',Clos X scope cl→Made name qual params body scope cl P H H' f→D.nx (σ.set i (some (.ref f))) H'
section
variable{X:Cx}{pins:List (Addr×Obj)}{σ:St}{H:Hp}{s:Shared}
theorem Inv.fnMade{P c:Addr}{q:Nat→Nat→Str}{ps:Array Value}{co fo:Obj}{h':Heap}{t':Nat}{pos:Pos}(I:Inv X pins σ H s)(hP:H P=some (.tbq q))(hPs:s.heap.get? P=some (PySem.W.tabObj ps))(ht:TriplesOk ps.toList)
  (hall:∀ pos cv,codeAmong pos ps.toList=some cv→∃ c o,cv=.ref c∧H c=some (.frz o (.own P))∧CodeO o (q pos.line pos.col))
  (hx:Heap.ExtBut P s.heap h') (hge:s.heap.objs.size≤c) (hlt:c<h'.objs.size) (hco:h'.get? c=some co) (hq:CodeO co (q pos.line pos.col)) (htb:h'.get? P=some (PySem.W.tabObj (ps++#[rawInt pos.line,rawInt pos.col,.ref c]))) (hfo:fo.isFreed=false) :
  Inv X pins σ (upd (upd H c (.frz co (.own P))) h'.objs.size (.frz fo (.own h'.objs.size))) { s with heap:=h'.push fo,toks:=t' }:=by
 have hc0:H c=none:=I.hok.fresh hge
 have hsz:s.heap.objs.size≤h'.objs.size:=Nat.le_trans hge (Nat.le_of_lt hlt)
 have hf0:H h'.objs.size=none:=I.hok.fresh hsz
 have hcP:c≠P:=fun z=>by rw[z,hP] at hc0;cases hc0
 have hfP:h'.objs.size≠P:=fun z=>by rw[z,hP] at hf0;cases hf0
 have hcf:c≠h'.objs.size:=Nat.ne_of_lt hlt
 have up:∀ {b:Addr} {u:HO},H b=some u→upd (upd H c (.frz co (.own P))) h'.objs.size (.frz fo (.own h'.objs.size)) b=some u:=fun {b u} e=>by
  rw[upd_ne (ne_of_none e hf0),upd_ne (ne_of_none e hc0)];exact e
 have kp:∀ b o,b≠P→s.heap.get? b=some o→(h'.push fo).get? b=some o:=fun b o hb e=>Heap.get?_push_of_some _ (hx b o hb e)
 have nP:∀ {b:Addr},H b=none→b≠P:=fun {b} n z=>by rw[z,hP] at n;cases n
 refine I.un ⟨fun b u q n _ _=>kp b u (nP n) q,fun b u q n _ _=>⟨u.slots,kp b u (nP n) q⟩,fun b u q n _=>?_,fun b u q _=>?_,fun b xs q=>up q,fun b u xs q=>up q,fun b ps q=>⟨#[],by simpa using up q⟩⟩ fun a u e=>?_
 ·have hb:=Heap.lt_size q
  rw[upd_ne (Nat.ne_of_lt (Nat.lt_of_lt_of_le hb hsz)),upd_ne (Nat.ne_of_lt (Nat.lt_of_lt_of_le hb hge))]
  exact n
 ·by_cases hb:b=P
  ·subst hb
   exact⟨_,Heap.get?_push_of_some _ htb⟩
  ·exact⟨u,kp b u hb q⟩
 ·by_cases haf:a=h'.objs.size
  ·subst haf
   rw[upd_same] at e
   cases e
   exact⟨Heap.get?_push_size _ hfo,fo,Heap.get?_push_size _ hfo⟩
  ·rw[upd_ne haf] at e
   by_cases hac:a=c
   ·subst hac
    rw[upd_same] at e
    cases e
    exact⟨Heap.get?_push_of_some _ hco,co,Heap.get?_push_of_some _ hco⟩
   ·rw[upd_ne hac] at e
    by_cases haP:a=P
    ·subst haP
     rw[hP] at e
     cases e
     refine⟨_,Heap.get?_push_of_some _ htb,?_,fun pos' cv z=>?_⟩
     ·have:=TriplesOk_snoc pos.line pos.col (.ref c) ps.toList ht
      simpa using this
     ·have z':codeAmong pos' (ps.toList++[rawInt pos.line,rawInt pos.col,.ref c])=some cv:=by simpa using z
      rcases codeAmong_app ps.toList ht z' with z|⟨e1,e2,e3⟩
      ·obtain⟨c',o',r1,r2,r3⟩:=hall pos' cv z
       exact⟨c',o',r1,up r2,r3⟩
      ·refine⟨c,co,e3,?_,?_⟩
       ·rw[upd_ne hcf,upd_same]
       ·rw[e1,e2];exact hq
    ·refine (I.hok a u e).stay (fun b u' hb z=>kp b u' ?_ z) (fun b z=>up z) (fun b xs z=>up z) fun b o z=>up z
     rcases hb with r|r
     ·rw[r];exact haP
     ·exact fun z=>by rw[z,hP] at r;cases r
theorem ps_def{name qual:Str}{params:Arguments}{body:List Stmt}{scope:Scope}{pos:Pos}{i:Nat}{c0 P:Addr}(hN:X.N.Nodup)(hi:X.N[i]?=some name)(hx:Loc X.env.scope name)(hd0:params.defaults=[])(hk0:params.kw_defaults=[])
  (ha:annTrees params none X.env=[]) (hq:qualnameIn X.env name name=qual) (hcode:X.env.code=.ref c0) (hC:PySem.W.codeHdIn X.K c0 P=true) (hfr:∀ y∈scope.names,y.2=.free→X.env.scope.names.lookup y.1=some .cell∨X.env.scope.names.lookup y.1=some .free)
  (hB:X.base.BuiltinsAt X.mg mainGlobals) (hf:X.fn name=true∨X.env.scope.names.lookup name=some .local:=by first|exact .inl rfl|exact .inr rfl|assumption) :
  PS X (.FunctionDef name params body [] none [] scope none name pos) (tDef X name qual params body scope P pos i):=by
 intro pins s σ H D I ⟨q,hP,hqp,h⟩
 refine PySem.W.nestDef_K hd0 hk0 ha ?_
 rw[hq]
 obtain⟨cl,hcl,hle,hhas⟩:=closure_ex (scope:=scope) (env:=X.env) fun y hy e=>I.ok.has y.1 (hfr y hy e)
 have C:Clos X scope cl:=⟨hle,hhas,fun x y c e1 e2=>I.ok.inj x y c (hle x c e1) (hle y c e2)⟩
 obtain⟨ps,hPs,ht,hall⟩:=I.hok P _ hP
 have hG:s.heap.Ns mainGlobals X.mg:=I.mod.glob.keeps I.bk
 have hCd:=PySem.W.codeHd_of_K I.kIn hC
 obtain⟨bm,ob,b1,b2,b3,_,b5,b6,b7,b8⟩:=hB
 have nP:∀ {b:Addr} {o:Obj},X.base.get? b=some o→b≠P:=fun {b o} e z=>by
  have:=(I.bs b o e).2
  rw[z,hP] at this;cases this
 have hBA:s.heap.BuiltinsAt X.mg P:=⟨bm,ob,b1,b2,b3,nP b5,I.bk bm ob b5,b6,b7,b8⟩
 have hgP:mainGlobals≠P:=by
  obtain⟨o,es,ep,e,_⟩:=I.mod.glob
  exact nP e
 cases hca:codeAmong pos ps.toList with
 | none =>
  refine PySem.W.makeFunction_K hcl I.ok.glob hG hcode hCd hPs ht hca hgP hBA fun c' ctv doc h' tk hx' hge hlt hrec htb=>?_
  obtain⟨c2,co,vs,t,ec,e1,e2,e3⟩:=hrec
  cases ec
  have I1:=I.fnMade (t':=tk) (fo:=PySem.W.fnMade name qual params body scope cl doc ((X.mg "__name__").getD .none) c' ctv) hP hPs ht hall hx' hge hlt e1 (hqp▸⟨vs,t,e2,e3⟩) htb rfl
  refine store_ok2 (v:=.ref h'.objs.size) I1 hN hi hx rfl (fun s' I2 _=>?_) hf
  refine⟨_,_,I2,h cl _ _ C ⟨c',co,doc,_,ctv,⟨vs,t,e2,e3⟩,.inl (I.hok.fresh hge),Nat.ne_of_lt hlt,I.hok.fresh (Nat.le_trans hge (Nat.le_of_lt hlt)),rfl⟩⟩
 | some cv =>
  obtain⟨c,co,rfl,hcH,hco⟩:=hall pos cv hca
  refine PySem.W.makeFunction_hit hcl I.ok.glob hG hcode hCd hPs ht hca hBA fun ctv doc h' tk hk hsz=>?_
  have hf0:H h'.objs.size=none:=I.hok.fresh hsz
  have I1:Inv X pins σ (upd H h'.objs.size (.frz (PySem.W.fnMade name qual params body scope cl doc ((X.mg "__name__").getD .none) c ctv) (.own h'.objs.size))) { s with heap:=h'.push (PySem.W.fnMade name qual params body scope cl doc ((X.mg "__name__").getD .none) c ctv),toks:=tk }:=by
   refine I.born hf0 (Heap.get?_none_of_le hsz) (fun b u e=>Heap.get?_push_of_some _ (hk b u e)) ⟨Heap.get?_push_size _ rfl,_,Heap.get?_push_size _ rfl⟩
  refine store_ok2 (v:=.ref h'.objs.size) I1 hN hi hx rfl (fun s' I2 _=>?_) hf
  refine⟨_,_,I2,h cl _ _ C ⟨c,co,doc,(X.mg "__name__").getD .none,ctv,hqp▸hco,.inr hcH,(fun z=>by rw[z,hf0] at hcH;cases hcH),hf0,?_⟩⟩
  rw[upd_id hcH]
end
end L2
end
section
namespace L2
open PySem PySem.Spec PyProof.Rows
noncomputable def envF(qual:Str)(scope:Scope)(cl:List (Str×Addr))(L f:Addr)(cd:Value):Env :=
 { scope:=scope,locals:=L,globals:=mainGlobals,cells:=cellsFrom (L+1) scope.names cl,qual:=qual ++ ".<locals>.",func:=some f,code:=cd,frame:=some L,builtins:=builtinsNs }
theorem newEnvF{M:Model}{A:Around}{E:Value→Shared→Prop}{s:Shared}{scope:Scope}{cl:List (Str×Addr)}{binds:List (Str×Value)}{qual:Str}{f:Addr}{cd:Value}{Q:Env→Shared→Prop}
  (h:wpAny M A (forIn binds PUnit.unit fun (x:Str×Value) _=>do storeName (envF qual scope cl s.heap.objs.size f cd) x.1 x.2;pure (ForInStep.yield PUnit.unit)) (fun _ s'=>Q (envF qual scope cl s.heap.objs.size f cd) s') E
   { s with heap:=pushCells (s.heap.push { cls:=.type "frame",data:=.dict #[] }) scope.names }) :
  wpAny M A (newFunctionEnv scope mainGlobals cl binds (qual ++ ".<locals>.") (some f) cd none builtinsNs) Q E s:=by
 simp only[newFunctionEnv,Option.isSome_none,Bool.false_eq_true,if_false]
 refine wpAny_bind (wpAny_alloc ?_)
 refine wpAny_bind (wpAny_layCells _ (fun name kind cells=>by cases hkc:kind == NameKind.cell<;>simp[hkc]) _ _ _ _ ?_)
 rw[show ({ s with heap:=s.heap.push { cls:=.type "frame",data:=.dict #[] } }:Shared).heap.objs.size=s.heap.objs.size+1 from Heap.size_push ..]
 exact wpAny_bind (thn h fun _ s' q=>wpAny_pure q)
noncomputable def cxF(CX:CXT)(P:Program)(w:World)(K:W.Frag)(mg:Str→Option Value)(base:Heap)(N:List Str)(qual:Str)(scope:Scope)(cl:List (Str×Addr))(f:Addr)(cd:Value)(A:Around)(outer:List Env)(s:Shared)(H:Hp)(E:XK):Cx where
 prog:=P
 w:=w
 K:=K
 mg:=mg
 base:=base
 A:=A.deeper (envF qual scope cl s.heap.objs.size f cd)
 N:=N
 s₀:=s
 H₀:=H
 env:=envF qual scope cl s.heap.objs.size f cd
 outer:=outer
 stack:=envF qual scope cl s.heap.objs.size f cd::outer
 ex:=[]
 calm:=true
 fn:=fun x=>scope.names.lookup x == some .cell
 pn:=[]
 xe:=fun e s'=>wpAny (model P w) (A.deeper (envF qual scope cl s.heap.objs.size f cd)) (leaving (envF qual scope cl s.heap.objs.size f cd) e) (fun _ s''=>CX outer H s E e s'') (fun e' s''=>CX outer H s E e' s'') s'
structure FnScopeF(N ps:List Str)(sc:Scope):Prop where
 kind:sc.kind=.function
 co:sc.isCoroutine=false
 gen:sc.isGenerator=false
 nd:N.Nodup
 pre:N.take ps.length=ps
 par:∀ x∈ps,sc.names.lookup x=some .local∨sc.names.lookup x=some .cell
noncomputable def FreeOk(N:List Str)(scope:Scope)(cl:List (Str×Addr))(h:Heap)(σ:St):Prop :=
 σ.length=N.length∧∀ (i:Nat) (x:Str) (v:V),N[i]?=some x→σ[i]?=some (some v)→scope.names.lookup x=some .free∧(∀ y∈scope.names,y.1=x→y.2≠.cell)∧∃ c o u,cl.lookup x=some c∧h.get? c=some o∧o.data=.cell (some u)∧RelV v u
section
variable{CX:CXT}{P:Program}{w:World}{K:W.Frag}{mg:Str→Option Value}{base:Heap}{N ps:List Str}{qual:Str}{scope:Scope}{cl:List (Str×Addr)}{f:Addr}{cd:Value}{A:Around}{outer:List Env}{s:Shared}{H:Hp}{E:XK}{σ:St}
theorem cxF_inv(S:FnScopeF N ps scope)(hd:A.handled=none)(e0:Env0 P w K mg base A outer s H)(hfr:∀ x,(x,NameKind.free)∈scope.names→∃ c,cl.lookup x=some c)(hinj:∀ x y c,cl.lookup x=some c→cl.lookup y=some c→x=y)
  (hno:∀ x c,cl.lookup x=some c→H c=none∧∃ v,s.heap.IsCell c v) (F:FreeOk N scope cl s.heap σ) :
  Inv (cxF CX P w K mg base N qual scope cl f cd A outer s H E) [] σ H { s with heap:=pushCells (s.heap.push { cls:=.type "frame",data:=.dict #[] }) scope.names }:=by
 have e1:(s.heap.push { cls:=.type "frame",data:=.dict #[] }).objs.size=s.heap.objs.size+1:=Heap.size_push ..
 have k1:∀ b o,s.heap.get? b=some o→(pushCells (s.heap.push { cls:=.type "frame",data:=.dict #[] }) scope.names).get? b=some o :=
  fun b o e=>pushCells_keeps _ _ b o (Heap.get?_push_of_some _ e)
 have kC:(pushCells (s.heap.push { cls:=.type "frame",data:=.dict #[] }) scope.names).Ns s.heap.objs.size fun _=>none :=
  (Heap.Ns.new s.heap (.type "frame")).keeps (pushCells_keeps scope.names _)
 have clLt:∀ x c,cl.lookup x=some c→c<s.heap.objs.size:=fun x c e=>by
  obtain⟨_,v,q⟩:=hno x c e
  exact q.lt
 have cells:∀ x c,(cellsFrom (s.heap.objs.size+1) scope.names cl).lookup x=some c→s.heap.objs.size+1≤c∨cl.lookup x=some c:=fun x c e=>cellsFrom_or x _ _ _ c e
 have noA:∀ b:Addr,b∉(cxF CX P w K mg base N qual scope cl f cd A outer s H E).ex:=fun b z=>absurd (show b∈([]:List Addr) from z) (by simp)
 refine⟨⟨e0.mod,S.kind,rfl,rfl,Nat.le_refl _,?_,?_,?_,fun _=>hd,Around.frames_deeper e0.frames,.inr ⟨rfl,rfl⟩,fun b z=>absurd z (noA b),e0.bs,e0.bsz,fun b _ _=>noA b,fun b z=>absurd z (noA b),e0.funs,e0.frf⟩,
  rfl,e0.bare,Un.kept k1,?_,?_,e0.hok.fresh (Nat.le_refl _),?_,fun p hp=>absurd (show p∈([]:List (Addr×Obj)) from hp) (by simp),e0.hok.kept k1,F.1⟩
 ·exact cellsFrom_inj scope.names _ cl hinj fun x c h=>Nat.lt_succ_of_lt (clLt x c h)
 ·intro x hx
  have hx:scope.names.lookup x=some .cell∨scope.names.lookup x=some .free:=hx
  refine Option.isSome_iff_exists.mp (PySem.W.cellsFrom_some scope.names _ cl ?_)
  rcases hx with h|h
  ·exact .inl h
  ·exact .inr (Option.isSome_iff_exists.mpr (hfr x (PySem.mem_of_lookup h)))
 ·intro x c hx hc
  have hx:scope.names.lookup x=some .cell:=by simpa [cxF] using hx
  have:=cellsFrom_low x (s.heap.objs.size+1) scope.names (s.heap.objs.size+1) cl (Nat.le_refl _) (.inl (PySem.mem_of_lookup hx)) c hc
  exact Nat.le_trans (Nat.le_succ _) this
 ·refine⟨_,kC,fun i x v h1 h2 h3=>?_⟩
  obtain⟨q1,q2,c,o,u,q3,q4,q5,r⟩:=F.2 i x v h1 h2
  refine⟨u,r,.inr ⟨.inr q1,c,?_,o,k1 c o q4,q5⟩⟩
  show (cellsFrom (s.heap.objs.size+1) scope.names cl).lookup x=some c
  rw[cellsFrom_out _ _ _ q2]
  exact q3
 ·intro x c e
  have e:(cellsFrom (s.heap.objs.size+1) scope.names cl).lookup x=some c:=e
  rw[← e1] at e
  exact cellsFrom_isCell scope.names _ cl (fun y d hy=>by
   obtain⟨_,v,q⟩:=hno y d hy
   exact⟨v,q.keeps fun b o z=>Heap.get?_push_of_some _ z⟩) x c e
 ·intro x c e
  rcases cells x c e with q|q
  ·exact e0.hok.fresh (Nat.le_trans (Nat.le_succ _) q)
  ·exact (hno x c q).1
noncomputable def setAll:Nat→List V→St→St
 | _,[],σ=>σ
 | j,v::vs,σ=>setAll (j+1) vs (σ.set j (some v))
theorem bind_inv{X:Cx}{M:Model}{A:Around}{E:Value→Shared→Prop}(hN:X.N.Nodup):∀ (ps:List Str) (us:List Value) (vs:List V) (j:Nat) (σ:St) (H:Hp) (s:Shared) (Q:PUnit→Shared→Prop),Vals vs us→ps.length=us.length →
  (∀ i x,ps[i]?=some x→X.N[j+i]?=some x∧Loc X.env.scope x∧(X.fn x=true∨X.env.scope.names.lookup x=some .local))→Inv X [] σ H s→(∀ s',Inv X [] (setAll j vs σ) H s'→Q ⟨⟩ s') →
  wpAny M A (forIn (ps.zip us) PUnit.unit fun (x:Str×Value) _=>do storeName X.env x.1 x.2;pure (ForInStep.yield PUnit.unit)) Q E s
 | [],us,vs,j,σ,H,s,Q,r,hl,hp,I,h=>by
  cases us with
  | nil =>
   cases r
   rw[List.zip_nil_left,List.forIn_nil]
   exact wpAny_pure (h s I)
  | cons _ _=>simp at hl
 | x::ps,us,vs,j,σ,H,s,Q,r,hl,hp,I,h=>by
  cases r with
  | nil=>simp at hl
  | cons r rs =>
   rw[List.zip_cons_cons,List.forIn_cons]
   obtain⟨h1,h2,h3⟩:=hp 0 x rfl
   refine wpAny_bind (wpAny_bind (store_ok2 I hN h1 h2 r (fun s' I' _=>wpAny_pure ?_) h3))
   exact bind_inv hN ps _ _ (j+1) _ H s' Q rs (by simpa using hl) (fun i y hy=>by
    have:=hp (i+1) y (by simpa using hy)
    rwa [show j+(i+1)=j+1+i by omega] at this) I' h
noncomputable def CellOf(cl:List (Str×Addr))(b:Addr):Prop:=∃ x,cl.lookup x=some b
theorem clo_of{k:Nat}{name:Str}{params:Arguments}{body:List Stmt}{doc pm ctv:Value}{c:Addr}{co:Obj}{Pt:Addr}{sp:Sp}{G:Hp}(S:FnScopeF N ps scope)
  (hf:G f=some (.frz (PySem.W.fnMade name qual params body scope cl doc pm c ctv) (.own f))) (hc:G c=some (.frz co (.own Pt))) (hco:CodeO co qual)
  (hfr:∀ x,(x,NameKind.free)∈scope.names→∃ c,cl.lookup x=some c) (hinj:∀ x y c,cl.lookup x=some c→cl.lookup y=some c→x=y)
  (hcl:∀ x d,cl.lookup x=some d→∃ o v,G d=some (.frz o (.own d))∧o.data=.cell v)
  (hbind:∀ (s:Shared) (us:List Value),us.length=ps.length→BindsTo s (PySem.W.fnX name qual params body scope cl .none .none doc pm none (.ref c) ctv) ⟨us,[]⟩ (ps.zip us))
  (len:∀ vs H Q E,sp vs H Q E→vs.length=ps.length)
  (hσ:∀ h:Heap,(∀ x d o,cl.lookup x=some d→G d=some (.frz o (.own d))→h.get? d=some o)→FreeOk N scope cl h σ)
  (hbody:∀ (A:Around) (outer:List Env) (s:Shared) (H:Hp) (vs:List V) (Q:VK) (E:XK),Room k (A.deeper (envF qual scope cl s.heap.objs.size f (.ref c)))→Same G H→sp vs H Q E →
   ∃ t,PSs (cxF CX P w K mg base N qual scope cl f (.ref c) A outer s (unl (CellOf cl) H) E).nox body t∧t { nx:=fun _ H'=>(∀ b,CellOf cl b→H' b=none)→Q .non (rel (CellOf cl) H H'),rt:=fun v H'=>(∀ b,CellOf cl b→H' b=none)→Q v (rel (CellOf cl) H H') } (setAll 0 vs σ) (unl (CellOf cl) H)) :
  CloOk P w K mg base CX (k+1) sp (.ref f) G:=by
 refine⟨⟨f,_,_,rfl,hf,rfl⟩,fun f' ef A outer s H us vs Q E hr e0 m r hsp=>?_⟩
 cases ef
 have hl:=len _ _ _ _ hsp
 have hlu:us.length=ps.length:=by rw[← r.length];exact hl
 have hfo:=(e0.hok f _ (m _ _ hf)).1
 have hcob:=(e0.hok c _ (m _ _ hc)).1
 obtain⟨ws,t,d1,d2⟩:=hco
 have hC:∀ b,CellOf cl b→∃ o,H b=some (.frz o (.own b)):=fun b ⟨x,e⟩=>by
  obtain⟨o,v,z,_⟩:=hcl x b e
  exact⟨o,m _ _ z⟩
 have hfs:∀ b,CellOf cl b→b∉frs outer∧b∉([]:List Addr):=fun b hb=>by
  refine⟨fun z=>?_,by simp⟩
  obtain⟨o,e⟩:=hC b hb
  rw[e0.frf b z] at e;cases e
 have e1:Env0 P w K mg base A outer s (unl (CellOf cl) H):=by
  refine⟨e0.frames,e0.mod,fun b o q=>⟨(e0.bs b o q).1,?_⟩,e0.bsz,e0.funs,fun b hb=>?_,drop_hok hC e0.hok,e0.bare⟩
  ·by_cases hb:CellOf cl b
   ·exact unl_at hb
   ·rw[unl_ne hb];exact (e0.bs b o q).2
  ·rw[unl_ne fun z=>(hfs b z).1 hb];exact e0.frf b hb
 have lim:s.heap.NoLimit:=e0.mod.nolimit.keeps fun b o e=>(e0.bs b o e).1
 refine codeAny_call_function hr.depth hfo rfl S.co S.gen rfl ⟨c,co,ws,t,rfl,hcob,d1,d2⟩ (hbind s us hlu _ _ _ _ ?_)
 refine newEnvF (f:=f) (cd:=.ref c) ?_
 obtain⟨t,ht,hq⟩:=hbody A outer s H vs Q E (hr.deeper _) m hsp
 have I0:Inv (cxF CX P w K mg base N qual scope cl f (.ref c) A outer s (unl (CellOf cl) H) E) [] σ (unl (CellOf cl) H) { s with heap:=pushCells (s.heap.push { cls:=.type "frame",data:=.dict #[] }) scope.names } :=
  cxF_inv S hr.hd e1 hfr hinj (fun x d e=>⟨unl_at ⟨x,e⟩,by
   obtain⟨o,v,z,y⟩:=hcl x d e
   exact⟨v,o,(e0.hok d _ (m _ _ z)).1,y⟩⟩) (hσ s.heap fun x d o e z=>(e0.hok d _ (m _ _ z)).1)
 refine bind_inv (X:=cxF CX P w K mg base N qual scope cl f (.ref c) A outer s (unl (CellOf cl) H) E) S.nd ps us vs 0 σ _ _ _ r hlu.symm (fun i x hx=>?_) I0 fun s1 I=>?_
 ·have hxm:=List.mem_of_getElem? hx
  refine⟨?_,S.par x hxm,?_⟩
  ·rw[Nat.zero_add]
   have hi:i<ps.length:=(List.getElem?_eq_some_iff.mp hx).1
   rw[← S.pre,List.getElem?_take_of_lt hi] at hx
   exact hx
  ·rcases S.par x hxm with z|z
   ·exact .inr z
   ·refine .inl ?_
    show (scope.names.lookup x == some NameKind.cell)=true
    rw[z];rfl
 ·refine⟨I.nolimit,codeAny_func ?_⟩
  refine wpAny_mono (ht [] s1 _ _ _ (I.wish _) hq) (fun fl s' hs=>?_) fun e s' hs=>?_
  ·replace hs:=SP.unwish hs
   have fin:∀ {σ':St} {H':Hp} {v:V} {u:Value},Inv (cxF CX P w K mg base N qual scope cl f (.ref c) A outer s (unl (CellOf cl) H) E) [] σ' H' s'→RelV v u→((∀ b,CellOf cl b→H' b=none)→Q v (rel (CellOf cl) H H'))→CE outer P w H s Q u s' :=
    fun {σ' H' v u} J rv q=>⟨v,rel (CellOf cl) H H',J.os,J.bare,rel_un hC e0.hok J.base hfs,rel_hok hC e0.hok J.base hfs J.hok,rv,q fun b hb=>rel_no hC e0.hok J.base hfs hb⟩
   cases fl with
   | ret u =>
    obtain⟨v,σ',H',J,rv,q⟩:=hs
    exact fin J rv q
   | next =>
    obtain⟨σ',H',J,q⟩:=hs
    exact fin (v:=V.non) (u:=Value.none) J rfl q
   | brk =>
    obtain⟨_,_,_,q⟩:=hs
    exact False.elim q
   | cont =>
    obtain⟨_,_,_,q⟩:=hs
    exact False.elim q
  ·exact False.elim hs
end
end L2
end
section
namespace L2
open PySem PySem.Spec PyProof.Rows
noncomputable def MadeAt(X:Cx)(name qual:Str)(params:Arguments)(body:List Stmt)(scope:Scope)(P:Addr)(v:V)(G:Hp):Prop :=
 ∃ (f c:Addr) (co:Obj) (doc pm ctv:Value) (cl:List (Str×Addr)),v=.ref f∧Clos X scope cl∧CodeO co qual∧G c=some (.frz co (.own P))∧G f=some (.frz (PySem.W.fnMade name qual params body scope cl doc pm c ctv) (.own f))
theorem MadeAt.same{X:Cx}{name qual:Str}{params:Arguments}{body:List Stmt}{scope:Scope}{P:Addr}{v:V}{G G':Hp}(m:Same G G')(h:MadeAt X name qual params body scope P v G):MadeAt X name qual params body scope P v G':=by
 obtain⟨f,c,co,doc,pm,ctv,cl,e,h1,h2,h3,h4⟩:=h
 exact⟨f,c,co,doc,pm,ctv,cl,e,h1,h2,m _ _ h3,m _ _ h4⟩
end L2
namespace VL
open PySem PySem.Spec PyProof.Rows L2
variable[Tabs]
section
variable{K:W.Frag}{E:FK}{X:Exc→Sl→Prop}{ρ:Sl}{Q:TV→Prop}{nx bk ct:Sl→Prop}{rt:TV→Prop}
theorem sv_def{Y:Cx}{name qual:Str}{params:Arguments}{body:List Stmt}{scope:Scope}{P:Addr}{q:Nat→Nat→Str}{pos:Pos}{i:Nat}(hP:(P,q)∈Tabs.ts)(hq:q pos.line pos.col=qual)(hi:i<ρ.length)
  (h:nx (ρ.set i (some (.obj (MadeAt Y name qual params body scope P))))):Sv K E X (tDef Y name qual params body scope P pos i) ρ ⟨nx,rt,bk,ct⟩:=fun H0 σ ts as H D st s x f=>by
 refine⟨q,s.same _ _ (x.t _ hP),hq,fun cl fa H' C m=>f.nx _ h _ _ ?_⟩
 have s':=s.ext m.same
 have mm:MadeAt Y name qual params body scope P (.ref fa) H':=by
  obtain⟨c,co,doc,pm,ctv,h1,h2,h3,h4,rfl⟩:=m
  exact⟨fa,c,co,doc,pm,ctv,cl,rfl,C,h1,by rw[upd_ne h3,upd_same],upd_same⟩
 refine SR.store (v:=.ref fa) (a:=.obj (MadeAt Y name qual params body scope P)) ?_ hi
 obtain⟨⟨p,q,h1,h2,h3,h4⟩,e⟩:=s'
 refine⟨⟨p,q,h1,.cons (.av (.obj (p:=fun _=>0) ?_ (fun G1 G2 mm hh=>hh.same mm) fun _=>rfl)) h2 (fun b=>by simp),h3,h4⟩,e⟩
 obtain⟨f',c,co,doc,pm,ctv,cl',e1,k1,k2,k3,k4⟩:=mm
 have nm:∀ {b:Addr} {ob:Obj} {y:HO},H' b=some (.frz ob y)→VL.hid H' p q b=some (.frz ob y):=fun {b ob y} z=>hid_keep (SR.lsts h1 h2) z fun z=>(show False from z)
 exact⟨f',c,co,doc,pm,ctv,cl',e1,k1,k2,nm k3,nm k4⟩
theorem ev_cv{P:Program}{w:World}{mg:Str→Option Value}{base:Heap}{CX:CXT}{k i:Nat}{A:TA}{E':XK}{Pre:List AV→Prop}{Post:List AV→AV→Prop}(hi:ρ[i]?=some (some (.obj (CloOk P w K mg base CX k (spR K Pre Post NP)))))
  (h:Ea K E X A ρ (ClR Pre Post NP [] Q fun _=>True)):Ev K E X (tCallV P w K mg base CX k i E' A) ρ Q:=fun H0 σ ts as H QV s x kk=>by
 obtain⟨v,e1,e2,_⟩:=s.atO hi
 refine⟨v,_,e1,e2,h H0 σ ts as H _ s x fun bs ⟨cs,sh,pre,q,_⟩ vs H' s' hl=>?_⟩
 obtain⟨v',e1',e2',_⟩:=s'.atO hi
 rw[e1] at e1'
 cases e1'
 obtain⟨rp,s2⟩:=SR.lent sh hl s'
 exact⟨e2',x.t.same s2.same,cs,by simpa using rp,by simpa using pre,fun c hc v H2 r=>let ⟨a,g,z⟩:=q c (by simpa using hc);kk a z v H2 (s2.gotG r g),fun e z=>z.elim⟩
end
noncomputable def setV:Nat→List AV→Sl→Sl
 | _,[],ρ=>ρ
 | j,c::cs,ρ=>setV (j+1) cs (ρ.set j (some c))
section
variable{K:W.Frag}{H0 H G:Hp}
theorem RSl.set0:∀ {σ:L2.St} {ρ:Sl} {p:Fp} {j:Nat} {v:V} {a:AV},RSl K G H σ ρ p→(∀ b,p b=0)→RA K G H v a Z0→j<ρ.length→RSl K G H (σ.set j (some v)) (ρ.set j (some a)) Z0
 | _,_,_,_,_,_,.nil _,_,_,hj=>by simp at hj
 | _,_,_,0,_,_,.no rs,z,ra,_=>.so ra rs fun b=>by simp[Z0,z b]
 | _,_,_,j+1,_,_,.no rs,z,ra,hj=>.no (RSl.set0 rs z ra (by simpa using hj))
 | _,_,_,0,_,_,.so (q:=q) r rs e,z,ra,_=>.so ra rs fun b=>by have:=e b;have:=z b;simp only[Z0];omega
 | _,_,_,j+1,_,_,.so (p:=p) (q:=q) r rs e,z,ra,hj=>.so r (RSl.set0 rs (fun b=>by have:=e b;have:=z b;omega) ra (by simpa using hj)) fun b=>by have:=e b;have:=z b;simp only[Z0];omega
theorem RSl.setAll:∀ {vs:List V} {cs:List AV} {j:Nat} {σ:L2.St} {ρ:Sl},RAs K G H vs cs Z0→j+vs.length≤ρ.length→RSl K G H σ ρ Z0→RSl K G H (L2.setAll j vs σ) (setV j cs ρ) Z0:=by
 intro vs
 induction vs with
 | nil =>
  intro cs j σ ρ r _ s
  cases r
  exact s
 | cons v vs ih =>
  intro cs j σ ρ r hl s
  cases r with
  | @cons _ c _ cs' p1 q1 _ r rs e =>
   have z1:p1=Z0:=by funext b;have:=e b;simp only[Z0] at this ⊢;omega
   have z2:q1=Z0:=by funext b;have:=e b;simp only[Z0] at this ⊢;omega
   subst z1 z2
   simp only[List.length_cons] at hl
   exact ih rs (by rw[List.length_set];omega) (RSl.set0 s (fun _=>rfl) r (by omega))
theorem SR.startF{vs:List V}{cs:List AV}{σ:L2.St}{ρ:Sl}(r:RAs K H H vs cs Z0)(hl:vs.length≤ρ.length)(s:RSl K H H σ ρ Z0):SR K H (L2.setAll 0 vs σ) (setV 0 cs ρ) [] [] H:=by
 have hid0:VL.hid H (fun _=>0) (fun _=>0)=H:=by funext b;simp[VL.hid]
 refine⟨⟨Z0,fun _=>0,?_,.nil fun _=>rfl,fun _=>by simp[Z0],fun b z=>by simp[Z0] at z⟩,.refl H⟩
 show RSl K (VL.hid H (fun _=>0) (fun _=>0)) H _ _ _
 rw[hid0]
 exact RSl.setAll r (by omega) s
end
mutual
noncomputable def AV.plain:AV→Bool
 | .d _=>true
 | .own xs=>AV.plains xs
 | .tup xs=>AV.plains xs
 | .dic _=>true
 | .obj _=>false
noncomputable def AV.plains:List AV→Bool
 | []=>true
 | x::xs=>x.plain && AV.plains xs
end
section
variable{K:W.Frag}{G G' H H':Hp}
theorem DicAt.low{o:HO}{kvs:List (PyData×PyData)}(h:DicAt K G o kvs)(m:Low G G'):DicAt K G' o kvs:=by
 rcases h with⟨ks,ds,e,r,z⟩|⟨ks,ds,e,r,z⟩|⟨ks,ds,n,e,r,z⟩
 ·exact .inl ⟨ks,ds,e,Reps.low m r,z⟩
 ·exact .inr (.inl ⟨ks,ds,e,Reps.low m r,z⟩)
 ·exact .inr (.inr ⟨ks,ds,n,e,Reps.low m r,z⟩)
theorem RA.lowB(hG:Low G G'):(∀ {v:V} {a:AV} {p:Fp},RA K G H v a p→a.plain=true→(∀ b o,0<p b→H b=some o→H' b=some o)→RA K G' H' v a p)∧∀ {vs:List V} {xs:List AV} {p:Fp},RAs K G H vs xs p→AV.plains xs=true→(∀ b o,0<p b→H b=some o→H' b=some o)→RAs K G' H' vs xs p :=
 RA.ind (M:=fun v a p=>a.plain=true→(∀ b o,0<p b→H b=some o→H' b=some o)→RA K G' H' v a p) (N:=fun vs xs p=>AV.plains xs=true→(∀ b o,0<p b→H b=some o→H' b=some o)→RAs K G' H' vs xs p) (fun r e _ _=>.d (Rep.low hG r) e) (fun {a _ _ _ _} h i e hp hH=>.own (hH a _ (by have:=e a;simp at this;omega) h) (i (by simpa [AV.plain] using hp) fun b o z=>hH b o (by have:=e b;omega)) e)
  (fun h i hp hH=>.tup (hG _ _ h (by intro _ _ z;cases z)) (i (by simpa [AV.plain] using hp) hH)) (fun {a _ _ _} h d e _ hH=>.dic (hH a _ (by have:=e a;simp at this;omega) h) (d.low hG) e) (fun _ _ _ hp=>by simp[AV.plain] at hp) (fun e _ _=>.nil e) fun i j e hp hH=>by
   simp only[AV.plains,Bool.and_eq_true] at hp
   exact .cons (i hp.1 fun b o z=>hH b o (by have:=e b;omega)) (j hp.2 fun b o z=>hH b o (by have:=e b;omega)) e
theorem RA.low(hG:Low G G'){v:V}{a:AV}{p:Fp}(hp:a.plain=true)(hH:∀ b o,0<p b→H b=some o→H' b=some o)(h:RA K G H v a p):RA K G' H' v a p:=(RA.lowB hG).1 h hp hH
theorem RAs.low(hG:Low G G'){vs:List V}{xs:List AV}{p:Fp}(hp:AV.plains xs=true)(hH:∀ b o,0<p b→H b=some o→H' b=some o)(h:RAs K G H vs xs p):RAs K G' H' vs xs p:=(RA.lowB hG).2 h hp hH
theorem RA.there{v:V}{a:AV}{p:Fp}(h:RA K G H v a p):∀ b,0<p b→∃ o,H b=some o∧Mu o:=RA.lstB.1 h
theorem Rs.rel{C:Addr→Prop}{v:V}{c:AV}(hC:∀ b,C b→∃ o,H b=some (.frz o (.own b)))(hno:∀ b,C b→H' b=none)(r:Rs K (unl C H) H' v c):Rs K H (rel C H H') v c:=by
 obtain⟨sm,p,h1,h2,ra⟩:=r
 have up:∀ b o,H' b=some o→L2.rel C H H' b=some o:=fun b o e=>by
  rw[rel_ne fun z=>by rw[hno b z] at e;cases e];exact e
 refine⟨fun b o e=>?_,p,h1,fun b z=>?_,ra.mono (fun b o e=>?_) fun b o _ e=>up b o e⟩
 ·by_cases hc:C b
  ·rw[rel_at hc];exact e
  ·rw[rel_ne hc];exact sm b o (by rw[unl_ne hc];exact e)
 ·obtain⟨o,e,_⟩:=ra.there b z
  have hc:¬ C b:=fun y=>by rw[hno b y] at e;cases e
  have:=h2 b z
  rw[unl_ne hc] at this
  exact this
 ·unfold VL.hid at e ⊢
  split at e
  ·rename_i y;rw[if_pos y];exact up b o e
  ·cases e
theorem Rs.unl{C:Addr→Prop}{H1:Hp}{v:V}{c:AV}(hp:c.plain=true)(hC:∀ b,C b→H1 b=none∧∃ o v,H b=some (.frz o (.own b))∧o.data=.cell v)(m:Same H1 H)(r:Rs K H H' v c):Rs K H1 (unl C H') v c:=by
 obtain⟨sm,p,h1,h2,ra⟩:=r
 have at':∀ b,C b→∃ o,H' b=some (.frz o (.own b)):=fun b z=>by
  obtain⟨_,o,_,e,_⟩:=hC b z
  exact⟨o,sm _ _ e⟩
 have lo:Low H' (L2.unl C H'):=fun b o e n=>drop_same at' e fun ob z=>n ob b z
 refine⟨fun b o e=>?_,p,h1,fun b z=>?_,RA.low (fun b o e n=>?_) hp (fun b o z e=>?_) ra⟩
 ·have hc:¬ C b:=fun z=>by rw[(hC b z).1] at e;cases e
  rw[unl_ne hc]
  exact sm b o (m b o e)
 ·have:=h2 b z
  cases e:H1 b with
  | none=>rfl
  | some o=>rw[m b o e] at this;cases this
 ·unfold VL.hid at e ⊢
  split at e
  ·rename_i y;rw[if_pos y];exact lo b o e n
  ·cases e
 ·obtain⟨o',e',mu⟩:=ra.there b z
  rw[e] at e'
  cases e'
  refine lo b o e fun ob c z=>?_
  subst z
  exact (show False from mu)
end
section
variable{Y:Cx}{CX:CXT}{k:Nat}{name qual:Str}{params:Arguments}{body:List Stmt}{scope:Scope}{Pt:Addr}{N ps:List Str}{cap:List (Option Nat)}{Pre:List AV→Prop}{Post:List AV→AV→Prop}{H0 H1 H2:Hp}{σ:L2.St}{ρ:Sl}{ts:List V}{as:List TV}{v:V}
theorem clo_mk(S:FnScopeF N ps scope)(hcap:capOk Y.N Y.env.scope scope N cap=true)(hnf:∀ y∈Y.env.scope.names,y.2≠.free)(hfn:∀ x,Y.fn x=true)
  (hbind:∀ (cl:List (Str×Addr)) (doc pm ctv:Value) (c:Addr) (s:Shared) (us:List Value),us.length=ps.length→BindsTo s (PySem.W.fnX name qual params body scope cl .none .none doc pm none (.ref c) ctv) ⟨us,[]⟩ (ps.zip us))
  (hlen:∀ cs,Pre cs→cs.length=ps.length) (hdat:∀ cs,Pre cs→AV.plains cs=true)
  (hm:MadeAt Y name qual params body scope Pt v H1) (L:Lent Y σ H1 H2) (s:SR Y.K H0 σ ρ ts as H1)
  (hbody:∀ (cl:List (Str×Addr)) (f c:Addr) (A:Around) (outer:List Env) (s:Shared) (H:Hp) (E:XK),Room k (A.deeper (envF qual scope cl s.heap.objs.size f (.ref c))) →
   ∃ t,PSs (cxF CX Y.prog Y.w Y.K Y.mg Y.base N qual scope cl f (.ref c) A outer s H E).nox body t∧∀ cs,Pre cs→Sv Y.K (toF E) NE t (setV 0 cs (capV cap ρ)) (finR (Post cs))) :
  CloOk Y.prog Y.w Y.K Y.mg Y.base CX (k+1) (spR Y.K Pre Post NP) v H2:=by
 obtain⟨f,c,co,doc,pm,ctv,cl,rfl,C,hco,hc,hf⟩:=hm
 have own:∀ x d,cl.lookup x=some d→Own Y d:=fun x d e=>⟨x,hfn x,C.le x d e⟩
 refine clo_of (σ:=capS cap σ) (G:=H2) S (L.same _ _ hf) (L.same _ _ hc) hco C.has C.inj (fun x d e=>(L.own d (own x d e)).2) (fun s us hl=>hbind cl doc pm ctv c s us hl) (fun vs H Q E h=>spR_len h hlen) (fun h hh=>?_) fun A outer s' H vs Q E hr m hsp=>?_
 ·refine⟨by unfold capS;rw[List.length_map,capOk_len hcap],fun i x w h1 h2=>?_⟩
  unfold capS at h2
  rw[List.getElem?_map] at h2
  cases e:cap[i]? with
  | none=>rw[e] at h2;cases h2
  | some o =>
   rw[e] at h2
   cases o with
   | none=>cases h2
   | some j =>
    have h2:(σ[j]?).join=some w:=Option.some.inj h2
    obtain⟨q1,q2,q3,q4⟩:=capOk_at hcap h1 e
    have q5:σ[j]?=some (some w):=by
     cases es:σ[j]? with
     | none=>rw[es] at h2;cases h2
     | some w'=>rw[es] at h2;cases w' with
      | none=>cases h2
      | some w''=>have:some w''=some w:=h2;rw[this]
    have q2':Y.env.scope.names.lookup x=some .cell:=by
     rcases q2 with z|z
     ·exact z
     ·exact absurd rfl (hnf _ (PySem.mem_of_lookup z))
    obtain⟨d,hd⟩:=C.has x (PySem.mem_of_lookup q3)
    obtain⟨o,u,r1,r2,r3⟩:=L.cell j x d w q1 (hfn x) q2' (C.le x d hd) q5
    exact⟨q3,q4,d,o,u,hd,hh x d o hd r1,r2,r3⟩
 ·obtain⟨t,h1,h2⟩:=hbody cl f c A outer s' (unl (CellOf cl) H) E hr
  refine⟨t,h1,?_⟩
  obtain⟨tb,cs,rp,pre,q,_⟩:=hsp
  have hC:∀ b,CellOf cl b→∃ o,H b=some (.frz o (.own b)):=fun b ⟨x,e⟩=>by
   obtain⟨_,o,_,z,_⟩:=L.own b (own x b e)
   exact⟨o,m _ _ z⟩
  have lo:Low H (unl (CellOf cl) H):=fun b o e n=>drop_same hC e fun ob z=>n ob b z
  have sm:Same H1 (unl (CellOf cl) H):=fun b o e=>by
   have hb:¬ CellOf cl b:=fun⟨x,z⟩=>by rw[(L.own b (own x b z)).1] at e;cases e
   rw[unl_ne hb]
   exact m _ _ (L.same _ _ e)
  have r1:RAs Y.K (unl (CellOf cl) H) (unl (CellOf cl) H) vs cs Z0:=RAs.low lo (hdat cs pre) (fun b o z=>by simp[Z0] at z) rp
  have r2:RSl Y.K (unl (CellOf cl) H) (unl (CellOf cl) H) (capS cap σ) (capV cap ρ) Z0:=RSl.cap s sm cap
  have hl:vs.length≤(capV cap ρ).length:=by
   unfold capV
   rw[List.length_map,capOk_len hcap,rp.len,hlen cs pre]
   have:=congrArg List.length S.pre
   rw[List.length_take] at this
   omega
  have tb':TabsIn (unl (CellOf cl) H):=fun p hp=>lo _ _ (tb p hp) fun _ _ z=>by cases z
  refine h2 cs pre _ _ [] [] _ _ Stb.nil (SR.startF r1 hl r2) (XOk.ne tb') ⟨fun ρ z σ' H' s'' hno=>?_,fun _ z=>z.elim,fun _ z=>z.elim,fun a ⟨c,r,z⟩ v σ' ρ' H' s'' hno=>?_⟩
  ·exact q _ z _ _ (Rs.rel hC hno (SR.rs (v:=.non) (s''.push fun _=>.non)))
  ·refine q _ z _ _ (Rs.rel hC hno ?_)
   rcases r with rfl|⟨nr,rfl⟩
   ·exact s''.rs
   ·refine⟨s''.same,fun _=>0,fun _=>by simp,fun b z=>by simp at z,.d ?_ fun _=>rfl⟩
    have hid0:VL.hid H' (fun _=>0) (fun _=>0)=H':=by funext b;simp[VL.hid]
    rw[hid0]
    exact s''.top nr
end
end VL
end
section
namespace VL
open PySem PySem.Spec PyProof.Rows L2
variable[Tabs]
inductive ShL(K:W.Frag)(Y:Cx)(ρ:Sl):TV→AV→Prop
 | d {b:TV} {x:PyData}:NR b→b.data=x→ShL K Y ρ b (.d x)
 | o {φ ψ:V→Hp→Prop}:(∀ v G1 G2,Same G1 G2→ψ v G1→ψ v G2)→(∀ (H0:Hp) (σ:L2.St) (ts:List V) (as:List TV) (H1 H2:Hp) (v:V),SR K H0 σ ρ ts as H1→Lent Y σ H1 H2→φ v H1→ψ v H2)→ShL K Y ρ (.av (.obj φ)) (.obj ψ)
inductive ShLs(K:W.Frag)(Y:Cx)(ρ:Sl):List TV→List AV→Prop
 | nil:ShLs K Y ρ [] []
 | cons {b:TV} {c:AV} {bs:List TV} {cs:List AV}:ShL K Y ρ b c→ShLs K Y ρ bs cs→ShLs K Y ρ (b::bs) (c::cs)
section
variable{K:W.Frag}{Y:Cx}{H0 H1 H2:Hp}{σ:L2.St}{ρ:Sl}{ts:List V}{as:List TV}
theorem SR.lentL(L:Lent Y σ H1 H2):∀ {vs:List V} {bs:List TV} {cs:List AV},ShLs K Y ρ bs cs→vs.length=bs.length→SR K H0 σ ρ (vs++ts) (bs++as) H1→RAs K H2 H2 vs cs Z0∧SR K H0 σ ρ ts as H1
 | [],_,_,.nil,_,s=>⟨.nil fun _=>rfl,s⟩
 | [],_,_,.cons _ _,e,_=>by simp at e
 | v::vs,_,_,.nil,e,_=>by simp at e
 | v::vs,b::bs,c::cs,.cons h t,e,s=>by
  have s':SR K H0 σ ρ (v::(vs++ts)) (b::(bs++as)) H1:=s
  obtain⟨r,s2⟩:=SR.lentL L t (by simpa using e) s'.pop
  refine⟨.cons (p:=Z0) (q:=Z0) ?_ r fun _=>rfl,s2⟩
  cases h with
  | d nr ed=>exact .d (ed▸(s'.top nr).same L.same) fun _=>rfl
  | o mono up =>
   refine .obj (up H0 σ ts as H1 H2 v s2 L ?_) (mono v) fun _=>rfl
   obtain⟨⟨p,q,h1,h2,h3,h4⟩,sm⟩:=s'
   cases h2 with
   | cons r rs e=>cases r with
    | av r=>cases r with
     | obj h m z=>exact m _ _ hid_le h
variable{E:FK}{X:Exc→Sl→Prop}{Q:TV→Prop}{Pre:List AV→Prop}{Post:List AV→AV→Prop}
end
section
variable{P:Program}{w:World}{K:W.Frag}{mg:Str→Option Value}{base:Heap}{CX:CXT}{x qual:Str}{st:Stmt}{N ps:List Str}{k:Nat}
noncomputable def sp_lawT(K:W.Frag):Sp:=fun vs H Q _=>TabsIn H∧∃ (a:Addr) (ns:List Int),vs=[.ref a]∧SqL K H a (ns.map V.int)∧ns.length≤63∧(∀ x∈ns,Builtin.Int.intBits x≤2 ^ 20)∧∀ H',Same H H'→Q (.bl true) H'
theorem val_lawT{f:Addr}{fd:FuncData}{dV:Value}(F:FunD K x qual st dV f fd)(Sc:FnScope N ps (defScope st))(hps:ps.length=1)
  (hbody:∀ (cdv:Value) (A:Around) (outer:List Env) (s:Shared) (H:Hp) (E:XK),Room k (A.deeper (envOfC qual (defScope st) s.heap.objs.size f cdv)) →
   ∃ t,PSs (cxOf CX P w K mg base N qual (defScope st) f cdv A outer s H E).nox (defBody st) t∧∀ ns:List Int,ns.length≤63→(∀ x∈ns,Builtin.Int.intBits x≤2 ^ 20)→Sv K (toF E) NE t (ini N [dI ns]) (fin (.d (.bool true)))) :
  FnOk P w K mg base CX (k+1) f fd ps (sp_lawT K):=by
 refine F.ok (k:=k) Sc (fun vs H Q E h=>?_) fun cdv A outer s H vs Q E hr h=>?_
 ·obtain⟨_,a,ns,rfl,_⟩:=h
  exact hps.symm
 ·obtain⟨tb,a,ns,rfl,hS,hl,hb,q⟩:=h
  obtain⟨t,h1,h2⟩:=hbody cdv A outer s H E hr
  refine⟨t,h1,val_body (E:=E) (S:=fun ds c=>∃ ns:List Int,ds=[dI ns]∧(ns.length≤63∧∀ x∈ns,Builtin.Int.intBits x≤2 ^ 20)∧c=.d (.bool true)) ⟨tb,[dI ns],.cons (.ints hS) .nil,.inl ⟨_,⟨ns,rfl,⟨hl,hb⟩,rfl⟩,fun v H' r=>?_⟩⟩ fun ds c hc=>?_⟩
  ·obtain⟨sm,p,_,_,ra⟩:=r
   cases ra with
   | d rp _=>rw[Rep.bl_inv rp];exact q _ sm
  ·obtain⟨ns,rfl,⟨hl,hb⟩,rfl⟩:=hc
   exact h2 ns hl hb
end
end VL
namespace L2
open PySem PySem.Spec PySem.Calls PyProof.Rows PySem.W
noncomputable def H00(ts:List (Addr×(Nat→Nat→Str)))(sc:Option (Addr×HO)):Hp:=fun b=>match ts.lookup b with
 | some q=>some (.tbq q)
 | none=>match sc with
  | some (a,o)=>if b=a then some o else none
  | none=>none
theorem lookup_of{ts:List (Addr×(Nat→Nat→Str))}(nd:(ts.map Prod.fst).Nodup){p:Addr×(Nat→Nat→Str)}(h:p∈ts):ts.lookup p.1=some p.2:=by
 induction ts with
 | nil=>cases h
 | cons q r ih =>
  rw[List.map_cons,List.nodup_cons] at nd
  rw[show (q::r)=((q.1,q.2)::r) from rfl,List.lookup_cons]
  rcases List.mem_cons.mp h with e|h
  ·subst e
   rw[beq_self_eq_true]
  ·have hne:p.1≠q.1:=fun z=>nd.1 (z▸List.mem_map_of_mem h)
   rw[beq_false_of_ne hne]
   exact ih nd.2 h
theorem mem_of_lk{ts:List (Addr×(Nat→Nat→Str))}{b:Addr}{q:Nat→Nat→Str}(h:ts.lookup b=some q):(b,q)∈ts:=by
 induction ts with
 | nil=>cases h
 | cons p r ih =>
  rw[show (p::r)=((p.1,p.2)::r) from rfl,List.lookup_cons] at h
  cases e:b == p.1 with
  | true =>
   rw[e] at h
   cases h
   rw[beq_iff_eq.mp e]
   exact .head _
  | false=>rw[e] at h;exact .tail _ (ih h)
theorem law_callT{P:Program}{w:World}{K:W.Frag}{mg mb:Str→Option Value}{CX:CXT}{k:Nat}{fa a:Addr}{fd:FuncData}{x:Str}{sp:Sp}{s₁:Shared}{vs:List Value}{ns:List Int}{ts:List (Addr×(Nat→Nat→Str))}
  (nd:(ts.map Prod.fst).Nodup) (KX:K.In s₁.heap) (hns:s₁.heap.Ns mainGlobals mg) (hb:s₁.heap.Ns builtinsNs mb) (hbb:∀ x:Str,x ≠ "__name__" → mb x=bootBuiltins x) (hlim:s₁.heap.NoLimit) (hg:s₁.gens=#[])
  (ha:s₁.heap.get? a=some { cls:=.type "list",data:=.seq vs.toArray }) (hi:IntsAre vs ns) (hl:ns.length≤sizeLine) (hr:Room k callerA)
  (hts:∀ p∈ts,s₁.heap.get? p.1=some (tabObj #[])∧K.lookup p.1=none∧isCodeTable s₁.heap p.1) (hbm:s₁.heap.BuiltinsAt mg mainGlobals)
  (F:∀ base:Heap,K.In base→base.Ns mainGlobals mg→base.BuiltinsAt mg mainGlobals→FnOk P w K mg base CX k fa fd [x] sp) (hbind:∀ (s:Shared) (u:Value),BindsTo s fd ⟨[u],[]⟩ [(x,u)])
  (hsp:∀ H:Hp,(∀ p∈ts,H p.1=some (.tbq p.2))→SqL K H a (ns.map V.int)→sp [.ref a] H (fun v H'=>v=.bl true∧Same H H') fun _ _ _=>False)
  (hCX:∀ H e s',CX [] H s₁ (fun _ _ _=>False) e s'→False) :
  codeAny (model P w) callerA (.call (.ref fa) ⟨[.ref a],[]⟩) (fun r s'=>r=.ok (.ret (.bool true))∧OldK s₁.heap s'.heap∧s'.os=s₁.os∧AllBare s'.gens) s₁:=by
 have rv:=vals_ints hi
 have lenV:=hi.length
 have core:∀ H:Hp,(∀ p∈ts,H p.1=some (.tbq p.2))→SqL K H a (ns.map V.int)→HOk P w H s₁.heap→(∀ b o,H b=some o→(∃ p∈ts,b=p.1)∨(b=a∧∃ ob u,o=.frz ob u))→(∀ b o,H b=some o→K.lookup b=none) →
   codeAny (model P w) callerA (.call (.ref fa) ⟨[.ref a],[]⟩) (fun r s'=>r=.ok (.ret (.bool true))∧OldK s₁.heap s'.heap∧s'.os=s₁.os∧AllBare s'.gens) s₁:=by
  intro H hT hS hok hA hK
  have noA:∀ {b:Addr} {o:Obj},s₁.heap.get? b=some o→(∀ vs n,o.data≠.seq vs n)→(∀ vs,o.data≠.fields vs)→H b=none:=fun {b o} e n1 n2=>by
   cases q:H b with
   | none=>rfl
   | some u =>
    rcases hA b u q with⟨p,hp,rfl⟩|⟨rfl,_⟩
    ·rw[(hts p hp).1] at e
     cases e
     exact absurd rfl (n2 _)
    ·rw[ha] at e
     cases e
     exact absurd rfl (n1 _ _)
  have nsK:∀ {b:Addr} {m:Str→Option Value},s₁.heap.Ns b m→(hidT s₁.heap H).Ns b m:=fun {b m} ⟨o,es,ep,e,d,r⟩ =>
   ⟨o,es,ep,hidT_get e (noA e (fun _ _ z=>by rw[d] at z;cases z) fun _ z=>by rw[d] at z;cases z),d,r⟩
  have hKb:K.In (hidT s₁.heap H):=fun b o e=>hidT_get (KX b o e) (by
   cases q:H b with
   | none=>rfl
   | some u=>rw[hK b u q] at e;cases e)
  have hM:Mod K mg (hidT s₁.heap H):=⟨hKb,nsK hns,⟨mb,nsK hb,hbb⟩,let ⟨mc,h1,h2⟩:=hlim;⟨mc,nsK h1,h2⟩⟩
  have hB:(hidT s₁.heap H).BuiltinsAt mg mainGlobals:=by
   obtain⟨bm,o,b1,b2,b3,b4,b5,b6,b7,b8⟩:=hbm
   exact⟨bm,o,b1,b2,b3,b4,hidT_get b5 (noA b5 (fun _ _ z=>by rw[b8] at z;cases z) fun _ z=>by rw[b8] at z;cases z),b6,b7,b8⟩
  have e0:Env0 P w K mg (hidT s₁.heap H) callerA [] s₁ H:=⟨rfl,hM,fun b o e=>of_hidT e,Nat.le_of_eq (hidT_size _ _),trivial,fun b hb=>absurd (show b∈([]:List Addr) from hb) (by simp),hok,.of_eq hg⟩
  refine codeAny_mono ((F _ hKb (nsK hns) hB).run callerA [] s₁ H ⟨[.ref a],[]⟩ [.ref a] [.ref a] _ _ hr e0 (hbind s₁ (.ref a)) (.cons rfl .nil) (hsp H hT hS)) fun r s' h=>?_
  cases r with
  | error e=>exact (hCX H e s' h).elim
  | ok fl =>
   cases fl with
   | next=>exact False.elim h
   | brk=>exact False.elim h
   | cont=>exact False.elim h
   | ret u =>
    obtain⟨v,H',os,bare,un,hok',r',q',sm⟩:=h
    subst q'
    obtain rfl:u=Value.bool true:=r'
    refine⟨rfl,⟨fun b o e=>?_,fun b o e=>un.there b o e (by simp)⟩,os,bare⟩
    cases q:H b with
    | none=>exact .inl (un.keep b o e q (by intro z;exact absurd (show b∈([]:List Addr) from z) (by simp)) (by simp))
    | some u =>
     rcases hA b u q with⟨p,hp,rfl⟩|⟨rfl,ob,y,rfl⟩
     ·obtain⟨e1,_,e3⟩:=hts p hp
      rw[e1] at e
      cases e
      obtain⟨ps,e4,_⟩:=hok' p.1 _ (sm _ _ (hT p hp))
      exact .inr (.inl ⟨e3,rfl,#[],ps,rfl,by rw[Array.empty_append];exact e4⟩)
     ·have e1:=(hok b _ q).1
      have e2:=(hok' b _ (sm _ _ q)).1
      rw[e] at e1
      cases e1
      exact .inl e2
 have naT:∀ p∈ts,p.1≠a:=fun p hp z=>by
  have:=(hts p hp).1
  rw[z,ha] at this
  cases this
 have lka:ts.lookup a=none:=by
  cases e:ts.lookup a with
  | none=>rfl
  | some q=>exact absurd rfl (naT _ (mem_of_lk e))
 have tbl:∀ {sc:Option (Addr×HO)} {b:Addr} {q:Nat→Nat→Str},ts.lookup b=some q→ObjOk P w (H00 ts sc) s₁.heap b (.tbq q):=fun {sc b q} e =>
  ⟨#[],(hts _ (mem_of_lk e)).1,trivial,fun pos cv z=>by simp[codeAmong] at z⟩
 have hT:∀ sc,∀ p∈ts,H00 ts sc p.1=some (.tbq p.2):=fun sc p hp=>by unfold H00;rw[lookup_of nd hp]
 cases hk:K.lookup a with
 | some o =>
  have e:=KX a o hk
  rw[ha] at e
  cases e
  refine core (H00 ts none) (hT none) (.inr ⟨_,vs.toArray,_,hk,rfl,rfl,rfl,by rw[List.size_toArray,lenV];exact hl,by simpa using rv⟩) (fun b u z=>?_) (fun b u z=>?_) fun b u z=>?_
  ·unfold H00 at z
   cases e:ts.lookup b with
   | none=>rw[e] at z;cases z
   | some q=>rw[e] at z;cases z;exact tbl e
  ·unfold H00 at z
   cases e:ts.lookup b with
   | none=>rw[e] at z;cases z
   | some q=>exact .inl ⟨_,mem_of_lk e,rfl⟩
  ·unfold H00 at z
   cases e:ts.lookup b with
   | none=>rw[e] at z;cases z
   | some q=>exact (hts _ (mem_of_lk e)).2.1
 | none =>
  have hsa:H00 ts (some (a,.frz { cls:=.type "list",data:=.seq vs.toArray } (.lst (ns.map V.int)))) a=some (.frz { cls:=.type "list",data:=.seq vs.toArray } (.lst (ns.map V.int))):=by
   unfold H00;rw[lka];exact if_pos rfl
  refine core (H00 ts (some (a,.frz { cls:=.type "list",data:=.seq vs.toArray } (.lst (ns.map V.int))))) (hT _) (.inl (.inr ⟨_,hsa⟩)) (fun b u z=>?_) (fun b u z=>?_) fun b u z=>?_
  ·by_cases hb:b=a
   ·subst hb
    rw[hsa] at z
    cases z
    exact⟨ha,by rw[List.length_map];exact hl,vs,_,rv,ha⟩
   ·unfold H00 at z
    cases e:ts.lookup b with
    | none=>rw[e] at z;have z':=(if_neg hb).symm.trans z;cases z'
    | some q=>rw[e] at z;cases z;exact tbl e
  ·by_cases hb:b=a
   ·subst hb
    rw[hsa] at z
    cases z
    exact .inr ⟨rfl,_,_,rfl⟩
   ·unfold H00 at z
    cases e:ts.lookup b with
    | none=>rw[e] at z;have z':=(if_neg hb).symm.trans z;cases z'
    | some q=>exact .inl ⟨_,mem_of_lk e,rfl⟩
  ·by_cases hb:b=a
   ·rw[hb];exact hk
   ·unfold H00 at z
    cases e:ts.lookup b with
    | none=>rw[e] at z;have z':=(if_neg hb).symm.trans z;cases z'
    | some q=>exact (hts _ (mem_of_lk e)).2.1
theorem walk_ofT{l:PySem.W.OpenLaw}{n k:Nat}{q:Program}{loose:List Str}{XP:(Str→Option Value)→Heap→Prop}{YP:World→Heap→Prop}{d:DefRec}{K:Params→W.Frag}{CX:World→CXT}{sp:World→Sp}{x:Str}{ts:List (Addr×(Nat→Nat→Str))}
  (nd:(ts.map Prod.fst).Nodup) (hn:l.most=some n) (hn2:n≤sizeLine) (hdf:d.params.defaults=[]) (hr:Room k callerA)
  (hY:∀ (w:World) (h:Heap),YP w h→(K w.params).In h) (hYt:∀ (w:World) (h:Heap),YP w h→∀ p∈ts,h.get? p.1=some (tabObj #[])) (hK:∀ (w:World) (p:Addr×(Nat→Nat→Str)),p∈ts→(K w.params).lookup p.1=none∧∃ c,codeHdIn (K w.params) c p.1=true)
  (F:∀ (w:World) (mg:Str→Option Value) (fa:Addr) (h:Heap),(K w.params).In h→h.Ns mainGlobals mg→mg d.name=some (.ref fa) →
   ∃ fd:FuncData,(∀ (s:Shared) (u:Value),BindsTo s fd ⟨[u],[]⟩ [(x,u)]) ∧
    ∀ base:Heap,(K w.params).In base→base.Ns mainGlobals mg→base.BuiltinsAt mg mainGlobals→FnOk l.prog w (K w.params) mg base (CX w) k fa fd [x] (sp w))
  (hsp:∀ (w:World) (H:Hp) (a:Addr) (ns:List Int),ns.length≤n→(∀ x∈ns,Builtin.Int.intBits x≤2 ^ 20)→(∀ p∈ts,H p.1=some (.tbq p.2))→SqL (K w.params) H a (ns.map V.int)→sp w [.ref a] H (fun v H'=>v=.bl true∧Same H H') fun _ _ _=>False)
  (hCX:∀ (w:World) (H:Hp) (s:Shared) (e:Value) (s':Shared),CX w [] H s (fun _ _ _=>False) e s'→False) :
  PySem.W.WalkO q loose XP YP l.row.toRowW d [] (fun f vs=>PySem.call f vs):=by
 refine attach_callB hn hdf fun w s₀ s₁ mg mb fa o pm cd doc a vs ns G Y ho hd hcd hmg hobj hints hlen hg hbits=>?_
 have KX:=hY w _ Y
 obtain⟨fd,hb,hF⟩:=F w mg fa _ KX G.T.g hmg
 have hbm:s₁.heap.BuiltinsAt mg mainGlobals:=by
  obtain⟨bm,ob,b1,b2,b3,b4,b5,b6⟩:=G.T.bmain
  have hne:bm≠mainGlobals:=fun z=>by
   obtain⟨o,es,ep,e,d,_⟩:=G.T.g
   rw[z,e] at b3
   cases b3
   rw[d] at b6
   cases b6
  exact⟨bm,ob,b1,b2,hne,hne,b3,b4,b5,b6⟩
 refine law_callT nd KX G.T.g G.T.b G.T.builtins G.T.nolimit hg hobj hints (Nat.le_trans hlen hn2) hr (fun p hp=>?_) hbm hF hb (fun H hT hS=>hsp w H a ns hlen hbits hT hS) fun H e s'=>hCX w H s₁ e s'
 obtain⟨h1,c,h2⟩:=hK w p hp
 have h3:=hYt w _ Y p hp
 exact⟨h3,h1,((codeHd_of_K KX h2).tab h3).isCodeTable⟩
end L2
end
section
namespace L2
open PySem PySem.Spec PyProof.Rows
section
variable{X:Cx}{pins:List (Addr×Obj)}{σ:St}{H:Hp}{s:Shared}{a:Addr}{y v:V}{u r:Value}{A:Around}{E:Value→Shared→Prop}
theorem d_dset{H':Hp}{Q:Unit→Shared→Prop}(hu:A.units+1<cLine)(I:Inv X pins σ H s)(g:DPut H a y v H')(ry:RelV y u)(rv:RelV v r)(h:∀ s',Inv X pins σ H' s'→Q () s') :
  wpAny (model X.prog X.w) A (dictSet a u r) Q E s:=by
 rcases g with⟨kvs,k,e,ey,l,eH⟩|⟨kvs,k,b,e,ey,eb,l,eH⟩
 ·subst ey eH
  obtain⟨z,hd,vs,rel,dd⟩:=dk_of I.hok e
  have hz:vs.length≤sizeLine:=by rw[← rel.length];exact z
  have hl:(putK kvs k v).length≤sizeLine:=by have:=length_putK kvs k v;omega
  refine wpAny_dictSet_pairs (hsz:=hz) (kV_is ry) dd fun h' dd' hs=>h _ ?_
  have he:∃ q,h'.get? a=some q:=let ⟨q,_,_,hq,_⟩:=dd';⟨q,hq⟩
  exact d_write I (by rw[e];exact True.intro) hs he (dk_new hl hd (rel.put k rv) dd')
 ·subst ey eH
  cases (show u=Value.ref b from ry)
  obtain⟨z,hd,xs,rel,dd⟩:=dt_of I.hok e
  have hz:xs.length≤sizeLine:=by rw[← Paired.length rel];exact z
  have hl:(putK kvs k v).length≤sizeLine:=by have:=length_putK kvs k v;omega
  refine wpAny_dictSet_heap (hsz:=hz) (show A.units<cLine by omega) (key_of I.hok eb) dd fun h' dd' hs=>h _ ?_
  obtain⟨q,es,ep,hq,h2,h3,h4,_,h5⟩:=dd'
  refine d_write I (by rw[e];exact True.intro) hs ⟨q,hq⟩ ⟨hl,hd,_,(rel.put k eb rv).keeps fun c ys ec=>?_,q,es,ep,hq,h2,h3,h4,h5⟩
  rw[upd_ne (ne_of ec e (fun z=>nomatch z))]
  exact ec
theorem d_dsetN{kvs:List ((Key×List Key)×V)}{k:Key×List Key}{b:Addr}{Q:Unit→Shared→Prop}(hu:A.units+2<cLine)(I:Inv X pins σ H s)(e:H a=some (.dN kvs))(eb:KeyN H b k)(l:kvs.length<sizeLine)(ry:RelV (.ref b) u)(rv:RelV v r)(h:∀ s',Inv X pins σ (upd H a (.dN (putK kvs k v))) s'→Q () s') :
  wpAny (model X.prog X.w) A (dictSet a u r) Q E s:=by
 cases (show u=Value.ref b from ry)
 obtain⟨z,hd,xs,rel,dd⟩:=dn_rd I.hok (.inl e)
 have hz:xs.length≤sizeLine:=by rw[← Paired.length rel];exact z
 have hl:(putK kvs k v).length≤sizeLine:=by have:=length_putK kvs k v;omega
 refine wpAny_dictSet_heap (hsz:=hz) (show (pairKind (mixKind X.prog X.w)).room A from ⟨by omega,by show A.units+1<cLine;omega⟩) (keyN_of I.hok eb) dd fun h' dd' hs=>h _ ?_
 obtain⟨q,es,ep,hq,h2,h3,h4,_,h5⟩:=dd'
 refine d_write I (by rw[e];exact True.intro) hs ⟨q,hq⟩ ⟨hl,hd,_,(rel.put k eb rv).keeps fun c ys ec=>?_,q,es,ep,hq,h2,h3,h4,h5⟩
 rw[upd_ne (ne_of ec e (fun z=>nomatch z))]
 exact ec
theorem d_dset0{H':Hp}{Q:Unit→Shared→Prop}(hu:A.units+2<cLine)(I:Inv X pins σ H s)(g:DPut0 H a y v H')(ry:RelV y u)(rv:RelV v r)(h:∀ s',Inv X pins σ H' s'→Q () s') :
  wpAny (model X.prog X.w) A (dictSet a u r) Q E s:=by
 have big:([]:List (Key×V)).length<sizeLine:=by decide
 have big':([]:List (List Key×V)).length<sizeLine:=by decide
 rcases g with g|⟨k,rfl,e,rfl⟩|⟨k,b,rfl,eb,e,rfl⟩|⟨kvs,k,b,e,rfl,eb,l,rfl⟩|⟨k,b,rfl,eb,e,rfl⟩
 ·exact d_dset (by omega) I g ry rv h
 ·have x:=I.hok a _ e
  obtain⟨q,hq⟩:∃ q,s.heap.get? a=some q:=by obtain⟨_,_,_,_,q,_,_,hq,_⟩:=x;exact⟨q,hq⟩
  have J:Inv X pins σ (upd H a (.dK [])) s:=d_write (t':=s.toks) I (by rw[e];exact True.intro) (Heap.SameBut.refl a s.heap) ⟨q,hq⟩ (dt_dk x)
  refine d_dset (by omega) J (DPut.k (k:=k) (v:=v) upd_same big) ry rv fun s' J'=>h s' ?_
  rw[upd_upd] at J'
  exact J'
 ·have x:=I.hok a _ e
  obtain⟨q,hq⟩:∃ q,s.heap.get? a=some q:=by obtain⟨_,_,_,_,q,_,_,hq,_⟩:=x;exact⟨q,hq⟩
  have J:Inv X pins σ (upd H a (.dT [])) s:=d_write (t':=s.toks) I (by rw[e];exact True.intro) (Heap.SameBut.refl a s.heap) ⟨q,hq⟩ (dk_dt x)
  refine d_dset (by omega) J (DPut.t (k:=k) (v:=v) upd_same (by rw[upd_ne (ne_of eb e (fun z=>nomatch z))];exact eb) big') ry rv fun s' J'=>h s' ?_
  rw[upd_upd] at J'
  exact J'
 ·exact d_dsetN hu I e eb l ry rv h
 ·have x:ObjOk X.prog X.w H s.heap a (.dK []):=by
   rcases e with e|e
   ·exact I.hok a _ e
   ·exact dt_dk (I.hok a _ e)
  obtain⟨q,hq⟩:∃ q,s.heap.get? a=some q:=by obtain⟨_,_,_,_,q,_,_,hq,_⟩:=x;exact⟨q,hq⟩
  have mu:Mut (H a):=by rcases e with e|e<;>rw[e]<;>exact True.intro
  have J:Inv X pins σ (upd H a (.dN [])) s:=d_write (t':=s.toks) I mu (Heap.SameBut.refl a s.heap) ⟨q,hq⟩ (dk_dn x)
  have nt:∀ c ys,H c=some (.tup ys)→upd H a (.dN []) c=some (.tup ys):=fun c ys ec=>by
   rw[upd_ne (by rcases e with e|e<;>exact ne_of ec e (fun z=>nomatch z))];exact ec
  refine d_dsetN hu J upd_same (let ⟨c,e1,e2⟩:=eb;⟨c,nt _ _ e1,nt _ _ e2⟩) (by decide) ry rv fun s' J'=>h s' ?_
  rw[upd_upd] at J'
  exact J'
end
noncomputable def tDisp1(tk tv:TE):TE:=fun σ H Q=>∀ p,H p=none→tk σ (upd H p (.dK [])) fun x H1=>tv σ H1 fun y H2=>∃ H',DPut0 H2 p x y H'∧Q (.ref p) H'
theorem pe_disp1{X:Cx}{k v:Expr}{tk tv:TE}{pos:Pos}(hu:X.A.units+64<cLine)(hk:PE X k tk)(hv:PE X v tv):PE X (.Dict [some k] [v] pos) (tDisp1 tk tv):=by
 intro pins s σ H Q I q
 have hn:=I.hok.fresh (Nat.le_refl s.heap.objs.size)
 have I1:=I.laid (a:=s.heap.objs.size) (o:=.dK []) (h':=s.heap.push { cls:=.type "dict",data:=.dict #[] }) (t':=s.toks) (fun _ _ q=>Heap.get?_push_of_some _ q) (Nat.le_refl _) (dk_empty s.heap I.big)
 refine wpAny_Dict_any rfl rfl (by simp) (by show 1≤15;decide) ?_
 refine pairTrees_cons_walk (thn (hk pins _ σ _ _ I1 (q _ hn)) fun u s1 ⟨x,H1,I2,rx,q1⟩=>thn (hv pins s1 σ H1 _ I2 q1) fun w2 s2 ⟨y,H2,I3,ry,H',g,q2⟩=>pairTrees_nil_walk ?_)
 unfold storeAll
 rw[List.forIn_cons]
 refine wpAny_bind (wpAny_bind (d_dset0 (by omega) I3 g rx ry fun s' J=>wpAny_pure ?_))
 show wpAny _ _ (forIn [] PUnit.unit _) _ _ _
 rw[List.forIn_nil]
 exact wpAny_pure ⟨.ref s.heap.objs.size,H',J,rfl,q2⟩
noncomputable def tAsgD(tk tv:TE)(n:Nat):TS:=tAsg (tDisp1 tk tv) (gName n)
theorem ps_setD{X:Cx}{i:Nat}{x:Str}{e:Expr}{tk tv:TE}{pos pos':Pos}(hN:X.N.Nodup)(hi:X.N[i]?=some x)(hx:Loc X.env.scope x)(he:PE X e (tDisp1 tk tv))(hs:swapsWith e (some (.Name x pos')) pos.line X.env=pure false:=by rfl)(hf:X.fn x=true∨X.env.scope.names.lookup x=some .local:=by first|exact .inl rfl|exact .inr rfl|assumption) :
  PS X (.Assign [.Name x pos'] e pos) (tAsgD tk tv i):=ps_set hN hi hx he hs hf
end L2
namespace VL
open PySem PySem.Spec PyProof.Rows L2
variable[Tabs]
section
variable{K:W.Frag}{E:FK}{X:Exc→Sl→Prop}{ρ:Sl}{Q:TV→Prop}{te:TE}{A:TA}
theorem SR.putT{H0 H:Hp}{σ:L2.St}{ts:List V}{as:List TV}{α:Type}[DecidableEq α]{f:α→PyData}{c:α}{z:PyData}{v w:V}{l:Addr}{b:TV}(F:KEnc f)(s:SR K H0 σ ρ (v::w::.ref l::ts) (.av (.d z)::b::.av (.dic [])::as) H)(st:Stb as)(eb:b.data=f c)(nb:NR b) :
  ∃ H',DPut0 H l w v H'∧SR K H0 σ ρ (.ref l::ts) (.av (.dic (encD f [(c,z)]))::as) H':=by
 have hx:=s.pop.top nb
 rw[eb] at hx
 obtain⟨⟨p,q,h1,h2,h3,h4⟩,sm⟩:=s
 cases h2 with
 | @cons _ _ _ _ q1 q2 _ r rs eq =>
 cases r with
 | av r =>
 cases r with
 | d rp eqz =>
 cases rs with
 | @cons _ _ _ _ q3 q4 _ r3 rs eq3 =>
 cases rs with
 | @cons _ _ _ _ q5 q6 _ r rs eq2 =>
 cases r with
 | av r =>
 cases r with
 | @dic _ o _ _ hl hd ep =>
  have hd2:DicAt K H o (encD f ([]:List (α×PyData))):=hd.mono hid_le
  obtain⟨o2,p1,p2,p3⟩:=dic_put (v:=v) F hd2 hx (by simp)
  have ql:q5 l=1:=by have:=ep l;simpa using this
  have tot:∀ b,q b=q1 b+(q3 b+(q5 b+q6 b)):=fun b=>by have:=eq b;have:=eq3 b;have:=eq2 b;omega
  have m0:Same (VL.hid H p q) (VL.hid (upd H l o2) p q):=hid_upd fun b u y _=>⟨y,fun z=>by subst z;have:=tot b;omega⟩
  have k2:∀ b u,0<p b+q6 b→H b=some u→upd H l o2 b=some u:=fun b u y e=>by
   rw[upd_ne (fun z=>by subst z;have:=h3 b;have:=tot b;omega)];exact e
  have s2:Same H0 (upd H l o2):=sm.updF (h4 l (by have:=tot l;omega))
  refine⟨upd H l o2,p1 l hl,SR.of_le (p:=p) (q:=q) (p':=p) (q':=fun b=>(if b=l then 1 else 0)+q6 b) s2 h3 h4 (fun b=>?_) (h1.mono m0 fun b u y e=>k2 b u (by omega) e) (.cons (.av (.dic upd_same (p3 _ z (hd.mono m0) (rp.same m0)) fun _=>rfl)) (rs.monoS m0 st fun b o y e=>k2 b o (by omega) e) fun _=>rfl)⟩
  have:=ep b
  have:=tot b
  show p b+((if b=l then 1 else 0)+q6 b)≤p b+q b
  omega
theorem sv_disp1{α:Type}[DecidableEq α]{f:α→PyData}{tk tv:TE}{n:Nat}{nx bk ct:Sl→Prop}{rt:TV→Prop}(F:KEnc f)(hn:n<ρ.length)(h:Ev K E X tk ρ fun b=>∃ c,b.data=f c∧NR b∧Ev K E X tv ρ fun a=>∃ z,a.sto=some (.d z)∧nx (ρ.set n (some (.dic (encD f [(c,z)]))))) :
  Sv K E X (tAsgD tk tv n) ρ ⟨nx,rt,bk,ct⟩:=fun H0 σ ts as H D st s x fi=>by
 intro p hp
 refine h H0 σ _ _ _ _ (s.newD hp) x fun b ⟨c,eb,nb,h2⟩ w H1 s1=>h2 H0 σ _ _ H1 _ s1 x fun a ⟨z,ea,q⟩ v H2 s2=>?_
 obtain⟨H',g,s3⟩:=SR.putT F (s2.sto ea) st eb nb
 exact⟨H',g,fi.nx _ q _ _ (s3.store hn)⟩
end
end VL
end
section
namespace L2
open PySem PySem.Spec PyProof.Rows
noncomputable def posOf(s:Stmt):Pos:=match s with
 | .FunctionDef _ _ _ _ _ _ _ _ _ p=>p
 | _=>⟨0,0,0,0⟩
structure TxM(K:W.Frag)(mg:Str→Option Value)(x:Str)(st:Stmt)(ps:List Str)(c0 Pt:Addr):Prop where
 ex:∃ (f:Addr) (oc kV doc pm ct:Value) (od an:Option Addr) (osl:Array (Option Value)),
  K.lookup f=some ⟨oc,od,.func (PySem.W.fnOf x x (defArgs st) (defBody st) (defScope st) .none kV doc pm an (.ref c0) ct),osl⟩∧PySem.W.codeIn K (.ref c0) x=true∧mg x=some (.ref f)∧PySem.W.keepIn K (.ref f)=true ∧
  Binds K (PySem.W.fnOf x x (defArgs st) (defBody st) (defScope st) .none kV doc pm an (.ref c0) ct) ps []
 tab:PySem.W.codeHdIn K c0 Pt=true
theorem tx_mkM{K:W.Frag}{h:Heap}{mg:Str→Option Value}{x:Str}{st:Stmt}{ps:List Str}{f c0 Pt:Addr}{oc kV doc pm ct:Value}{od an:Option Addr}{sl:Array (Option Value)}(X:K.In h)(G:h.Ns mainGlobals mg)
  (a:PySem.W.nsIn K mainGlobals x=some (some (.ref f))) (l:K.lookup f=some ⟨oc,od,.func (PySem.W.fnOf x x (defArgs st) (defBody st) (defScope st) .none kV doc pm an (.ref c0) ct),sl⟩)
  (c:PySem.W.codeIn K (.ref c0) x=true) (k:PySem.W.keepIn K (.ref f)=true) (m:PySem.W.codeHdIn K c0 Pt=true)
  (hb:∀ (us:List Value),us.length=ps.length→bindArgs (PySem.W.fnOf x x (defArgs st) (defBody st) (defScope st) .none kV doc pm an (.ref c0) ct) ⟨us,[]⟩=pure (ps.zip us)):TxM K mg x st ps c0 Pt :=
 ⟨⟨f,oc,kV,doc,pm,ct,od,an,sl,l,c,PySem.W.mg_of X G a,k,.all hb⟩,m⟩
end L2
namespace VL
open PySem PySem.Spec PyProof.Rows L2
variable[Tabs]
theorem valRM{P:Program}{w:World}{K:W.Frag}{mg:Str→Option Value}{base:Heap}{CX:CXT}{x:Str}{st:Stmt}{N ps:List Str}{k:Nat}{c0 Pt:Addr}{Pre:List AV→Prop}{Post:List AV→AV→Prop}(T:TxM K mg x st ps c0 Pt)(Sc:FnScope N ps (defScope st))(hS:∀ cs,Pre cs→cs.length=ps.length)
  (hbody:∀ (f:Addr) (A:Around) (outer:List Env) (s:Shared) (H:Hp) (E:XK),Room k (A.deeper (envOfC x (defScope st) s.heap.objs.size f (.ref c0))) →
   ∃ t,PSs (cxOf CX P w K mg base N x (defScope st) f (.ref c0) A outer s H E).nox (defBody st) t∧∀ cs,Pre cs→Sv K (toF E) NE t (inA N cs) (finR (Post cs))) :
  Cal P w K mg base CX (k+1) x ps [] (spR K Pre Post NP):=by
 obtain⟨f,oc,kV,doc,pm,ct,od,an,osl,lk,hcd,hm,hk,hb⟩:=T.ex
 refine⟨f,_,[],fn_of lk hcd Sc (fun vs H Q E h=>spR_len h hS) fun A outer s H vs Q E hr h=>?_,hm,hk,hb,.nil⟩
 obtain⟨t,h1,h2⟩:=hbody f A outer s H E hr
 exact⟨t,h1.nox,bodyR h fun cs pre=>h2 cs pre⟩
end VL
end
section
namespace L2
open PySem PySem.Spec PyProof.Rows
theorem pe_callVK{X:Cx}{P:Program}{w:World}{K:W.Frag}{mg:Str→Option Value}{base:Heap}{CX:CXT}{k:Nat}{E:XK}{x:Str}{p pos:Pos}{e:Expr}{es:List Expr}{t:TA}{i:Nat}(hP:X.prog=P)(hw:X.w=w)(hK:X.K=K)(hm:X.mg=mg)(hb:X.base=base)
  (hr:Room k X.A) (hx:Passes CX X E) (ha:PA X (e::es) t) (hN:X.N[i]?=some x:=by rfl) (hv:Vis X.env.scope x:=by first|exact Or.inl rfl|exact Or.inr (Or.inl rfl)|exact Or.inr (Or.inr rfl))
  (hd:(x == ("__debug__" : Str))=false:=by decide) (hcd:(x == ("__classdict__" : Str))=false:=by decide)
  (he:starEach (e::es) X.env=(false,eval e X.env)::starEach es X.env:=by rfl) (hpl:(backTo pos (starEach es X.env)).any (·.1)=false:=by rfl) :
  PE X (.Call (.Name x p) (e::es) [] pos) (tCallV P w K mg base CX k i E t):=by
 subst hP hw hK hm hb
 exact pe_callV hr hx ha hN hv hd hcd he hpl
end L2
namespace VL
open PySem PySem.Spec PyProof.Rows L2
variable[Tabs]
noncomputable def spF{Θ:Type}(K:W.Frag)(Pre:Θ→List AV→Prop)(Post:Θ→List AV→AV→Prop):Sp:=fun vs H Q E=>∃ θ,spR K (Pre θ) (Post θ) NP vs H Q E
section
variable{P:Program}{w:World}{K:W.Frag}{mg:Str→Option Value}{base:Heap}{CX:CXT}{x:Str}{st:Stmt}{N ps:List Str}{dvss:List (List V)}{k:Nat}{Θ:Type}{Pre:Θ→List AV→Prop}{Post:Θ→List AV→AV→Prop}
theorem valRF(T:Tx K mg x st ps dvss)(Sc:FnScope N ps (defScope st))(hS:∀ θ cs,Pre θ cs→cs.length=ps.length)
  (hbody:∀ (θ:Θ) (f:Addr) (cdv:Value) (A:Around) (outer:List Env) (s:Shared) (H:Hp) (E:XK),Room k (A.deeper (envOfC x (defScope st) s.heap.objs.size f cdv)) →
   ∃ t,PSs (cxOf CX P w K mg base N x (defScope st) f cdv A outer s H E).nox (defBody st) t∧∀ cs,Pre θ cs→Sv K (toF E) NE t (inA N cs) (finR (Post θ cs))) :
  ∀ dvs∈dvss,Cal P w K mg base CX (k+1) x ps dvs (spF K Pre Post) :=
 T.cal (k:=k) Sc (fun vs H Q E ⟨θ,h⟩=>spR_len h (hS θ)) fun f cdv A outer s H vs Q E hr ⟨θ,h⟩ =>
  let ⟨t,h1,h2⟩:=hbody θ f cdv A outer s H E hr
  ⟨t,h1,bodyR h fun cs pre=>h2 cs pre⟩
end
section
variable{K:W.Frag}{E:FK}{X:Exc→Sl→Prop}{ρ:Sl}{Q:TV→Prop}{Θ:Type}{Pre:Θ→List AV→Prop}{Post:Θ→List AV→AV→Prop}
theorem ev_rF0{A:TA}{E':XK}(h:Ea K E X A ρ fun bs=>∃ θ,ClR (Pre θ) (Post θ) NP [] Q (fun _=>True) bs):Ev K E X (tCall (spF K Pre Post) [] E' A) ρ Q:=fun H0 σ ts as H QV s x k =>
 h H0 σ ts as H _ s x fun bs ⟨θ,cs,sh,pre,q,_⟩ vs H' s' hl=>by
  obtain⟨rp,s2⟩:=SR.lent sh hl s'
  exact⟨θ,x.t.same s2.same,cs++[],rp.app dv_nil,pre,fun c hc v H2 r=>let ⟨a,g,z⟩:=q c hc;k a z v H2 (s2.gotG r g),fun e z=>z.elim⟩
theorem ev_rFL0{Y:Cx}{A:TA}{E':XK}(h:Ea K E X A ρ fun bs=>∃ θ cs,ShLs K Y ρ bs cs∧Pre θ (cs++[])∧∀ c,Post θ (cs++[]) c→c.plain=true∧∃ a,Got c a∧Q a):Ev K E X (tCallL Y (spF K Pre Post) [] E' A) ρ Q:=fun H0 σ ts as H QV s x k =>
 h H0 σ ts as H _ s x fun bs ⟨θ,cs,sh,pre,q⟩ vs H1 s' hl H2 L=>by
  obtain⟨rp,s2⟩:=SR.lentL L sh hl s'
  refine⟨θ,(x.t.same s2.same).same L.same,cs++[],rp.app dv_nil,pre,fun c hc v H3 r=>?_,fun e z=>z.elim⟩
  obtain⟨pl,a,g,z⟩:=q c hc
  exact k a z v _ (s2.gotG (Rs.unl pl L.own L.same r) g)
theorem ev_tupB{A:TA}(h:Ea K E X A ρ fun bs=>NRs bs∧bs.length≤1000∧Q (.bor (.tuple (bs.map TV.data)))):Ev K E X (tTup A) ρ Q:=fun H0 σ ts as H QV s x k =>
 h H0 σ ts as H _ s x fun bs ⟨nr,hz,q⟩ vs H2 s2 hl=>by
  obtain⟨rp,s3⟩:=SR.reps nr.all hl s2
  exact⟨Nat.le_of_lt (small1000 (by omega)),fun p hp=>k _ q _ _ ((s3.ext (same_new hp)).pushB (.tup upd_same (rp.same (same_new hp))))⟩
end
end VL
end
section
namespace VL
open PySem PySem.Spec L2
variable[Tabs]
section
variable{K:W.Frag}{G G' H H' H0:Hp}{σ:St}{ρ:Sl}{ts:List V}{as:List TV}{v x y:V}{a b:TV}
theorem SR.newTO{l:Addr}{vs:List V}{xs:List AV}(h:SR K H0 σ ρ (vs++ts) (xs.map TV.av++as) H)(e:vs.length=xs.length)(hl:H l=none):SR K H0 σ ρ (.ref l::ts) (.av (.tup xs)::as) (upd H l (.tup vs)):=by
 obtain⟨⟨p,q,h1,h2,h3,h4⟩,s⟩:=h
 have hL:=SR.lsts h1 h2
 obtain⟨p1,p2,e2,e3,e4⟩:=RTs.avs (xs:=xs) e h2
 have s2:Same H (upd H l (.tup vs)):=same_new hl
 have zl:p l+q l=0:=by
  rcases Nat.eq_zero_or_pos (p l+q l) with w|w
  ·exact w
  ·obtain⟨_,w,_⟩:=hL l w;rw[hl] at w;cases w
 have m:Same (hid H p q) (hid (upd H l (.tup vs)) p q):=same_hid s2
 refine⟨⟨p,q,h1.mono m (fun b o _=>s2 b o),.cons (.av (.tup ?_ (e3.mono m fun b o _=>s2 b o))) (e4.mono m s2) e2,h3,h4⟩,s.trans s2⟩
 unfold hid;rw[if_pos zl];exact upd_same
end
section
variable{K:W.Frag}{E:FK}{X:Exc→Sl→Prop}{ρ:Sl}{Q:TV→Prop}{DV:VEnds}{ta tb tc te ti tj:TE}{i j:Int}{n:Nat}{r r':R2}{t u:TS}{a b:TV}
theorem ev_chain{g g':Int→Int→Bool}(h:Ev K E X ta ρ fun a=>Ev K E X tb ρ fun b=>∃ i j,a=.av (.d (.int i))∧b=.av (.d (.int j))∧(g i j=true→Ev K E X tc ρ fun c=>∃ k,c=.av (.d (.int k))∧Q (.av (.d (.bool (g' j k)))))∧(g i j=false→Q (.av (.d (.bool false))))) :
  Ev K E X (tChain (rI0 fun i j=>.bl (g i j)) (rI0 fun i j=>.bl (g' i j)) ta tb tc) ρ Q:=fun H0 σ ts as H QV s x k=>by
 refine h H0 σ ts as H _ s x fun a h2 v1 H1 s1=>h2 H0 σ _ _ H1 _ s1 x fun b ⟨i,j,ea,eb,h3,h4⟩ v2 H2 s2=>?_
 subst ea eb
 have e2:=s2.top_d.int_inv
 have e1:=s2.pop.top_d.int_inv
 subst e1 e2
 refine⟨i,j,rfl,rfl,g i j,rfl,?_⟩
 by_cases z:g i j=true
 ·rw[if_pos z]
  refine h3 z H0 σ _ _ H2 _ s2.pop.pop x fun c ⟨k',ec,q⟩ v3 H3 s3=>?_
  subst ec
  have e3:=s3.top_d.int_inv
  subst e3
  exact⟨j,k',rfl,rfl,k _ q _ _ (s3.pop.bl _)⟩
 ·rw[if_neg z]
  exact k _ (h4 (by simpa using z)) _ _ (s2.pop.pop.bl _)
theorem isnt_N(ha:a.data=.none)(q:Q (.av (.d (.bool false))))(na:NR a:=by first|exact NR.av|exact NR.bor):Op K E X (fun x y H Q=>y=.non∧Q (.bl (!decide (x=.non))) H) a (.av (.d .none)) Q:=fun H0 σ ρ ts as H x y QV s _ k=>by
 have r:=s.pop.top na
 have r2:=s.top_d
 rw[ha] at r
 cases r
 cases r2
 exact⟨rfl,k _ q _ _ (s.pop.pop.bl _)⟩
noncomputable def someD:PyData→Bool
 | .tuple _=>true
 | .list _=>true
 | .int _=>true
 | .str _=>true
 | _=>false
theorem someD_ne{H:Hp}{v:V}{x:PyData}(hx:someD x=true)(r:Rep K H v x):v≠.non:=by
 intro e
 subst e
 cases r<;>simp[someD] at hx
theorem isnt_S(ha:someD a.data=true)(q:Q (.av (.d (.bool true))))(na:NR a:=by first|exact NR.av|exact NR.bor):Op K E X (fun x y H Q=>y=.non∧Q (.bl (!decide (x=.non))) H) a (.av (.d .none)) Q:=fun H0 σ ρ ts as H x y QV s _ k=>by
 have r:=s.pop.top na
 have r2:=s.top_d
 cases r2
 refine⟨rfl,?_⟩
 show QV (.bl (!decide (x=.non))) H
 rw[decide_eq_false (someD_ne ha r)]
 exact k _ q _ _ (s.pop.pop.bl _)
noncomputable abbrev OkS:={ x:Str // PyData.strOk x=true }
noncomputable abbrev dS(x:OkS):PyData:=.str x.1
theorem Enc.str:Enc dS 0:=⟨fun a b=>by simp[PyData.eqv,Subtype.ext_iff],fun x=>by simp[PyData.canLay0,x.2],fun _=>by simp[PyData.depth]⟩
end
end VL
end
section
namespace L2
open PySem PySem.Spec PyProof.Rows
end L2
namespace VL
open PySem PySem.Spec PyProof.Rows L2
variable[Tabs]
section
variable{K:W.Frag}{E:FK}{X:Exc→Sl→Prop}{ρ:Sl}{Q:TV→Prop}{te ti:TE}{A:TA}
end
end VL
end
section
namespace L2
open PySem PySem.Spec PyProof.Rows
end L2
namespace VL
open PySem PySem.Spec PyProof.Rows L2
variable[Tabs]
section
variable{K:W.Frag}{G H:Hp}
end
section
variable{K:W.Frag}{E:FK}{X:Exc→Sl→Prop}{ρ:Sl}{Q:TV→Prop}{DV:VEnds}{te ti:TE}{n:Nat}
end
end VL
end
section
namespace L2
open PySem PySem.Spec PyProof.Rows
section
variable{X:Cx}{x x':Str}{C C':Value}{np hpos np' hpos' pos:Pos}{body suite suite':List Stmt}{b₀ b₁:Stmt}{tb:FK→TS}{th th':TS}
end
end L2
namespace VL
open PySem PySem.Spec PyProof.Rows L2
variable[Tabs]
section
variable{K:W.Frag}{F:FK}{X:Exc→Sl→Prop}{ρ:Sl}{DV:VEnds}
end
end VL
end
section
namespace HT
open PySem PySem.Spec PyProof.Rows
end HT
namespace L2
open PySem PySem.Spec PyProof.Rows
section
variable{X:Cx}{K:W.Frag}
end
end L2
namespace VL
open PySem PySem.Spec PyProof.Rows L2
variable[Tabs]
section
variable{K:W.Frag}{E:FK}{X:Exc→Sl→Prop}{ρ:Sl}{Q:TV→Prop}{te:TE}{tl th:TO}
end
end VL
end
section
namespace L2
open PySem PySem.Spec PyProof.Rows
theorem passEL{P:Program}{w:World}{X:Cx}{E:XK}(h:E=E0:=by rfl):PassesL (CXE P w) X E:=by
 subst h
 intro _ _ _ _ _ _ _ h
 obtain⟨_,_,_,_,_,_,_,_,_,_,_,_,_,z⟩:=h
 exact z.elim
section
variable{X:Cx}{pins:List (Addr×Obj)}{σ:St}{H:Hp}{s:Shared}{F:FK}{k:Nat}{f:Addr}{fd:FuncData}{ps:List Str}{sp:Sp}{dvs:List V}{ds:List Value}{x:Str}{p pos:Pos}{e:Expr}{es:List Expr}{t:TA}
end
end L2
namespace VL
open PySem PySem.Spec PyProof.Rows L2
variable[Tabs]
section
variable{P:Program}{w:World}{K:W.Frag}{mg:Str→Option Value}{base:Heap}{x:Str}{st:Stmt}{N ps:List Str}{dvss:List (List V)}{k:Nat}{Θ:Type}{PreF:Θ→List AV→Prop}{PostF:Θ→List AV→AV→Prop}{PXF:Θ→List AV→Exc→Prop}{Pre:List AV→Prop}{Post:List AV→AV→Prop}{PX:List AV→Exc→Prop}
end
section
variable{K:W.Frag}{E:FK}{X:Exc→Sl→Prop}{ρ:Sl}{Q:TV→Prop}{Θ:Type}{Pre:Θ→List AV→Prop}{Post:Θ→List AV→AV→Prop}{PX:Θ→List AV→Exc→Prop}{te ti:TE}
end
end VL
end
section
namespace L2
open PySem PySem.Spec PyProof.Rows
section
variable{X:Cx}{A:Around}{ea:Addr}{CX:CXT}{k:Nat}{ps:List Str}{sp:Sp}{dvs:List V}{E:XK}{x:Str}{p pos:Pos}{e:Expr}{es:List Expr}{t:TA}
end
end L2
namespace VL
open PySem PySem.Spec PyProof.Rows L2
variable[Tabs]
end VL
end
section
namespace VL
open PySem PySem.Spec PyProof.Rows L2
variable[Tabs]
section
variable{K:W.Frag}{G H:Hp}
theorem RAs.cat{zs:List V}{ys:List AV}{q:Fp}(h2:RAs K G H zs ys q):∀ {vs:List V} {xs:List AV} {p:Fp},RAs K G H vs xs p→RAs K G H (vs++zs) (xs++ys) (fun b=>p b+q b)
 | _,_,p,.nil e=>by
  have z:(fun b=>p b+q b)=q:=funext fun b=>by rw[e b,Nat.zero_add]
  rw[z]
  exact h2
 | _,_,_,.cons r1 rs e=>.cons r1 (RAs.cat h2 rs) fun b=>by have:=e b;omega
end
section
variable{K:W.Frag}{E:FK}{X:Exc→Sl→Prop}{ρ:Sl}{Q:TV→Prop}{DV:VEnds}{te:TE}{n:Nat}
end
end VL
end
section
namespace PySem
section
variable{prog:Program}{w:World}{K:Type}[DecidableEq K]{knd:HeapKind prog w K}{A:Around}{E:Value→Shared→Prop}{s:Shared}
theorem zd_meets_len(knd:HeapKind prog w K)(d:Addr)(hd:(d == sysModules)=false) :
  MeetsIn prog w (Builtin.«dict.__len__» ⟨[.ref d],[]⟩) (fun _ R s=>∃ xs,s.heap.DictOfH knd d xs∧R (.ok (.ret (.int xs.length s.toks))) { s with toks:=s.toks+1 }) :=
 .of_wp fun A R s ⟨xs,hm,h⟩=>by
  obtain⟨o,es,ep,ho,hc,hdat,he,his,hn⟩:=hm
  have hsz:es.size=xs.length:=size_of_entries he
  show wpAny _ _ (dictSize d >>= _) _ _ s
  unfold dictSize
  refine wpAny_bind (wpAny_bind (wpAny_dictEntries ho hdat (wpAny_pure ?_)))
  show wpAny _ _ (Builtin.Dict.pendingCount d >>= _) _ _ s
  refine wpAny_bind (wpAny_pendingCount_other hd ?_)
  refine wpAny_ret_mkInt ?_
  rw[Nat.add_zero,hsz]
  exact h
theorem zd_call_len{d:Addr}{xs:List (K×Addr×Value)}{Q:Value→Shared→Prop}(hd:(d == sysModules)=false)(hm:s.heap.DictOfH knd d xs)(hfit:(xs.length:Int)<2 ^ 63)
  (h:Q (.int xs.length (s.toks+1)) { s with toks:=s.toks+1+1 }):wpAny (model prog w) A (call (.builtin "len") [.ref d]) Q E s:=by
 refine Calls.call_function_entry kind_len plain_len entry_len (args_len1 _) ?_
 unfold Builtin.«len»
 refine wpAny_bind (m:=oneArg "len" _) (wpAny_pure ?_)
 refine wpAny_bind (m:=callSpecial? (.ref d) (Str.ofString "__len__")) (wpAny_callSpecial?_slot (name:=Str.ofString "__len__") hm.typeIs F.slot_dict_len
  (call_meetsIn F.slot_dict_len hm.typeIs F.entry_dict_len (F.args_dict_len_1 _) (zd_meets_len knd d hd) ⟨xs,hm,?_⟩))
 show wpAny _ _ _ _ _ { s with toks:=s.toks+1 }
 refine wpAny_bind (wpAny_holding (wpAny_pure ?_))
 refine wpAny_bind (wpAny_letGo ?_)
 show wpAny _ _ (if ((xs.length:Nat):Int)<0 then _ else _) _ _ _
 rw[if_neg (by omega)]
 show wpAny _ _ (if ((xs.length:Nat):Int)≥2 ^ 63 then _ else _) _ _ _
 rw[if_neg (by omega)]
 exact wpAny_bind (wpAny_mkInt (wpAny_pure ⟨_,rfl,h⟩))
end
end PySem
namespace L2
open PySem PySem.Spec PyProof.Rows
noncomputable def rLenD:List V→Hp→VK→Prop:=fun xs H Q=>∃ a n,xs=[.ref a]∧((∃ kvs,Rd H a (.dK kvs)∧n=kvs.length)∨∃ kvs,Rd H a (.dT kvs)∧n=kvs.length)∧Q (.int (n:Nat)) H
theorem call_lenD{X:Cx}:CallR X (.builtin "len") rLenD:=by
 intro pins s σ H xs us Q I r h
 obtain⟨a,n,rfl,h,q⟩:=h
 obtain⟨u,rfl,ru⟩:=r.one
 cases (show u=Value.ref a from ru)
 rcases h with⟨kvs,e,rfl⟩|⟨kvs,e,rfl⟩
 ·exact d_len I e fun t s' J=>⟨.int _,H,J,⟨t,rfl⟩,q⟩
 ·obtain⟨z,hd,vs,rel,dd⟩:=dt_rd I.hok e
  have hl:=Paired.length rel
  have hs:sizeLine=16777216:=sizeLine_eq
  refine zd_call_len hd dd (by omega) ?_
  rw[← hl]
  exact⟨.int _,H,I.tok _,⟨_,rfl⟩,q⟩
end L2
namespace VL
open PySem PySem.Spec PyProof.Rows L2
variable[Tabs]
section
variable{K:W.Frag}{E:FK}{X:Exc→Sl→Prop}{ρ:Sl}{Q:TV→Prop}{DV:VEnds}{te ti:TE}{n:Nat}
end
end VL
end
section
namespace L2
open PySem PySem.Spec PyProof.Rows
section
variable{X:Cx}{a b c d:Expr}{pos:Pos}{ta tb tc td:TE}
end
end L2
namespace VL
open PySem PySem.Spec PyProof.Rows L2
variable[Tabs]
section
variable{K:W.Frag}{E:FK}{X:Exc→Sl→Prop}{ρ:Sl}{Q:TV→Prop}{ta tb tc td:TE}{r3:R2}
end
end VL
end
section
namespace VL
open PySem PySem.Spec PyProof.Rows L2
variable[Tabs]
section
variable{K:W.Frag}{E:FK}{X:Exc→Sl→Prop}{ρ:Sl}{DV:VEnds}{te ti:TE}{n:Nat}
end
end VL
end
section
namespace L2
open PySem PySem.Spec PyProof.Rows
noncomputable def clsBody:Stmt→List Stmt
 | .ClassDef _ _ _ b _ _ _ _ _ _ _=>b
 | _=>[]
noncomputable def isFn(K:W.Frag)(f:Addr):Bool:=match K.lookup f with
 | some o=>o.cls == .type "function"
 | none=>false
noncomputable def hasObj(K:W.Frag)(N:Addr):Bool:=(K.lookup N).isSome
noncomputable def excInI(K:W.Frag)(C:Addr)(bmB:List Value)(newId:String)(fI:Addr):Bool:=match K.lookup C with
 | some ⟨.type "type",_,.cls cd,sl⟩=>(match cd.mro,sl.toList with
  | .ref C'::bm,[_,_,_,_,some (.builtin n),_]=>C' == C && n == newId && !cd.hasDel && PySem.W.tailIn K bmB bm && PySem.W.nsOkIn K cd.ns && PySem.W.nsIn K cd.ns "__init__" == some (some (.ref fI)) && hasObj K cd.ns && isFn K fI
  | _,_=>false)
 | _=>false
theorem excI_of{K:W.Frag}{C:Addr}{bmB:List Value}{newId:String}{fI:Addr}(q:excInI K C bmB newId fI=true):ExcI K C bmB newId fI:=by
 unfold excInI at q
 split at q
 ·rename_i dd cd sl ho
  split at q
  ·rename_i C' bm k0 k1 k2 k3 n k5 hm hs
   simp only[Bool.and_eq_true,beq_iff_eq,Bool.not_eq_true'] at q
   obtain⟨⟨⟨⟨⟨⟨⟨z1,z2⟩,hdel⟩,ht⟩,hok⟩,hni⟩,hobj⟩,hfn⟩:=q
   subst z1 z2
   obtain⟨nm,bs,mro,ns,qn,hd,sn,sub,ab,col,del⟩:=cd
   dsimp only at hm hdel hok hni hobj
   subst hm hdel
   have hsl:sl=#[k0,k1,k2,k3,some (.builtin n),k5]:=by
    obtain⟨l⟩:=sl
    simp only at hs
    rw[hs]
   subst hsl
   refine⟨⟨bm,ns,nm,qn,bs,hd,sn,sub,ab,col,dd,k0,k1,k2,k3,k5,ho,hok,hni,ht,?_⟩,?_⟩
   ·unfold hasObj at hobj
    cases e:K.lookup ns with
    | none=>rw[e] at hobj;cases hobj
    | some o=>exact⟨o,rfl⟩
   ·unfold isFn at hfn
    cases e:K.lookup fI with
    | none=>rw[e] at hfn;cases hfn
    | some o =>
     rw[e] at hfn
     exact⟨o,rfl,beq_iff_eq.mp hfn⟩
  ·cases q
 ·cases q
end L2
end
section
namespace VL
open PySem PySem.Spec L2
variable[Tabs]
section
variable{K:W.Frag}{G G' H H' H0:Hp}{σ:St}{ρ:Sl}{ts:List V}{as:List TV}{v x y:V}{a b:TV}
end
section
variable{K:W.Frag}{E:FK}{X:Exc→Sl→Prop}{ρ:Sl}{Q:TV→Prop}{DV:VEnds}{ta tb tc te ti tj:TE}{i j:Int}{n:Nat}{r r':R2}{t u:TS}{a b:TV}
end
end VL
end
section
namespace L2
open PySem PySem.Spec PyProof.Rows
noncomputable def rJoin(K:W.Frag):V→List V→Hp→VK→Prop:=fun x vs H Q=>∃ (sep:Str) (b:Addr) (ts:List Str),x=.str sep∧vs=[.ref b]∧SqL K H b (ts.map V.str)∧JoinOk sep ts=true∧Q (.str (Txt.join sep ts)) H
theorem strs_of:∀ {ts:List Str} {its:List Value},Vals (ts.map V.str) its→∃ l:List (Str×Tok),strValues l=its∧l.map (·.1)=ts
 | [],[],_=>⟨[],rfl,rfl⟩
 | [],_::_,h=>by cases h
 | _::_,[],h=>by cases h
 | t::ts,u::us,h=>by
  cases h with
  | cons r rs =>
   obtain⟨k,rfl⟩:=r
   obtain⟨l,e1,e2⟩:=strs_of rs
   exact⟨(t,k)::l,by rw[← e1];rfl,by rw[← e2];rfl⟩
theorem mt_join{X:Cx}{K:W.Frag}(hK:X.K=K):MtR X "str.join" (rJoin K):=by
 subst hK
 intro pins s σ H x vs v us Q I rx rv h
 obtain⟨sep,b,ts,rfl,rfl,hq,hok,q⟩:=h
 obtain⟨t,rfl⟩:=rx
 obtain⟨u,rfl,ru⟩:=rv.one
 cases ru
 obtain⟨its,r,pl,hz⟩:=I.list hq
 obtain⟨l,e1,e2⟩:=strs_of r
 exact SC.join (l:=l) (by rw[e1];exact pl.isList) e2 hok fun t' k=>⟨.str _,H,I.tok k,⟨_,rfl⟩,q⟩
noncomputable def rStarts:V→List V→Hp→VK→Prop:=fun x vs H Q=>∃ a b:Str,x=.str a∧vs=[.str b]∧Q (.bl (Txt.startswith a b)) H
theorem mt_startswith{X:Cx}:MtR X "str.startswith" rStarts:=by
 intro pins s σ H x vs v us Q I rx rv h
 obtain⟨a,b,rfl,rfl,q⟩:=h
 obtain⟨t,rfl⟩:=rx
 obtain⟨u,rfl,t',rfl⟩:=rv.one
 exact SC.startswith ⟨.bl _,H,I,rfl,q⟩
noncomputable def rSlS:V→Option Int→Option Int→Hp→VK→Prop:=fun x lo hi H Q=>∃ z,x=.str z∧z.length≤sizeLine∧Q (.str (Txt.slice z lo hi)) H
theorem part_of{v:Value}{o:Option Int}(h:IsPart v o):∃ l:Option (Int×Tok),v=partValue l∧l.map (·.1)=o:=by
 cases h with
 | none=>exact⟨none,rfl,rfl⟩
 | int i t=>exact⟨some (i,t),rfl,rfl⟩
theorem sl_str{X:Cx}:SlR X rSlS:=by
 intro pins s σ H x v vl vu lo hi sl Q I rx hs pl pu h
 obtain⟨z,rfl,hz,q⟩:=h
 obtain⟨t,rfl⟩:=rx
 obtain⟨l,rfl,rfl⟩:=part_of pl
 obtain⟨u,rfl,rfl⟩:=part_of pu
 obtain⟨o,h1,h2,h3⟩:=hs
 refine⟨"str",_,F.slot_str_getitem.lookup,typeIs_str _ _ _,wpAny_getItem_str_slice (l:=l) (u:=u) (st:=none) ⟨o,h1,h2,h3⟩ rfl ?_⟩
 exact post_val_or_str ⟨Nat.le_trans (Txt.slice_le z _ _) hz,fun t' k=>⟨.str _,H,I.tok k,⟨_,rfl⟩,q⟩⟩
theorem sl_anyS{X:Cx}{K:W.Frag}(hK:X.K=K):SlR X (slOr rSlS (slOr (rSlL K) (rSlT K))):=sl_str.or (sl_any hK)
noncomputable def Its(z:Str):It:=⟨fun i _=>i<z.length,fun i H x H'=>H'=H∧∃ c,z.cps[i]?=some c∧x=.str ⟨#[c]⟩,fun i _=>z.length≤i⟩
theorem turn_ascii{P:Program}{w:World}{K:W.Frag}{tg:Expr}(z:Str)(t:Tok)(it:Addr):Turn P w K tg (Its z) [it] it (fun i h=>h.IsStrIter it "str_ascii_iterator" z t i) where
 mem:=by simp
 obj:=fun i h st b hb=>by
  have e:b=it:=by simpa using hb
  subst e
  obtain⟨o,e,c,d⟩:=st
  exact⟨o,e,fun v z=>by rw[d] at z;cases z⟩
 keep:=fun i h h' st k=>by
  obtain⟨o,e,c,d⟩:=st
  exact⟨o,k it (by simp) o e,c,d⟩
 item:=by
  intro X hP hw hK hc i pins s σ H E I hf st hg
  subst hP hw hK
  have hg:i<z.cps.size:=hg
  obtain⟨f0,f1,f2,f3,f4,f5⟩:=hf it (by simp)
  refine wpAny_pyNext_ascii_item st (Array.getElem?_eq_getElem hg) fun h' st' sb=>?_
  have I1:Inv X pins σ H { s with heap:=h',toks:=s.toks+1 }:=I.turned (t':=s.toks+1) (fun b o hb e=>(sb.2 b hb).trans e) f0 f1 f3 f4 f5
  obtain⟨o,e,c,d⟩:=id st'
  exact⟨_,rfl,go_of (s:={ s with heap:=h',toks:=s.toks+1 }) e c d (by decide) ⟨.str ⟨#[z.cps[i]]⟩,H,I1,⟨_,rfl⟩,⟨rfl,_,Array.getElem?_eq_getElem hg,rfl⟩,st',fun b hb=>(hf b hb).1⟩⟩
 done:=by
  intro X hP hw hK hc i pins s σ H E I hf st hg
  subst hP hw hK
  have hg:z.cps.size≤i:=hg
  obtain⟨f0,f1,f2,f3,f4,f5⟩:=hf it (by simp)
  exact wpAny_pyNext_ascii_end (I.ok.hd hc) st (Array.getElem?_eq_none hg) fun h' eb=>⟨rfl,I.turned (t':=s.toks) (fun b o hb e=>eb b o hb e) f0 f1 f3 f4 f5⟩
 self:=fun _ _ _ _ _ st h=>wpAny_pyIter_striter_ascii st h
noncomputable def iStr(tl:TE):TI:=fun σ H R=>tl σ H fun x H1=>∃ z:Str,x=.str z∧z.cps.all (· < 128)=true∧R (Its z) H1
theorem pi_str{X:Cx}{tg l:Expr}{tl:TE}(hl:PE X l tl):PI X tg l (iStr tl):=by
 intro pins s σ H R I h
 refine thn (hl pins s σ H _ I h) fun v s1 ⟨x,H1,I1,r1,q1⟩=>?_
 obtain⟨z,e,ha,q⟩:=q1
 subst e
 obtain⟨t,rfl⟩:=r1
 have fr:∀ b∈[s1.heap.objs.size],FpOk X pins H1 b:=fun b hb=>by
  rw[List.mem_singleton.mp hb]
  exact I1.fpOk (Nat.le_refl _) (I1.hok.fresh (Nat.le_refl _))
 exact wpAny_pyIter_ascii ha ⟨s1.heap.objs.size,_,_,_,H1,rfl,I1.kept (t':=s1.toks) fun b o e=>Heap.get?_push_of_some _ e,turn_ascii z t _,⟨_,Heap.get?_push_size _ rfl,rfl,rfl⟩,fr,q⟩
theorem Rep.str_inv{K:W.Frag}{H:Hp}{v:V}{z:Str}(h:Rep K H v (.str z)):v=.str z:=by cases h;rfl
theorem Reps.strs_inv{K:W.Frag}{H:Hp}:∀ {zs:List Str} {xs:List V},Reps K H xs (zs.map PyData.str)→xs=zs.map V.str
 | [],[],_=>rfl
 | [],_::_,h=>by cases h
 | _::_,[],h=>by cases h
 | z::zs,x::xs,h=>by
  cases h with
  | cons r rs=>rw[Rep.str_inv r,Reps.strs_inv rs];rfl
end L2
namespace VL
open PySem PySem.Spec L2
variable[Tabs]
section
variable{K:W.Frag}{E:FK}{X:Exc→Sl→Prop}{ρ:Sl}{Q:TV→Prop}{ta tb te:TE}{a b:TV}
theorem small6'{n:Nat}(h:n≤1000000):n≤sizeLine:=Nat.le_of_lt (small6 h)
theorem ix_S{z:Str}{k:Int}{c:Nat}(ha:a.data=.str z)(hz:z.length≤1000000)(e:atI z.cps.toList k=some c)(q:Q (.av (.d (.str ⟨#[c]⟩))))(na:NR a:=by first|exact NR.av|exact NR.bor):Op K E X (rIdx K) a (.av (.d (.int k))) Q:=op_r (op_r (op_l fun H0 σ ρ ts as H x y QV s _ kk=>by
 have e1:=s.top_d.int_inv
 have r:=s.pop.top na
 rw[ha] at r
 have e2:=Rep.str_inv r
 subst e1 e2
 exact⟨z,k,c,rfl,rfl,small6' hz,e,kk _ q _ _ (s.pop.pop.push fun _=>.str _)⟩))
theorem add_s{y z:Str}(ha:a.data=.str y)(hb:b.data=.str z)(hz:y.length+z.length≤1000000)(q:Q (.av (.d (.str (y++z)))))(na:NR a:=by first|exact NR.av|exact NR.bor)(nb:NR b:=by first|exact NR.av|exact NR.bor):Op K E X (rPlus K) a b Q:=op_r (op_r (op_r (op_l fun H0 σ ρ ts as H u v QV s _ kk=>by
 have r1:=s.top nb
 have r2:=s.pop.top na
 rw[hb] at r1
 rw[ha] at r2
 have e1:=Rep.str_inv r1
 have e2:=Rep.str_inv r2
 subst e1 e2
 exact⟨y,z,rfl,rfl,small6' hz,kk _ q _ _ (s.pop.pop.push fun _=>.str _)⟩)))
theorem len_S{z:Str}(ha:a.data=.str z)(hz:z.length≤1000000)(q:Q (.av (.d (.int z.length))))(na:NR a:=by first|exact NR.av|exact NR.bor):Bi K E X (cOr (rLen K) rLenS) [a] Q:=fun H0 σ ρ ts as H vs QV s hl _ kk=>by
 obtain⟨v,rfl⟩:=List.length_eq_one_iff.mp hl
 have r:=SR.top (ts:=ts) (as:=as) s na
 rw[ha] at r
 have e:=Rep.str_inv r
 subst e
 exact .inr ⟨z,rfl,small6' hz,kk _ q _ _ ((SR.pop s).push fun _=>.int _)⟩
theorem ev_join{sep:Str}(h:Ev K E X te ρ fun a=>∃ zs:List Str,a.data=.list (zs.map .str)∧NR a∧JoinOk sep zs=true∧Q (.av (.d (.str (Txt.join sep zs))))):Ev K E X (tBM K "str" (rJoin K) (tC (.str sep)) (tCons te tNil)) ρ Q:=fun H0 σ ts as H QV s x k =>
 ⟨rfl,h H0 σ ts as H _ s x fun a ⟨zs,e,na,ok,q⟩ v H' s'=>by
  have r:=s'.top na
  rw[e] at r
  obtain⟨l,xs,rfl,h1,h2⟩:=r.list_inv
  rw[Reps.strs_inv h2] at h1
  exact⟨sep,l,zs,rfl,rfl,h1,ok,k _ q _ _ (s'.pop.push fun _=>.str _)⟩⟩
theorem it_str{z:Str}:ItOk K (Its z) (.str z) (.str z) z.length fun i=>.str ⟨#[z.cps.getD i 0]⟩:=by
 intro G H sm rp
 refine⟨fun i hi=>⟨hi,fun x H' ⟨e1,c,e2,e3⟩=>?_⟩,fun i hi=>hi⟩
 subst e1 e3
 refine⟨.refl _,fun G' m _=>?_⟩
 show Rep K G' (.str ⟨#[c]⟩) (.str ⟨#[z.cps.getD i 0]⟩)
 rw[show z.cps.getD i 0=c by rw[Array.getD_eq_getD_getElem?,e2];rfl]
 exact .str _
theorem iv_str{P:Nat→(Nat→PyData)→TV→Prop}(h:Ev K E X te ρ fun a=>∃ z:Str,a.data=.str z∧NR a∧z.cps.all (· < 128)=true∧P z.length (fun i=>.str ⟨#[z.cps.getD i 0]⟩) a.frz):Iv K E X (iStr te) ρ P:=fun H0 σ ts as H R s x k =>
 h H0 σ ts as H _ s x fun a ⟨z,e,na,ok,q⟩ v H' s'=>by
  have rp:=s'.top na
  rw[e] at rp
  have ev:=Rep.str_inv rp
  subst ev
  refine⟨z,rfl,ok,k _ _ _ q (.str z) _ H' (TV.frz_nr na) s'.frzV ?_⟩
  rw[TV.frz_data,e]
  exact it_str
theorem comp_S{cap:List (Option Nat)}{g:TG}{ti:TE}(h:Ev K E X ti ρ fun a=>∃ (z:Str) (y:Nat→AV),a.data=.str z∧NR a∧z.cps.all (· < 128)=true∧z.length≤1000000 ∧
  (∀ i:Nat,i<z.length→Gv K g (.str ⟨#[z.cps.getD i 0]⟩) (capV cap ρ) fun ρ'=>Wk ρ' (capV cap ρ)∧Ev K E NE te ρ' fun a=>a.sto=some (y i)) ∧
  ∃ a,Got (.own ((List.range z.length).map y)) a∧Q a):Ev K E X (tComp cap (iStr ti) g tAll te) ρ Q :=
 ev_comp (iv_str (ev_imp h fun a hh=>by
  obtain⟨z,y,e,na,ok,hz,turn,c,hg,q⟩:=hh
  exact⟨z,e,na,ok,hz,fun i=>some (y i),fun i hi H0 σ ts as H v Qg s k=>turn i hi H0 σ ts as H v Qg s fun ρ' ⟨w,ev⟩=>k ρ' ⟨w,tv_all (by
   rw[if_pos rfl]
   exact ev_imp ev fun a z=>⟨_,rfl,z⟩)⟩,c,by rw[List.filterMap_eq_map'];exact hg,q⟩))
theorem sl_S{tl th:TO}{r:V→Option Int→Option Int→Hp→VK→Prop}(h:Ev K E X te ρ fun a=>To tl ρ K E X fun lo=>To th ρ K E X fun hi=>∃ z:Str,a.data=.str z∧NR a∧z.length≤1000000∧Q (.av (.d (.str (Txt.slice z lo hi))))):Ev K E X (tSl (slOr rSlS r) te tl th) ρ Q:=fun H0 σ ts as H QV s x k=>by
 refine h H0 σ ts as H _ s x fun a qa v H1 s1=>qa H0 σ _ _ H1 _ s1 x fun lo ql H2 s2=>ql H0 σ _ _ H2 _ s2 x fun hi ⟨z,ha,na,hz,q⟩ H3 s3=>.inl ?_
 have r:=s3.top na
 rw[ha] at r
 exact⟨z,Rep.str_inv r,small6' hz,k _ q _ _ (s3.pop.push fun _=>.str _)⟩
theorem ev_starts(h:Ev K E X ta ρ fun a=>∃ y:Str,a.data=.str y∧NR a∧Ev K E X tb ρ fun b=>∃ z:Str,b.data=.str z∧NR b∧Q (.av (.d (.bool (Txt.startswith y z))))):Ev K E X (tBM K "str" rStarts ta (tCons tb tNil)) ρ Q:=fun H0 σ ts as H QV s x k =>
 h H0 σ ts as H _ s x fun a ⟨y,ea,na,h2⟩ v H1 s1=>by
  have r:=s1.top na
  rw[ea] at r
  have e:=Rep.str_inv r
  subst e
  refine⟨rfl,h2 H0 σ _ _ H1 _ s1 x fun b ⟨z,eb,nb,q⟩ w H2 s2=>?_⟩
  have r:=s2.top nb
  rw[eb] at r
  have e:=Rep.str_inv r
  subst e
  exact⟨y,z,rfl,rfl,k _ q _ _ (s2.pop.pop.push fun _=>.bl _)⟩
end
end VL
end
section
namespace VL
open PySem PySem.Spec L2
variable[Tabs]
section
variable{K:W.Frag}{G G' H H' H0:Hp}{σ:St}{ρ:Sl}{ts:List V}{as:List TV}{v x y:V}{a b:TV}
theorem dict_S{kvs:List (Str×PyData)}(hne:kvs≠[])(hy:Rep K G y (.dict (encD PyData.str kvs))):∃ a ks ds,y=.ref a∧Rd G a (.dK ks)∧Reps K G (ks.map Prod.snd) ds∧encD PyData.str kvs=(ks.map fun p=>keyD p.1).zip ds:=by
 generalize hk:encD PyData.str kvs=l at hy
 cases hy with
 | exc _ z=>exact absurd (hk.trans z) (enc_none KEnc.str)
 | excF _ _ _ z=>exact absurd (hk.trans z) (enc_none KEnc.str)
 | junk=>exact absurd hk (enc_none KEnc.str)
 | @dK a ks ds _ hd rs z=>exact⟨a,ks,ds,rfl,hd,rs,hk▸z⟩
 | @dT a ks ds _ hd rs z=>exact absurd (enc_nil (en:=fun k=>PyData.tuple (k.map keyD)) rs (hk.trans z) fun _ _ e=>nomatch e).1 hne
 | @dN a ks ds _ ne hd rs z=>exact absurd (enc_nil (en:=en3) rs (hk.trans z) fun _ _ e=>nomatch e).2 ne
theorem SR.newDs{l:Addr}{ks:List (Key×V)}{ds:List PyData}{kvs:List (PyData×PyData)}(h:SR K H0 σ ρ ts as H)(hl:H l=none)(rs:Reps K H (ks.map Prod.snd) ds)(hf:noLsts ds=true)(z:kvs=(ks.map fun p=>keyD p.1).zip ds):SR K H0 σ ρ (.ref l::ts) (.av (.dic kvs)::as) (upd H l (.dK ks)):=by
 obtain⟨⟨p,q,h1,h2,h3,h4⟩,s⟩:=h
 have hL:=SR.lsts h1 h2
 have zz:∀ b u,H b=some u→b≠l:=fun b u y w=>by subst w;rw[hl] at y;cases y
 have zl:p l+q l=0:=by
  rcases Nat.eq_zero_or_pos (p l+q l) with w|w
  ·exact w
  ·obtain⟨_,w,_⟩:=hL l w;rw[hl] at w;cases w
 have m:Same (hid H p q) (hid (upd H l (.dK ks)) p (fun b=>(if b=l then 1 else 0)+q b)):=hid_upd fun b u y w=>by
  have:=zz b u w
  refine⟨?_,this⟩
  show p b+((if b=l then 1 else 0)+q b)=0
  rw[if_neg this]
  omega
 have mo:∀ b u,H b=some u→upd H l (.dK ks) b=some u:=fun b u y=>by rw[upd_ne (zz b u y)];exact y
 have s2:Same H (upd H l (.dK ks)):=same_new hl
 refine⟨⟨p,fun b=>(if b=l then 1 else 0)+q b,h1.mono m (fun b o _=>mo b o),.cons (.av (.dic upd_same (.inl ⟨ks,ds,rfl,(Reps.hid hL hf rs).same m,z⟩) fun _=>rfl)) (h2.mono m s2) (fun _=>rfl),fun b=>?_,fun b w=>?_⟩,s.trans s2⟩
 ·have:=h3 b
  by_cases hb:b=l
  ·subst hb;simp;omega
  ·simp[hb];omega
 ·by_cases hb:b=l
  ·subst hb
   rcases h0:H0 b with _|o
   ·rfl
   ·rw[s b o h0] at hl;cases hl
  ·exact h4 b (by simp[hb] at w;omega)
end
section
variable{K:W.Frag}{E:FK}{X:Exc→Sl→Prop}{ρ:Sl}{Q:TV→Prop}{a:TV}
end
end VL
end
section
namespace L2
open PySem PySem.Spec PyProof.Rows PySem.Calls
noncomputable abbrev kS(ks:List (Str×V)):List (Key×V):=ks.map fun p=>(Sum.inr p.1,p.2)
noncomputable def rSortD:List V→Hp→VK→Prop:=fun xs H Q=>∃ (a:Addr) (ks:List (Str×V)),xs=[.ref a]∧Rd H a (.dK (kS ks))∧ks.length<64∧∀ p (zs:List Str),H p=none→zs.Perm (ks.map Prod.fst)→sortedS zs=true→Q (.ref p) (upd H p (.lst (zs.map V.str)))
theorem strsV:∀ {vs:List Value} {zs:List Str},StrsAre vs zs→Vals (zs.map V.str) vs
 | _,_,.nil=>.nil
 | _,_,.cons x t h=>.cons ⟨t,rfl⟩ (strsV h)
theorem keys_strs{P:Program}{w:World}:∀ {ks:List (Str×V)} {vs:List (Key×Value)} {acc:List Value},KV (kS ks) vs→acc.length=vs.length→(∀ (i:Nat) (v:Value),acc[i]?=some v→∃ k x,vs[i]?=some (k,x)∧(mixKind P w).is k v=true)→StrsAre acc (ks.map Prod.fst)
 | [],_,[],_,_,_=>.nil
 | [],_,_::_,.nil,h,_=>by cases h
 | p::ks,q::vs,[],.cons _ _,h,_=>by cases h
 | p::ks,q::vs,u::acc,.cons r rs,h,hh=>by
  obtain⟨k,x,e1,e2⟩:=hh 0 u rfl
  have e1:q=(k,x):=by simpa using e1
  subst e1
  have ek:(Sum.inr p.1:Key)=k:=r.1
  subst ek
  obtain⟨t,rfl⟩:∃ t,u=Value.str p.1 t:=Value.isStrOf_shape e2
  exact .cons _ _ (keys_strs rs (Nat.succ.inj h) fun i v e=>hh (i+1) v e)
theorem call_sortD{X:Cx}(hc:X.calm=true):CallR X (.builtin "sorted") rSortD:=by
 intro pins s σ H xs us Q I rv h
 obtain⟨a,ks,rfl,e,h64,q⟩:=h
 obtain⟨u,rfl,ru⟩:=rv.one
 cases ru
 obtain⟨z,hd,vs,rel,dd⟩:=dk_rd I.hok e
 obtain⟨ep,hat⟩:=dd.dictAt
 have hlen:vs.length=ks.length:=by rw[← rel.length];simp[kS]
 refine call_function_entry kind_sorted plain_sorted entry_sorted (args_sorted1 _) ?_
 unfold Builtin.«sorted»
 refine wpAny_bind (m:=checkCount "sorted" 1 1 _) (wpAny_pure ?_)
 refine wpAny_bind (PySem.W.kdu_collect (A:=X.A.in1) (PySem.W.kdl_dict (knd:=mixKind X.prog X.w) (kvs:=vs) (ep:=ep) hd) (I.ok.hd hc) hat (by rw[← rel.length];exact z) fun h' tk acc hk hacc=>?_)
 have hl:acc.toList.length=vs.length:=by rw[Array.length_toList];exact hacc.1
 have hS:StrsAre acc.toList (ks.map Prod.fst):=keys_strs (P:=X.prog) (w:=X.w) rel hl fun i v ev=>hacc.2 i v (by rw[← Array.getElem?_toList];exact ev)
 refine wpAny_bind (wpAny_newList ?_ (by rw[hl,← rel.length];exact z))
 have hoL:(h'.push (seqObj "list" acc.toList.toArray 0)).get? h'.objs.size=some (seqObj "list" acc.toList.toArray 0):=Heap.get?_push_size _ rfl
 show wpAny _ _ _ _ _ { s with heap:=h'.push (seqObj "list" acc.toList.toArray 0),toks:=tk }
 refine wpAny_bind (wpAny_holding (wpAny_call_entry slot_list_sort ⟨_,hoL,rfl⟩ entry_list_sort (list_sort_treeK strKind_oneLt hoL hS.keysOf (fun v₁ v₂ rest e=>keyKind_strs (by rw[← e];exact hS)) (by rw[hl,hlen];exact h64) fun st' a1 a2=>⟨_,rfl,?_⟩) (args_list_sort _)))
 obtain⟨ss,h1,h2,h3⟩:=sorted_out_str hS a1 a2
 have I1:=I.kept (t':=tk) hk
 obtain⟨ee,he⟩:=sortedHeap_at (vs:=acc.toList) (out:=(arrOf st').map (·.2)) hoL
 refine wpAny_pure ⟨_,rfl,.ref h'.objs.size,_,I1.laid (a:=h'.objs.size) (o:=.lst (ss.map V.str)) (t':=tk) (fun b o eb=>?_) (Nat.le_refl _) ⟨?_,_,ee,strsV h1,by rw[Array.toArray_toList];exact he⟩,rfl,q _ _ (I1.hok.fresh (Nat.le_refl _)) h2 h3⟩
 ·have eb:h'.get? b=some o:=eb
  have hb:=Heap.lt_size eb
  rw[sortedHeap_old (Nat.ne_of_lt hb) (by rw[size_push'];exact Nat.lt_succ_of_lt hb)]
  exact Heap.get?_push_of_some _ eb
 ·rw[List.length_map,h2.length_eq,List.length_map]
  exact Nat.le_trans (Nat.le_of_lt h64) (by rw[sizeLine_eq];decide)
end L2
namespace VL
open PySem PySem.Spec L2
open PyProof.Rows (sortedS)
variable[Tabs]
section
variable{K:W.Frag}{G G' H H' H0:Hp}{σ:St}{ρ:Sl}{ts:List V}{as:List TV}{v x y:V}{a b:TV}
theorem ks_of:∀ {ks:List (Key×V)} {ds:List PyData} {kvs:List (Str×PyData)},Reps K G (ks.map Prod.snd) ds→encD PyData.str kvs=(ks.map fun p=>keyD p.1).zip ds→∃ ks':List (Str×V),ks=kS ks'∧ks'.map Prod.fst=kvs.map Prod.fst∧Reps K G (ks'.map Prod.snd) (kvs.map Prod.snd)
 | [],_,[],_,_=>⟨[],rfl,rfl,.nil⟩
 | [],_,_::_,_,e=>by simp at e
 | _::_,_,[],.cons _ _,e=>by simp at e
 | p::ks,d::ds,q::kvs,.cons r rs,e=>by
  simp only[encD,List.map_cons,List.zip_cons_cons,List.cons.injEq,Prod.mk.injEq] at e
  obtain⟨ks',e1,e2,e3⟩:=ks_of rs e.2
  obtain⟨k,v⟩:=p
  have ek:k=.inr q.1:=keyD_inj (b:=.inr q.1) e.1.1.symm
  subst ek
  refine⟨(q.1,v)::ks',by rw[e1];rfl,by rw[List.map_cons,e2];rfl,.cons ?_ e3⟩
  rw[e.1.2]
  exact r
theorem dict_SS{kvs:List (Str×PyData)}(hne:kvs≠[])(hy:Rep K G y (.dict (encD PyData.str kvs))):∃ a ks,y=.ref a∧Rd G a (.dK (kS ks))∧ks.map Prod.fst=kvs.map Prod.fst∧Reps K G (ks.map Prod.snd) (kvs.map Prod.snd):=by
 obtain⟨a,ks,ds,e1,e2,e3,e4⟩:=dict_S hne hy
 obtain⟨ks',rfl,e5,e6⟩:=ks_of e3 e4
 exact⟨a,ks',e1,e2,e5,e6⟩
theorem SR.strs(h:SR K H0 σ ρ ts as H):∀ zs:List Str,SR K H0 σ ρ (zs.map V.str++ts) ((zs.map fun z=>AV.d (.str z)).map TV.av++as) H
 | []=>h
 | z::zs=>(SR.strs h zs).push fun _=>.str z
end
section
variable{K:W.Frag}{E:FK}{X:Exc→Sl→Prop}{ρ:Sl}{Q:TV→Prop}{DV:VEnds}{ta tb te:TE}{n m:Nat}{a b:TV}
theorem bi_sortD{kvs:List (Str×PyData)}(ha:a.data=.dict (encD PyData.str kvs))(hne:kvs≠[])(hz:kvs.length<64)(q:∀ zs:List Str,zs.Perm (kvs.map Prod.fst)→sortedS zs=true→Q (.av (.own (zs.map fun z=>.d (.str z)))))(na:NR a:=by first|exact NR.av|exact NR.bor):Bi K E X rSortD [a] Q:=fun H0 σ ρ ts as H vs QV s hl _ kk=>by
 obtain⟨v,rfl⟩:=List.length_eq_one_iff.mp hl
 have r:=SR.top (ts:=ts) (as:=as) s na
 rw[ha] at r
 obtain⟨l,ks,rfl,hd,e1,e2⟩:=dict_SS hne r
 have hk:ks.length=kvs.length:=by simpa using congrArg List.length e1
 exact⟨l,ks,rfl,hd,by omega,fun p zs hp h1 h2=>kk _ (q zs (e1▸h1) h2) _ _ (((SR.pop s).strs zs).new (by simp) hp)⟩
theorem sv_retDD{k1 k2:List (PyData×PyData)}(h1:ρ[n]?=some (some (.dic k1)))(h2:ρ[m]?=some (some (.dic k2)))(hnm:n≠m)(h:Ev K E X tb ρ fun b=>∃ x,b.data=x∧NR b∧noLst x=true∧DV.rt (.av (.tup [.dic k1,.d x,.dic k2]))):Sv K E X (tRet (tTup (tCons (tVar n) (tCons tb (tCons (tVar m) tNil))))) ρ DV:=fun H0 σ ts as H D st s x f=>by
 obtain⟨w0,g0,_⟩:=s.take h1
 refine⟨w0,g0,h H0 σ _ _ H _ ((s.push (v:=.non) (x:=.none) fun _=>.non).pop) x fun b ⟨z,eb,nb,nz,q⟩ v H1 s1=>?_⟩
 have r:=s1.top nb
 rw[eb] at r
 obtain⟨w2,g2,s2⟩:=s1.pop.take h2
 have s3:=s2.pushF nz r
 obtain⟨w1,g1,s4⟩:=s3.take (m:=n) (by rw[List.getElem?_set_ne (Ne.symm hnm)];exact h1)
 rw[g0] at g1
 cases g1
 exact⟨w2,g2,Nat.le_of_lt (small1000 (show (3:Nat)≤1000 by decide)),fun p hp=>f.rt _ q _ _ _ _ (SR.newTO (vs:=[w0,v,w2]) (xs:=[.dic k1,.d z,.dic k2]) s4 rfl hp)⟩
end
end VL
end
section
namespace L2
open PySem PySem.Spec PyProof.Rows
noncomputable def scD:PyData→Bool
 | .str _=>true
 | .int _=>true
 | _=>false
theorem sc_eq{K:W.Frag}{H:Hp}{A:Around}{s:Shared}{x y:V}{u v:Value}{d:PyData}(h1:Rep K H x d)(h2:Rep K H y d)(hs:scD d=true)(r1:RelV x u)(r2:RelV y v):SeqAt.EqAt A s u v true:=by
 cases d with
 | str z =>
  cases h1;cases h2
  obtain⟨t,rfl⟩:=r1
  obtain⟨t',rfl⟩:=r2
  exact fun prog w E Q hq=>wpAny_eqBool_str (by simpa using hq)
 | int i =>
  have e1:=h1.int_inv
  have e2:=h2.int_inv
  subst e1 e2
  obtain⟨t,rfl⟩:=r1
  obtain⟨t',rfl⟩:=r2
  exact fun prog w E Q hq=>wpAny_eqBool_int (by simpa using hq)
 | _=>cases hs
theorem valueAt_cons{α:Type}[DecidableEq α]{p:α×Value}{l:List (α×Value)}{k:α}:valueAt (p::l) k=if p.1=k then some p.2 else valueAt l k:=by
 unfold valueAt
 rw[List.find?_cons]
 by_cases e:p.1=k
 ·rw[if_pos e,decide_eq_true e];rfl
 ·rw[if_neg e,decide_eq_false e]
theorem hits_of{K:W.Frag}{H:Hp}{A:Around}{s:Shared}{kb0:List (Key×Value)}:∀ {ka kb:List (Key×V)} {va vb:List (Key×Value)} {ds:List PyData},KV ka va→KV kb vb→ka.map Prod.fst=kb.map Prod.fst→Reps K H (ka.map Prod.snd) ds→Reps K H (kb.map Prod.snd) ds→(∀ d∈ds,scD d=true)→(∀ p∈vb,valueAt kb0 p.1=some p.2)→PySem.W.KeqHits A s kb0 va true
 | [],[],_,_,_,.nil,.nil,_,_,_,_,_=>.nil
 | [],_::_,_,_,_,.nil,.cons _ _,e,_,_,_,_=>by cases e
 | _::_,[],_,_,_,.cons _ _,.nil,e,_,_,_,_=>by cases e
 | p::ka,q::kb,(k,u)::va,(k',u')::vb,d::ds,.cons r1 rs1,.cons r2 rs2,e,.cons h1 hs1,.cons h2 hs2,hd,hk=>by
  simp only[List.map_cons,List.cons.injEq] at e
  have ek:k=k':=r1.1.symm.trans (e.1.trans r2.1)
  subst ek
  have z:=PySem.W.KeqHits.hit (A:=A) (s:=s) (kb:=kb0) (k:=k) (v:=u) (y:=u') (e:=true) (b:=true) (hk (k,u') (.head _)) (sc_eq h1 h2 (hd d (.head _)) r1.2 r2.2) (hits_of rs1 rs2 e.2 hs1 hs2 (fun x hx=>hd x (.tail _ hx)) fun x hx=>hk x (.tail _ hx))
  exact z
theorem valueAt_nd{α:Type}[DecidableEq α]:∀ {l:List (α×Value)},(l.map (·.1)).Nodup→∀ p∈l,valueAt l p.1=some p.2
 | q::l,hn,p,hp=>by
  rw[valueAt_cons]
  rw[List.map_cons,List.nodup_cons] at hn
  rcases List.mem_cons.mp hp with e|e
  ·rw[e,if_pos rfl]
  ·rw[if_neg (fun z=>hn.1 (by rw[z];exact List.mem_map.mpr ⟨p,e,rfl⟩))]
   exact valueAt_nd hn.2 p e
end L2
namespace VL
open PySem PySem.Spec L2
variable[Tabs]
section
variable{K:W.Frag}{E:FK}{X:Exc→Sl→Prop}{ρ:Sl}{Q:TV→Prop}{a b:TV}
end
end VL
end
section
namespace VL
open PySem PySem.Spec L2
variable[Tabs]
section
variable{K:W.Frag}{G G' H H' H0:Hp}{σ:St}{ρ:Sl}{ts:List V}{as:List TV}{v x y:V}{a b:TV}
theorem RTs.ofA{q:Fp}(hr:RTs K G H ts as q):∀ {vs:List V} {xs:List AV} {p:Fp},RAs K G H vs xs p→∃ r:Fp,(∀ b,r b=p b+q b)∧RTs K G H (vs++ts) (xs.map TV.av++as) r
 | [],[],p,.nil e=>⟨q,fun b=>by have:=e b;omega,hr⟩
 | w::vs,x::xs,p,.cons (p:=p1) (q:=p2) h1 h2 e=>by
  obtain⟨r,e2,h3⟩:=RTs.ofA hr h2
  exact⟨fun b=>p1 b+r b,fun b=>by have:=e b;have:=e2 b;dsimp only;omega,.cons (.av h1) h3 fun _=>rfl⟩
theorem SR.untup{xs:List AV}(h:SR K H0 σ ρ (v::ts) (.av (.tup xs)::as) H):∃ l vs,v=.ref l∧H l=some (.tup vs)∧vs.length=xs.length∧SR K H0 σ ρ (vs++ts) (xs.map TV.av++as) H:=by
 obtain⟨⟨p,q,h1,h2,h3,h4⟩,s⟩:=h
 cases h2 with
 | @cons _ _ _ _ q1 q2 _ r rs eq =>
  cases r with
  | av r =>
  cases r with
  | @tup l vs _ _ hl hr =>
   obtain⟨r,e2,h5⟩:=RTs.ofA rs hr
   have e:∀ b,q b=r b:=fun b=>by have:=e2 b;have:=eq b;omega
   have eqf:q=r:=funext e
   subst eqf
   exact⟨l,vs,rfl,hid_le _ _ hl,hr.len,⟨p,q,h1,h5,h3,h4⟩,s⟩
end
section
variable{K:W.Frag}{E:FK}{X:Exc→Sl→Prop}{ρ:Sl}{Q:TV→Prop}{DV:VEnds}{te:TE}{a b:TV}{i j k:Nat}
theorem sv_un3(h:Ev K E X te ρ fun a=>∃ x y z,a=.av (.tup [x,y,z])∧DV.nx (((ρ.set i (some x)).set j (some y)).set k (some z)))(hi:i<ρ.length:=by simp)(hj:j<ρ.length:=by simp)(hk:k<ρ.length:=by simp):Sv K E X (tAsg te (gTup K 3 (gCons (gName i) (gCons (gName j) (gCons (gName k) gNil))))) ρ DV:=fun H0 σ ts as H D st s x f =>
 h H0 σ ts as H _ s x fun a ⟨x,y,z,ea,q⟩ v H1 s1=>by
  subst ea
  obtain⟨l,vs,rfl,hl,hn,s2⟩:=s1.untup
  match vs,hn with
  | [v1,v2,v3],_ =>
   have s3:=SR.store (i:=i) (ts:=v2::v3::ts) (as:=.av y::.av z::as) s2 hi
   have s4:=SR.store (i:=j) (ts:=v3::ts) (as:=.av z::as) s3 (by simpa using hj)
   have s5:=SR.store (i:=k) (ts:=ts) (as:=as) s4 (by simpa using hk)
   exact⟨l,[v1,v2,v3],rfl,.inl (.inl hl),rfl,v1,[v2,v3],rfl,v2,[v3],rfl,v3,[],rfl,rfl,f.nx _ q _ _ s5⟩
theorem bi_lenDS{kvs:List (Str×PyData)}(ha:a.data=.dict (encD PyData.str kvs))(hne:kvs≠[])(q:Q (.av (.d (.int (kvs.length:Nat)))))(na:NR a:=by first|exact NR.av|exact NR.bor):Bi K E X rLenD [a] Q:=fun H0 σ ρ ts as H vs QV s hl _ kk=>by
 obtain⟨v,rfl,s⟩:=one_of s hl
 have r:=s.top na
 rw[ha] at r
 obtain⟨l,ks,rfl,hd,e1,e2⟩:=dict_SS hne r
 have hk:ks.length=kvs.length:=by simpa using congrArg List.length e1
 exact⟨l,kvs.length,rfl,.inl ⟨_,hd,by rw[← hk];simp⟩,kk _ q _ H (s.pop.int _)⟩
end
end VL
end
section
namespace L2
open PySem PySem.Spec PyProof.Rows
end L2
namespace VL
open PySem PySem.Spec L2
variable[Tabs]
section
variable{K:W.Frag}{G G' H H' H0:Hp}{σ:St}{ρ:Sl}{ts:List V}{as:List TV}{v x y:V}{a b:TV}
end
section
variable{K:W.Frag}{E:FK}{X:Exc→Sl→Prop}{ρ:Sl}{Q:TV→Prop}{DV:VEnds}{te tb:TE}{n m i j:Nat}{a b:TV}{r:R2}
end
end VL
end
section
namespace L2
open PySem PySem.Spec PyProof.Rows
end L2
namespace VL
open PySem PySem.Spec L2
open Classical
variable[Tabs]
section
variable{K:W.Frag}{G G' H H' H0:Hp}{σ:St}{ρ:Sl}{ts:List V}{as:List TV}{v:V}
end
section
variable{P:Program}{w:World}{K:W.Frag}{mg:Str→Option Value}{base:Heap}{CX:CXT}{k:Nat}{sp:Sp}{v:V}{G G':Hp}
theorem valRMX0{x:Str}{st:Stmt}{N ps:List Str}{k':Nat}{c0 Pt:Addr}{Pre:List AV→Prop}{Post:List AV→AV→Prop}{PX:List AV→Exc→Prop}(T:TxM K mg x st ps c0 Pt)(Sc:FnScope N ps (defScope st))(hS:∀ cs,Pre cs→cs.length=ps.length)
  (hbody:∀ (f:Addr) (A:Around) (outer:List Env) (s:Shared) (H:Hp) (E:XK),Room k' (A.deeper (PyProof.Rows.envOfC x (defScope st) s.heap.objs.size f (.ref c0))) →
   ∃ t,PSs ((cxOf (CXE P w) P w K mg base N x (defScope st) f (.ref c0) A outer s H E).wish (XE (cxOf (CXE P w) P w K mg base N x (defScope st) f (.ref c0) A outer s H E) (toF E))) (defBody st) t∧∀ cs,Pre cs→Sv K (toF E) (fun e _=>PX cs e) t (inA N cs) (finR (Post cs))) :
  Cal P w K mg base (CXE P w) (k'+1) x ps [] (spR K Pre Post PX):=by
 obtain⟨f,oc,kV,doc,pm,ct,od,an,osl,lk,hcd,hm,hk,hb⟩:=T.ex
 refine⟨f,_,[],fn_of lk hcd Sc (fun vs H Q E h=>spR_len h hS) fun A outer s H vs Q E hr h=>?_,hm,hk,hb,.nil⟩
 obtain⟨t,h1,h2⟩:=hbody f A outer s H E hr
 exact⟨t,h1.xmono fun e s z=>leave_XE z,bodyR h fun cs pre=>h2 cs pre⟩
end
section
variable{K:W.Frag}{E:FK}{X:Exc→Sl→Prop}{ρ:Sl}{DV:VEnds}{n:Nat}{Pre:List AV→Prop}{Post:List AV→AV→Prop}
end
end VL
end
section
namespace VL
open PySem PySem.Spec PyProof.Rows L2
variable[Tabs]
noncomputable def spW(K:W.Frag)(Pre:List AV→Prop)(Post:List AV→List AV→Prop):Sp:=fun vs H Q _=>TabsIn H∧∃ cs p,RAs K (hid H p Z0) H vs cs p∧(∀ b,p b≤1)∧Pre cs ∧
 ∀ cs',Post cs cs'→∀ H' p',Same (hid H p Z0) H'→RAs K (hid H' p' Z0) H' vs cs' p'→(∀ b,p' b≤1)→(∀ b,0<p' b→hid H p Z0 b=none)→Q .non H'
section
variable{K:W.Frag}{G H H' H0:Hp}{σ:L2.St}{ρ:Sl}{ts:List V}{as:List TV}
inductive Vals(σ:L2.St):List (Nat ⊕ V)→List V→Prop
 | nil:Vals σ [] []
 | slot {i:Nat} {v:V} {ms:List (Nat ⊕ V)} {vs:List V}:σ[i]?=some (some v)→Vals σ ms vs→Vals σ (.inl i::ms) (v::vs)
 | val {v:V} {ms:List (Nat ⊕ V)} {vs:List V}:Vals σ ms vs→Vals σ (.inr v::ms) (v::vs)
noncomputable def outs(ρ:Sl):List (Nat ⊕ V)→Sl
 | []=>ρ
 | .inl i::ms=>(outs ρ ms).set i none
 | .inr _::ms=>outs ρ ms
inductive InsW(ρ:Sl):List (Nat ⊕ V)→List AV→Prop
 | nil:InsW ρ [] []
 | slot {i:Nat} {a:AV} {ms:List (Nat ⊕ V)} {cs:List AV}:(outs ρ ms)[i]?=some (some a)→InsW ρ ms cs→InsW ρ (.inl i::ms) (a::cs)
 | val {v:V} {d:PyData} {ms:List (Nat ⊕ V)} {cs:List AV}:dvD v=some d→InsW ρ ms cs→InsW ρ (.inr v::ms) (.d d::cs)
noncomputable def backs:Sl→List (Nat ⊕ V)→List AV→Sl
 | ρ,.inl i::ms,c::cs=>backs (ρ.set i (some c)) ms cs
 | ρ,.inr _::ms,_::cs=>backs ρ ms cs
 | ρ,_,_=>ρ
theorem SR.takeW{ms:List (Nat ⊕ V)}{cs:List AV}(i:InsW ρ ms cs):∀ {vs:List V},Vals σ ms vs→SR K H0 σ ρ ts as H→SR K H0 σ (outs ρ ms) (vs++ts) (cs.map TV.av++as) H:=by
 induction i with
 | nil=>intro vs hv s;cases hv;exact s
 | slot h _ ih =>
  intro vs hv s
  cases hv with
  | slot e hv =>
   obtain⟨w,e2,s2⟩:=(ih hv s).take h
   rw[e] at e2
   cases e2
   exact s2
 | val h _ ih =>
  intro vs hv s
  cases hv with
  | val hv=>exact (ih hv s).push fun G=>dvD_rep h
theorem SR.backW:∀ {ms:List (Nat ⊕ V)} {vs:List V} {ρ:Sl} {cs:List AV},Vals σ ms vs→vs.length=cs.length→SR K H0 σ ρ (vs++ts) (cs.map TV.av++as) H→SR K H0 σ (backs ρ ms cs) ts as H:=by
 intro ms
 induction ms with
 | nil=>intro vs ρ cs hv e s;cases hv;cases cs with
  | nil=>exact s
  | cons _ _=>cases e
 | cons m ms ih =>
  intro vs ρ cs hv e s
  cases hv with
  | @slot i v _ vs ev hv =>
   cases cs with
   | nil=>cases e
   | cons c cs =>
    have s:SR K H0 σ ρ (v::(vs++ts)) (.av c::(cs.map TV.av++as)) H:=s
    have hi:i<ρ.length:=by rw[← s.len];exact (List.getElem?_eq_some_iff.mp ev).1
    have s2:=s.store hi
    have e2:σ.set i (some v)=σ:=by
     apply List.ext_getElem?
     intro j
     by_cases hj:i=j
     ·subst hj;rw[List.getElem?_set_self (by rw[s.len];exact hi),ev]
     ·rw[List.getElem?_set_ne hj]
    rw[e2] at s2
    exact ih hv (Nat.succ.inj e) s2
  | @val v _ vs hv =>
   cases cs with
   | nil=>cases e
   | cons c cs =>
    have s:SR K H0 σ ρ (v::(vs++ts)) (.av c::(cs.map TV.av++as)) H:=s
    exact ih hv (Nat.succ.inj e) s.pop
theorem RTs.join:∀ {vs:List V} {cs:List AV} {p q:Fp},RAs K G H vs cs p→RTs K G H ts as q→RTs K G H (vs++ts) (cs.map TV.av++as) (fun b=>p b+q b):=by
 intro vs
 induction vs with
 | nil =>
  intro cs p q r t
  cases r with
  | nil z =>
   have e:(fun b=>p b+q b)=q:=by funext b;rw[z b,Nat.zero_add]
   rw[e]
   exact t
 | cons v vs ih =>
  intro cs p q r t
  cases r with
  | cons r rs e=>exact .cons (.av r) (ih rs t) fun b=>by rw[e b,Nat.add_assoc]
theorem SR.callW{vs:List V}{cs:List AV}(s:SR K H0 σ ρ (vs++ts) (cs.map TV.av++as) H)(hl:vs.length=cs.length)(hS:Stb as) :
  ∃ p:Fp,RAs K (hid H p Z0) H vs cs p∧(∀ b,p b≤1)∧∀ cs' H' p',Same (hid H p Z0) H'→RAs K (hid H' p' Z0) H' vs cs' p'→(∀ b,p' b≤1)→(∀ b,0<p' b→hid H p Z0 b=none)→AV.cleans cs'=true→SR K H0 σ ρ (vs++ts) (cs'.map TV.av++as) H':=by
 obtain⟨⟨p,q,h1,h2,h3,h4⟩,sm⟩:=s
 obtain⟨p1,p2,e,r1,r2⟩:=RTs.avs (xs:=cs) hl h2
 have z2:=r2.stb hS
 refine⟨p1,r1.mono (hid_more fun b z=>by have:=e b;simp only[Z0];omega) (fun _ _ _ z=>z),fun b=>by have:=e b;have:=h3 b;omega,fun cs' H' p' same ra le fresh cl=>?_⟩
 have own:∀ b,0<p b+q b→∃ o,H b=some o∧Mu o:=SR.lsts h1 h2
 have stay:∀ b o,p1 b=0→H b=some o→H' b=some o:=fun b o z ho=>same b o (by unfold hid Z0;rw[z];exact ho)
 have apart:∀ b,0<p' b→p b=0∧p2 b=0:=fun b z=>by
  have hf:=fresh b z
  have h3b:=h3 b
  have eb:=e b
  rcases Nat.eq_zero_or_pos (p1 b) with k|k
  ·have hn:H b=none:=by
    unfold hid Z0 at hf
    rw[k] at hf
    exact hf
   rcases Nat.eq_zero_or_pos (p b+q b) with k2|k2
   ·omega
   ·obtain⟨o,ho,_⟩:=own b k2
    rw[hn] at ho
    cases ho
  ·omega
 have hG:Same (hid H p q) (hid H' p (fun b=>p' b+p2 b)):=fun b o ho=>by
  unfold hid at ho ⊢
  split at ho
  ·rename_i z
   have eb:=e b
   have hb:=stay b o (by omega) ho
   have zp:p' b=0:=by
    rcases Nat.eq_zero_or_pos (p' b) with k|k
    ·exact k
    ·have hf:=fresh b k
     unfold hid Z0 at hf
     rw[show p1 b=0 by omega] at hf
     have hf:H b=none:=hf
     rw[ho] at hf
     cases hf
   show (if p b+(p' b+p2 b)=0 then H' b else none)=some o
   have:=z2 b
   rw[if_pos (by omega)]
   exact hb
  ·cases ho
 have hG':Same (hid H' p' Z0) (hid H' p' Z0):=.refl _
 refine⟨⟨p,fun b=>p' b+p2 b,h1.mono hG (fun b o z ho=>stay b o (by have:=e b;have:=h3 b;omega) ho),?_,fun b=>?_,fun b z=>?_⟩,fun b o ho=>?_⟩
 ·refine RTs.join ?_ (r2.monoS hG hS fun b o z ho=>stay b o (by have:=z2 b;omega) ho)
  refine ra.cl (fun b z=>?_) cl
  have z:0<p b+(p' b+p2 b):=z
  rcases Nat.eq_zero_or_pos (p' b) with k|k
  ·obtain⟨o,ho,mu⟩:=own b (by have:=z2 b;omega)
   exact⟨o,stay b o (by have:=e b;have:=h3 b;have:=z2 b;omega) ho,mu⟩
  ·exact ra.lst b k
 ·show p b+(p' b+p2 b)≤1
  have:=le b
  have h3b:=h3 b
  have eb:=e b
  rcases Nat.eq_zero_or_pos (p' b) with k|k
  ·omega
  ·have:=apart b k
   omega
 ·have z:0<p b+(p' b+p2 b):=z
  rcases Nat.eq_zero_or_pos (p' b) with k|k
  ·exact h4 b (by have:=e b;omega)
  ·have hf:=fresh b k
   rcases Nat.eq_zero_or_pos (p1 b) with k1|k1
   ·unfold hid Z0 at hf
    rw[k1] at hf
    have hf:H b=none:=hf
    cases h0:H0 b with
    | none=>rfl
    | some o =>
     have:=sm b o h0
     rw[hf] at this
     cases this
   ·exact h4 b (by have:=e b;omega)
 ·have h0:p1 b=0:=by
   rcases Nat.eq_zero_or_pos (p1 b) with k|k
   ·exact k
   ·have:=h4 b (by have:=e b;omega)
    rw[this] at ho
    cases ho
  exact stay b o h0 (sm b o ho)
noncomputable def Wa(K:W.Frag)(E:FK)(X:Exc→Sl→Prop)(t:TA)(ρ:Sl)(Q:List (Nat ⊕ V)→Prop):Prop :=
 ∀ (H0:Hp) (σ:L2.St) (ts:List V) (as:List TV) (H:Hp) (QV:List V→Hp→Prop),SR K H0 σ ρ ts as H→XOk K E X H0→(∀ ms,Q ms→∀ vs H',Vals σ ms vs→SR K H0 σ ρ ts as H'→QV vs H')→t σ H QV
variable{E:FK}{X:Exc→Sl→Prop}
theorem wa_nil{Q:List (Nat ⊕ V)→Prop}(q:Q []):Wa K E X tNil ρ Q:=fun H0 σ ts as H QV s x k=>k [] q [] H .nil s
theorem wa_slot{i:Nat}{t:TA}{a:AV}{Q:List (Nat ⊕ V)→Prop}(hi:ρ[i]?=some (some a))(h:Wa K E X t ρ fun ms=>Q (.inl i::ms)):Wa K E X (tCons (tVar i) t) ρ Q:=fun H0 σ ts as H QV s x k=>by
 obtain⟨v,ev,_⟩:=s.var hi
 exact⟨v,ev,h H0 σ ts as H _ s x fun ms q vs H' hv s'=>k _ q _ _ (.slot ev hv) s'⟩
theorem wa_int{te:TE}{t:TA}{Q:List (Nat ⊕ V)→Prop}(h:Ev K E X te ρ fun a=>∃ k:Int,NR a∧a.data=.int k∧Wa K E X t ρ fun ms=>Q (.inr (.int k)::ms)):Wa K E X (tCons te t) ρ Q:=fun H0 σ ts as H QV s x k =>
 h H0 σ ts as H _ s x fun a ⟨i,na,ha,w⟩ v H1 s1=>by
  have r:=s1.top na
  rw[ha] at r
  have ev:v=.int i:=by cases r;rfl
  subst ev
  exact w H0 σ ts as H1 _ s1.pop x fun ms q vs H' hv s'=>k _ q _ _ (.val hv) s'
theorem Vals.len{ms:List (Nat ⊕ V)}{vs:List V}(h:Vals σ ms vs):vs.length=ms.length:=by
 induction h with
 | nil=>rfl
 | slot _ _ ih=>simp[ih]
 | val _ ih=>simp[ih]
theorem InsW.len{ms:List (Nat ⊕ V)}{cs:List AV}(h:InsW ρ ms cs):cs.length=ms.length:=by
 induction h with
 | nil=>rfl
 | slot _ _ ih=>simp[ih]
 | val _ _ ih=>simp[ih]
theorem sv_callW{Pre:List AV→Prop}{Post:List AV→List AV→Prop}{A:TA}{E':XK}{DV:VEnds}
  (h:Wa K E X A ρ fun ms=>∃ cs,InsW ρ ms cs∧Pre cs∧∀ cs',Post cs cs'→AV.cleans cs'=true∧DV.nx (backs (outs ρ ms) ms cs')):Sv K E X (tDrop (tCall (spW K Pre Post) [] E' A)) ρ DV:=fun H0 σ ts as H D st s x f =>
 h H0 σ ts as H _ s x fun ms ⟨cs,iw,pre,q⟩ vs H' hv s'=>by
  obtain⟨p,r,le,back⟩:=(s'.takeW iw hv).callW (by rw[hv.len,iw.len]) st
  rw[List.append_nil]
  refine⟨x.t.same s'.same,cs,p,r,le,pre,fun cs' post H2 p' same ra le' fresh=>?_⟩
  obtain⟨cl,nx⟩:=q cs' post
  exact f.nx _ nx _ _ ((back cs' H2 p' same ra le' fresh cl).backW hv ra.len)
noncomputable def Kpt(κ:List (Nat×V))(σ:L2.St):Prop:=∀ q∈κ,σ[q.1]?=some (some q.2)
structure FitK(κ:List (Nat×V))(K:W.Frag)(H0:Hp)(ts:List V)(as:List TV)(DV:VEnds)(D:Ends):Prop where
 nx:∀ ρ,DV.nx ρ→∀ σ H,SR K H0 σ ρ ts as H→Kpt κ σ→D.nx σ H
 bk:∀ ρ,DV.bk ρ→∀ σ H,SR K H0 σ ρ ts as H→Kpt κ σ→D.bk σ H
 ct:∀ ρ,DV.ct ρ→∀ σ H,SR K H0 σ ρ ts as H→Kpt κ σ→D.ct σ H
 rt:∀ a,DV.rt a→∀ v σ ρ H,SR K H0 σ ρ (v::ts) (a::as) H→D.rt v H
noncomputable def Sw(K:W.Frag)(E:FK)(X:Exc→Sl→Prop)(S:List Nat)(t:TS)(ρ:Sl)(DV:VEnds):Prop :=
 ∀ (κ:List (Nat×V)),κ.map Prod.fst=S→∀ (H0:Hp) (σ:L2.St) (ts:List V) (as:List TV) (H:Hp) (D:Ends),Stb as→SR K H0 σ ρ ts as H→Kpt κ σ→XOk K E X H0→FitK κ K H0 ts as DV D→t D σ H
variable{S:List Nat}{DV:VEnds}{t u:TS}
theorem sw_nx(h:DV.nx ρ):Sw K E X S tNext ρ DV:=fun κ hκ H0 σ ts as H D st s kp x f=>f.nx ρ h σ H s kp
theorem sw_seq(h:Sw K E X S t ρ ⟨fun ρ'=>Sw K E X S u ρ' DV,DV.rt,DV.bk,DV.ct⟩):Sw K E X S (tSeq t u) ρ DV:=fun κ hκ H0 σ ts as H D st s kp x f =>
 h κ hκ H0 σ ts as H _ st s kp x ⟨fun ρ' g σ' H' s' kp'=>g κ hκ H0 σ' ts as H' D st s' kp' x f,f.bk,f.ct,f.rt⟩
theorem sw_if{c:TT}(h:Tv K E X c ρ fun b=>if b=true then Sw K E X S t ρ DV else Sw K E X S u ρ DV):Sw K E X S (tIfS c t u) ρ DV:=fun κ hκ H0 σ ts as H D st s kp x f =>
 h H0 σ ts as H _ s x fun b g H' s'=>by
  cases b with
  | true=>rw[if_pos rfl] at g ⊢;exact g κ hκ H0 σ ts as H' D st s' kp x f
  | false=>rw[if_neg Bool.false_ne_true] at g ⊢;exact g κ hκ H0 σ ts as H' D st s' kp x f
noncomputable def NxA(S:List Nat)(t:TS):Prop:=∀ (D:Ends) (σ:L2.St) (H:Hp),t ⟨fun σ' H'=>(∀ i,i∈S→σ'[i]?=σ[i]?)→D.nx σ' H',D.rt,fun σ' H'=>(∀ i,i∈S→σ'[i]?=σ[i]?)→D.bk σ' H',fun σ' H'=>(∀ i,i∈S→σ'[i]?=σ[i]?)→D.ct σ' H'⟩ σ H→t D σ H
theorem sw_a(a:NxA S t)(h:Sv K E X t ρ DV):Sw K E X S t ρ DV:=fun κ hκ H0 σ ts as H D st s kp x f=>by
 refine a D σ H (h H0 σ ts as H _ st s x ?_)
 have key:∀ {σ':L2.St},(∀ i,i∈S→σ'[i]?=σ[i]?)→Kpt κ σ':=fun k q hq=>by
  rw[k q.1 (by rw[← hκ];exact List.mem_map_of_mem hq)]
  exact kp q hq
 exact⟨fun ρ' g σ' H' s' k=>f.nx ρ' g σ' H' s' (key k),fun ρ' g σ' H' s' k=>f.bk ρ' g σ' H' s' (key k),fun ρ' g σ' H' s' k=>f.ct ρ' g σ' H' s' (key k),f.rt⟩
theorem nx_drop{te:TE}:NxA S (tDrop te):=fun D σ H h=>by
 unfold tDrop at h ⊢
 simpa using h
theorem nx_asg{te:TE}{j:Nat}(hj:j∉S):NxA S (tAsg te (gName j)):=fun D σ H h=>by
 unfold tAsg gName at h ⊢
 have e:∀ v:V,(∀ i,i∈S→(σ.set j (some v))[i]?=σ[i]?):=fun v i hi=>by rw[List.getElem?_set_ne (show j≠i from fun z=>hj (z▸hi))]
 have e2:(fun (x:V) (H1:Hp)=>(∀ i,i∈S→(σ.set j (some x))[i]?=σ[i]?)→D.nx (σ.set j (some x)) H1)=fun x H1=>D.nx (σ.set j (some x)) H1:=by
  funext x H1
  exact propext ⟨fun k=>k (e x),fun k _=>k⟩
 exact e2▸h
theorem nx_sub{te to ti:TE}{r:TSet}:NxA S (tAsg te (gSub to ti r)):=fun D σ H h=>by
 unfold tAsg gSub at h ⊢
 simpa using h
theorem RSl.first:∀ {cs:List AV} {rest:Sl} {σ:L2.St} {p:Fp} {vs:List V},RSl K G H σ (cs.map some++rest) p→(∀ (i:Nat) (v:V),vs[i]?=some v→σ[i]?=some (some v))→vs.length=cs.length→∃ p1 p2:Fp,(∀ b,p b=p1 b+p2 b)∧RAs K G H vs cs p1:=by
 intro cs
 induction cs with
 | nil =>
  intro rest σ p vs r _ e
  cases vs with
  | nil=>exact⟨fun _=>0,p,fun b=>by simp,.nil fun _=>rfl⟩
  | cons _ _=>cases e
 | cons c cs ih =>
  intro rest σ p vs r k e
  cases vs with
  | nil=>cases e
  | cons v vs =>
   have r:RSl K G H σ (some c::(cs.map some++rest)) p:=r
   cases r with
   | @so w _ σ' _ q1 q2 _ ra rs eb =>
    have hv:=k 0 v rfl
    have hv:some (some w)=some (some v):=hv
    cases hv
    obtain⟨p1,p2,e2,ra2⟩:=ih rs (fun i u hu=>k (i+1) u hu) (Nat.succ.inj e)
    exact⟨fun b=>q1 b+p1 b,p2,fun b=>by rw[eb b,e2 b,Nat.add_assoc],.cons ra ra2 fun _=>rfl⟩
theorem SR.startW{N:List Str}{vs:List V}{cs:List AV}{p:Fp}(h:RAs K (hid H p Z0) H vs cs p)(le:∀ b,p b≤1):SR K (hid H p Z0) (L2.start N vs) (inA N cs) [] [] H:=by
 have hl:=h.len
 refine⟨⟨p,Z0,?_,.nil fun _=>rfl,fun b=>by have:=le b;simp only[Z0];omega,fun b z=>by unfold hid;rw[if_neg (by omega)]⟩,hid_le⟩
 unfold L2.start inA
 rw[hl]
 clear hl le
 generalize N.length-cs.length=m
 generalize hG:hid H p Z0=G at h ⊢
 clear hG
 have gen:∀ {vs:List V} {cs:List AV} {p:Fp},RAs K G H vs cs p→RSl K G H (vs.map some++List.replicate m none) (cs.map some++List.replicate m none) p:=by
  intro vs
  induction vs with
  | nil =>
   intro cs p r
   cases r with
   | nil z =>
    simp only[List.map_nil,List.nil_append]
    clear h
    induction m with
    | zero=>exact .nil z
    | succ m ih=>exact .no ih
  | cons v vs ih =>
   intro cs p r
   cases r with
   | cons r rs e=>exact .so r (ih rs) e
 exact gen h
noncomputable abbrev finW(n:Nat)(Post:List AV→Prop):VEnds:=⟨fun ρ'=>∃ cs' rest,cs'.length=n∧Post cs'∧ρ'=cs'.map some++rest,fun _=>False,fun _=>False,fun _=>False⟩
theorem bodyW{t:TS}{N:List Str}{Pre:List AV→Prop}{Post:List AV→List AV→Prop}{vs:List V}{Qv:VK}{E E':XK}{n:Nat}(sp:spW K Pre Post vs H Qv E')(hn:vs.length=n)
  (h:∀ cs,Pre cs→Sw K (toF E) NE (List.range n) t (inA N cs) (finW n (Post cs))):t { nx:=fun _ H'=>Qv .non H',rt:=Qv } (L2.start N vs) H:=by
 obtain⟨tb,cs,p,ra,le,pre,q⟩:=sp
 have tb':TabsIn (hid H p Z0):=fun x hx=>by
  have hx2:=tb x hx
  unfold hid
  rcases Nat.eq_zero_or_pos (p x.1) with z|z
  ·rw[if_pos (by simp only[Z0];omega)];exact hx2
  ·obtain⟨o,ho,mu⟩:=ra.lst _ z
   rw[hx2] at ho
   cases ho
   exact mu.elim
 have hz:((List.range n).zip vs).map Prod.fst=List.range n:=List.map_fst_zip (by rw[List.length_range,hn];exact Nat.le_refl _)
 refine h cs pre ((List.range n).zip vs) hz (hid H p Z0) _ [] [] H _ Stb.nil (SR.startW ra le) (fun q hq=>?_) (XOk.ne tb') ⟨fun ρ' ⟨cs',rest,l1,po,e⟩ σ' H' s' kp=>?_,fun _ z=>z.elim,fun _ z=>z.elim,fun _ z=>z.elim⟩
 ·unfold L2.start
  obtain⟨i,v⟩:=q
  have e:vs[i]?=some v:=by
   obtain⟨k,hk,e⟩:=List.mem_iff_getElem.mp hq
   rw[List.getElem_zip,List.getElem_range] at e
   cases e
   rw[List.getElem?_eq_getElem]
  have hi:=(List.getElem?_eq_some_iff.mp e).1
  show (vs.map some++_)[i]?=some (some v)
  rw[List.getElem?_append_left (by rw[List.length_map];exact hi),List.getElem?_map,e]
  rfl
 ·subst e
  obtain⟨⟨P,Q,h1,h2,h3,h4⟩,sm⟩:=s'
  obtain⟨p1,p2,e,r1⟩:=h1.first (fun i v e=>kp (i,v) (by
   have hi:i<vs.length:=(List.getElem?_eq_some_iff.mp e).1
   refine List.mem_iff_getElem.mpr ⟨i,by rw[List.length_zip,List.length_range];omega,?_⟩
   rw[List.getElem_zip,List.getElem_range,(List.getElem?_eq_some_iff.mp e).2])) (by rw[hn,l1])
  exact q cs' po H' p1 sm (r1.mono (hid_more fun b z=>by have:=e b;simp only[Z0];omega) fun _ _ _ z=>z) (fun b=>by have:=e b;have:=h3 b;omega) fun b z=>h4 b (by have:=e b;omega)
end
section
variable{P:Program}{w:World}{K:W.Frag}{mg:Str→Option Value}{base:Heap}{CX:CXT}{x:Str}{st:Stmt}{N ps:List Str}{dvss:List (List V)}{k:Nat}{Pre:List AV→Prop}{Post:List AV→List AV→Prop}
theorem spW_len{vs:List V}{H:Hp}{Q:VK}{E:XK}{n:Nat}(h:spW K Pre Post vs H Q E)(hS:∀ cs,Pre cs→cs.length=n):vs.length=n:=by
 obtain⟨_,cs,p,r,_,pre,_⟩:=h
 rw[r.len];exact hS cs pre
theorem valW(T:Tx K mg x st ps dvss)(Sc:FnScope N ps (defScope st))(hS:∀ cs,Pre cs→cs.length=ps.length)
  (hbody:∀ (f:Addr) (cdv:Value) (A:Around) (outer:List Env) (s:Shared) (H:Hp) (E:XK),Room k (A.deeper (envOfC x (defScope st) s.heap.objs.size f cdv)) →
   ∃ t,PSs (cxOf CX P w K mg base N x (defScope st) f cdv A outer s H E).nox (defBody st) t∧∀ cs,Pre cs→Sw K (toF E) NE (List.range ps.length) t (inA N cs) (finW ps.length (Post cs))) :
  ∀ dvs∈dvss,Cal P w K mg base CX (k+1) x ps dvs (spW K Pre Post) :=
 T.cal (k:=k) Sc (fun vs H Q E h=>spW_len h hS) fun f cdv A outer s H vs Q E hr h =>
  let ⟨t,h1,h2⟩:=hbody f cdv A outer s H E hr
  ⟨t,h1,bodyW h (spW_len h hS) fun cs pre=>h2 cs pre⟩
end
end VL
end
section
namespace VL
open PySem PySem.Spec PyProof.Rows L2
variable[Tabs]
section
variable{K:W.Frag}{G H H' H0:Hp}{σ:L2.St}{ρ:Sl}{ts:List V}{as:List TV}{E:FK}{X:Exc→Sl→Prop}{DV:VEnds}{n:Nat}{te ti:TE}
variable{S:List Nat}{t u:TS}
theorem sw_ifJ{c:TT}(h:Tv K E X c ρ fun b=>if b=true then Sw K E X S t ρ DV else Sw K E X S u ρ DV):Sw K E X S (tIfJ c t u) ρ DV:=sw_if h
end
end VL
end
section
namespace L2
open PySem PySem.Spec PyProof.Rows
noncomputable def RdE(H:Hp)(a:Addr)(ks:List (Key×V)):Prop:=Rd H a (.dK ks)∨(ks=[]∧Rd H a (.dT []))
theorem rdE_of{P:Program}{w:World}{H:Hp}{h:Heap}{a:Addr}{ks:List (Key×V)}(ok:HOk P w H h)(e:RdE H a ks):ks.length≤sizeLine∧(a == sysModules)=false∧∃ vs,KV ks vs∧h.DictOf (mixKind P w) a vs:=by
 rcases e with e|⟨rfl,e⟩
 ·exact dk_rd ok e
 ·obtain⟨h1,h2⟩:=dk_rdE ok (.inr e)
  exact⟨Nat.zero_le _,h1,[],.nil,h2⟩
noncomputable def DGetE(H:Hp)(a:Addr)(y:V)(r:Option V):Prop:=DGet H a y r∨(r=none∧(∃ k,y=kV k)∧Rd H a (.dT []))
noncomputable def tDGetE(td ty tx:TE):TE:=fun σ H Q=>td σ H fun x H1=>∃ a,x=.ref a∧IsD H1 a∧ty σ H1 fun y H2=>tx σ H2 fun z H3=>∃ o,DGetE H3 a y o∧Q (o.getD z) H3
noncomputable def tDPopE(td ty tx:TE):TE:=fun σ H Q=>td σ H fun x H1=>∃ a,x=.ref a∧IsD H1 a∧ty σ H1 fun y H2=>tx σ H2 fun z H3=>∃ k,y=kV k ∧
 ((∃ kvs,H3 a=some (.dK kvs)∧(∀ v,valV kvs k=some v→Q v (upd H3 a (.dK (dropK kvs k))))∧(valV kvs k=none→Q z H3))∨(H3 a=some (.dT [])∧Q z (upd H3 a (.dK []))))
section
variable{X:Cx}{o e f:Expr}{apos cpos:Pos}{td ty tx:TE}
theorem pe_dgetE(hu:X.A.units+64<cLine)(ho:PE X o td)(he:PE X e ty)(hf:PE X f tx)(m:M2 X o "get" apos e f cpos):PE X (.Call (.Attribute o "get" apos) [e,f] [] cpos) (tDGetE td ty tx):=by
 intro pins s σ H Q I h
 refine wpAny_Call_method m.base m.few m.line PySem.F.plainAttrs_dict PySem.F.slot_dict_get PySem.F.type_dict_get (thn (ho pins s σ H _ I h) fun u s1 ⟨x,H1,I1,rx,a,ex,d,q1⟩=>?_)
 subst ex
 obtain rfl:u=Value.ref a:=rx
 obtain⟨t1,t2,_⟩:=isD_at I1 d
 refine⟨t1,t2,?_⟩
 rw[m.trees]
 refine Calls.callWith_builtin rfl (Calls.evalArgs_plain (Calls.spliced_cons (thn (he pins s1 σ H1 _ I1 q1) fun iv s2 ⟨y,H2,I2,ry,q2⟩ =>
  Calls.spliced_cons (thn (hf pins s2 σ H2 _ I2 q2) fun fv s3 ⟨z,H3,I3,rz,ov,g,q3⟩=>Calls.spliced_nil ?_))))
 rcases g with g|⟨rfl,⟨k,rfl⟩,e⟩
 ·exact d_get2 (by omega) I3 g ry rz fun w' s4 I4 rw'=>⟨_,H3,I4,rw',q3⟩
 ·obtain⟨hd,dd⟩:=dk_rdE I3.hok (.inr e)
  exact call_meetsIn PySem.F.slot_dict_get dd.typeIs PySem.F.entry_dict_get (PySem.F.args_dict_get_3 _ _ _) (meets_dict_get_default (mixKind X.prog X.w) a (kV_is ry) hd fv) ⟨_,dd.mapOf,⟨_,H3,I3.tok _,rz,q3⟩⟩
theorem pe_dpopE(ho:PE X o td)(he:PE X e ty)(hf:PE X f tx)(m:M2 X o "pop" apos e f cpos):PE X (.Call (.Attribute o "pop" apos) [e,f] [] cpos) (tDPopE td ty tx):=by
 intro pins s σ H Q I h
 refine wpAny_Call_method m.base m.few m.line PySem.F.plainAttrs_dict PySem.F.slot_dict_pop PySem.F.type_dict_pop (thn (ho pins s σ H _ I h) fun u s1 ⟨x,H1,I1,rx,a,ex,d,q1⟩=>?_)
 subst ex
 obtain rfl:u=Value.ref a:=rx
 obtain⟨t1,t2,_⟩:=isD_at I1 d
 refine⟨t1,t2,?_⟩
 rw[m.trees]
 refine Calls.callWith_builtin rfl (Calls.evalArgs_plain (Calls.spliced_cons (thn (he pins s1 σ H1 _ I1 q1) fun iv s2 ⟨y,H2,I2,ry,q2⟩ =>
  Calls.spliced_cons (thn (hf pins s2 σ H2 _ I2 q2) fun fv s3 ⟨z,H3,I3,rz,k,ey,g⟩=>Calls.spliced_nil ?_))))
 subst ey
 rcases g with⟨kvs,ea,q3,q4⟩|⟨ea,q3⟩
 ·cases l:valV kvs k with
  | some v=>exact d_pop I3 ea ry l (.inr ⟨fv,rfl⟩) fun w' s4 I4 rw'=>⟨v,_,I4,rw',q3 v l⟩
  | none=>exact d_popD I3 ea ry l fun s4 I4=>⟨z,H3,I4,rz,q4 l⟩
 ·have x:=I3.hok a _ ea
  obtain⟨q0,hq⟩:∃ q,s3.heap.get? a=some q:=by obtain⟨_,_,_,_,q,_,_,hq,_⟩:=x;exact⟨q,hq⟩
  have J:Inv X pins σ (upd H3 a (.dK [])) s3:=d_write (t':=s3.toks) I3 (by rw[ea];exact True.intro) (Heap.SameBut.refl a s3.heap) ⟨q0,hq⟩ (dt_dk x)
  exact d_popD J upd_same ry rfl fun s4 I4=>⟨z,_,I4,rz,q3⟩
end
noncomputable def rDictE:List V→Hp→VK→Prop:=fun xs H Q=>∃ (a:Addr) (kvs:List (Key×V)),xs=[.ref a]∧RdE H a kvs∧∀ p,H p=none→Q (.ref p) (upd H p (.dK kvs))
theorem call_dictE{X:Cx}:CallR X (.type "dict") rDictE:=by
 intro pins s σ H xs us Q I rv h
 obtain⟨a,kvs,rfl,e,q⟩:=h
 obtain⟨u,rfl,ru⟩:=rv.one
 cases ru
 obtain⟨z,hd,vs,rel,dd⟩:=rdE_of I.hok e
 refine kt_call_dict hd dd (by rw[← rel.length];exact z) fun h' dd' hs=>?_
 refine⟨.ref s.heap.objs.size,_,I.laid (a:=s.heap.objs.size) (o:=.dK kvs) (t':=s.toks) (fun b q hq=>?_) (Nat.le_refl _) (dk_new z (beq_eq_false_iff_ne.mpr (Ne.symm (Nat.ne_of_lt I.big))) rel dd'),rfl,q _ (I.hok.fresh (Nat.le_refl _))⟩
 exact (hs.2 b (Nat.ne_of_lt (Heap.lt_size hq))).trans (Heap.get?_push_of_some _ hq)
noncomputable def SameE(K:W.Frag)(H:Hp)(x y:V):Prop:=∃ (a b:Addr) (ka kb:List (Key×V)) (ds:List PyData),x=.ref a∧y=.ref b∧RdE H a ka∧RdE H b kb∧ka.map Prod.fst=kb.map Prod.fst∧Reps K H (ka.map Prod.snd) ds∧Reps K H (kb.map Prod.snd) ds∧∀ d∈ds,scD d=true
noncomputable def rEqDE(K:W.Frag):R2:=fun x y H Q=>SameE K H x y∧Q (.bl true) H
theorem op_eqDE{X:Cx}{K:W.Frag}(hK:X.K=K)(hu:X.A.units+64<cLine):OpR X (compareOp .Eq) (rEqDE K):=by
 subst hK
 intro pins s σ H x y v u Q I rx ry h
 obtain⟨⟨a,b,ka,kb,ds,rfl,rfl,ha,hb,ek,h1,h2,hs⟩,q⟩:=h
 cases rx
 cases ry
 obtain⟨z1,hd1,va,rel1,dd1⟩:=rdE_of I.hok ha
 obtain⟨z2,hd2,vb,rel2,dd2⟩:=rdE_of I.hok hb
 have hn:(vb.map (·.1)).Nodup:=by obtain⟨_,_,_,_,_,_,_,_,hn⟩:=dd2;exact hn
 have h5:va.length=vb.length:=by
  rw[← rel1.length,← rel2.length]
  simpa using congrArg List.length ek
 refine PySem.W.keq_eq (r:=true) hd1 hd2 dd1 dd2 (by omega) (fun _=>hits_of rel1 rel2 ek h1 h2 hs (valueAt_nd hn)) ?_
 rw[h5]
 simp only[beq_self_eq_true,Bool.and_true]
 exact⟨.bl true,H,I,rfl,q⟩
noncomputable def repS(z:Str)(k:Nat):Str:=⟨(List.replicate k z.cps).foldl (·++·) #[]⟩
noncomputable def rRepS:R2:=fun x y H Q=>∃ (z:Str) (k:Int),x=.str z∧y=.int k∧2≤k∧k≤1000∧0<z.length∧z.length≤1000∧Q (.str (repS z k.toNat)) H
theorem op_repS{X:Cx}:OpR X (binaryOp .Mult) rRepS:=by
 intro pins s σ H x y v u Q I rx ry h
 obtain⟨z,k,rfl,rfl,k2,k3,z1,z2,q⟩:=h
 obtain⟨t,rfl⟩:=rx
 obtain⟨t',rfl⟩:=ry
 have e1:(k == 1 || z.length == 0)=false:=by
  rw[Bool.or_eq_false_iff]
  exact⟨beq_eq_false_iff_ne.mpr (by omega),beq_eq_false_iff_ne.mpr (by omega)⟩
 have hm:z.length*k.toNat≤1000*1000:=Nat.mul_le_mul z2 (by omega)
 refine PySem.P.mul_str ?_ (fun _ _=>?_) (fun _ _=>?_) ?_
 ·rw[Bool.or_eq_false_iff];exact⟨decide_eq_false (by omega),decide_eq_false (by omega)⟩
 ·have:(1000:Int)≤(2 ^ 63-1) / k:=Int.le_ediv_of_mul_le (by omega) (by omega)
  omega
 ·show decide (_ > sizeLine)=false
  exact decide_eq_false (by rw[sizeLine_eq];omega)
 ·rw[if_neg (by omega),e1]
  have:=@post_val_or_str s False _ z (repS z k.toNat) t (EP X pins σ Q)
  rw[if_neg id,if_neg id] at this
  refine this ⟨?_,fun t' n=>⟨.str _,H,I.tok n,⟨_,rfl⟩,q⟩⟩
  have hl:(repS z k.toNat).length=z.length*k.toNat:=by
   have key:∀ (m:Nat) (a:Array Nat),((List.replicate m z.cps).foldl (·++·) a).size=a.size+z.length*m:=by
    intro m
    induction m with
    | zero=>intro a;simp
    | succ m ih=>intro a;rw[List.replicate_succ,List.foldl_cons,ih,Array.size_append,Nat.mul_succ];show a.size+z.length+_=_;omega
   have:=key k.toNat #[]
   rw[show (#[]:Array Nat).size=0 from rfl,Nat.zero_add] at this
   exact this
  rw[hl,sizeLine_eq]
  omega
end L2
namespace VL
open PySem PySem.Spec L2
variable[Tabs]
section
variable{K:W.Frag}{E:FK}{X:Exc→Sl→Prop}{ρ:Sl}{Q:TV→Prop}{DV:VEnds}{ta tb tc te ti:TE}{a b:TV}{n:Nat}
theorem dict_E{α:Type}[DecidableEq α]{f:α→PyData}{g:α→Key}(hf:∀ a,f a=keyD (g a))(hg:∀ a b,g a=g b→a=b){G:Hp}{y:V}{kvs:List (α×PyData)}(hy:Rep K G y (.dict (encD f kvs))):∃ a ks,y=.ref a∧RdE G a ks∧PR K G g ks kvs:=by
 cases show f=fun a=>keyD (g a) from funext hf
 have F:KEnc (fun a=>keyD (g a)):=⟨.inl ⟨g,hg,fun _=>rfl⟩⟩
 generalize hk:encD (fun a=>keyD (g a)) kvs=l at hy
 cases hy with
 | exc _ z=>exact absurd (hk.trans z) (enc_none F)
 | excF _ _ _ z=>exact absurd (hk.trans z) (enc_none F)
 | junk=>exact absurd hk (enc_none F)
 | @dK a ks ds _ hd rs z=>exact⟨a,ks,rfl,.inl hd,pr_of (fun _ _=>keyD_inj) (hk.trans z) rs⟩
 | @dT a ks ds _ hd rs z =>
  obtain⟨rfl,rfl⟩:=enc_nil (en:=fun k=>PyData.tuple (k.map keyD)) rs (hk.trans z) fun _ _=>keyD_tup
  exact⟨a,[],rfl,.inr ⟨rfl,hd⟩,.nil⟩
 | @dN a ks ds _ ne hd rs z=>exact absurd (enc_nil (en:=en3) rs (hk.trans z) fun _ _=>keyD_tup).2 ne
theorem Rep.sc_inv{G:Hp}{v:V}{d:PyData}(h:Rep K G v d)(hs:scD d=true):(∃ z,d=.str z∧v=.str z)∨∃ i,d=.int i∧v=.int i:=by
 cases d with
 | str z=>exact .inl ⟨z,rfl,L2.Rep.str_inv h⟩
 | int i=>exact .inr ⟨i,rfl,h.int_inv⟩
 | _=>cases hs
theorem ev_getE{α:Type}[DecidableEq α]{f:α→PyData}{g:α→Key}(hf:∀ a,f a=keyD (g a))(hg:∀ a b,g a=g b→a=b)(h:Ev K E X ta ρ fun a=>∃ kvs:List (α×PyData),a.data=.dict (encD f kvs)∧NR a∧Ev K E X tb ρ fun b=>∃ c,b.data=f c∧NR b∧Ev K E X tc ρ fun d=>∃ z,d.data=z∧NR d∧scD ((getA kvs c).getD z)=true∧Q (.av (.d ((getA kvs c).getD z)))):Ev K E X (tDGetE ta tb tc) ρ Q:=fun H0 σ ts as H QV s x k =>
 h H0 σ ts as H _ s x fun a ⟨kvs,ea,na,h2⟩ v H1 s1=>by
  have r:=s1.top na
  rw[ea] at r
  obtain⟨l,ks,rfl,hd,p⟩:=dict_E hf hg r
  have isd:IsD H1 l:=by
   rcases hd with hd|⟨_,hd⟩
   ·exact .inl ⟨_,hd⟩
   ·exact .inr ⟨_,hd⟩
  refine⟨l,rfl,isd,h2 H0 σ _ _ H1 _ s1 x fun b ⟨c,eb,nb,h3⟩ w H2 s2=>h3 H0 σ _ _ H2 _ s2 x fun d ⟨z,ed,nd,sc,q⟩ u H3 s3=>?_⟩
  have r:=s3.pop.pop.top na
  rw[ea] at r
  obtain⟨l',ks,e1,hd,p⟩:=dict_E hf hg r
  cases e1
  have rb:=s3.pop.top nb
  rw[eb,hf] at rb
  have eb:=Rep.kV rb
  subst eb
  have rz:=s3.top nd
  rw[ed] at rz
  obtain⟨g1,g2⟩:=pr_get hg (k:=c) p
  have fin:∀ vv,Rep K H3 vv ((getA kvs c).getD z)→QV vv H3:=fun vv rv=>by
   rcases Rep.sc_inv rv sc with⟨y,e1,rfl⟩|⟨i,e1,rfl⟩
   ·rw[e1] at q
    exact k _ q _ _ (s3.pop.pop.pop.push fun _=>.str y)
   ·rw[e1] at q
    exact k _ q _ _ (s3.pop.pop.pop.push fun _=>.int i)
  refine⟨valV ks (g c),?_,fin _ ?_⟩
  ·rcases hd with hd|⟨rfl,hd⟩
   ·exact .inl (.inl ⟨ks,g c,hd,rfl,rfl⟩)
   ·exact .inr ⟨rfl,⟨g c,rfl⟩,hd⟩
  ·cases hc:getA kvs c with
   | some y =>
    obtain⟨vv,e1,e2⟩:=g2 y hc
    rw[e1]
    exact e2
   | none =>
    rw[hc] at g1
    have:valV ks (g c)=none:=by simpa using g1
    rw[this]
    exact rz
noncomputable def dropA{α:Type}[DecidableEq α](l:List (α×PyData))(k:α):List (α×PyData):=l.filter fun p=>decide (p.1≠k)
theorem pr_drop{α κ:Type}[DecidableEq α][DecidableEq κ]{g:α→κ}{H:Hp}(hg:∀ a b,g a=g b→a=b){k:α}:∀ {ks:List (κ×V)} {kvs:List (α×PyData)},PR K H g ks kvs→PR K H g (dropK ks (g k)) (dropA kvs k)
 | _,_,.nil=>.nil
 | p::ks,q::kvs,.cons h t=>by
  have ih:=pr_drop hg (k:=k) t
  unfold dropK dropA at ih ⊢
  by_cases e:q.1=k
  ·have e':p.1=g k:=by rw[h.1,e]
   rw[List.filter_cons_of_neg (by simp[e']),List.filter_cons_of_neg (by simp[e])]
   exact ih
  ·have e':¬ p.1=g k:=fun z=>e (hg _ _ (h.1.symm.trans z))
   rw[List.filter_cons_of_pos (by simp[e']),List.filter_cons_of_pos (by simp[e])]
   exact .cons h ih
theorem dropA_none{α:Type}[DecidableEq α]{k:α}:∀ {l:List (α×PyData)},getA l k=none→dropA l k=l
 | [],_=>rfl
 | p::l,h=>by
  by_cases e:p.1=k
  ·simp[getA,List.find?_cons,e] at h
  ·have:getA (p::l) k=getA l k:=by simp[getA,List.find?_cons,e]
   rw[this] at h
   have ih:=dropA_none h
   unfold dropA at ih ⊢
   rw[List.filter_cons_of_pos (by simp[e]),ih]
theorem sv_popE{α:Type}[DecidableEq α]{f:α→PyData}{g:α→Key}(hf:∀ a,f a=keyD (g a))(hg:∀ a b,g a=g b→a=b){kvs:List (α×PyData)}(hi:ρ[n]?=some (some (.dic (encD f kvs))))
  (h:Ev K E X ti ρ fun b=>Ev K E X te ρ fun a=>∃ c z,b.data=f c∧NR b∧a=.av (.d z)∧DV.nx (ρ.set n (some (.dic (encD f (dropA kvs c)))))):Sv K E X (tDrop (tDPopE (tVar n) ti te)) ρ DV:=fun H0 σ ts as H D st s x fi=>by
 cases show f=fun a=>keyD (g a) from funext hf
 obtain⟨l,o,e1,e2,e3,_⟩:=(s.push (x:=.none) fun _=>.non).writeD (kvs':=encD (fun a=>keyD (g a)) kvs) st hi
 have isd:IsD H l:=by
  rcases e3 with⟨ks,ds,rfl,_⟩|⟨ks,ds,rfl,_⟩|⟨ks,ds,ne,rfl,rs,z⟩
  ·exact .inl ⟨_,.inl e2⟩
  ·exact .inr ⟨_,.inl e2⟩
  ·exact absurd (enc_nil (en:=en3) rs z fun _ _=>keyD_tup).2 ne
 refine⟨.ref l,e1,l,rfl,isd,h H0 σ ts as H _ s x fun b h2 w H1 s1=>h2 H0 σ _ _ H1 _ s1 x fun a ⟨c,z,eb,nb,ea,q⟩ v H2 s2=>?_⟩
 subst ea
 have hx:=s2.pop.top nb
 rw[eb] at hx
 have ew:=Rep.kV hx
 subst ew
 obtain⟨l',o',k1,k2,k3,k4⟩:=(s2.swap.pop).writeD (kvs':=encD (fun a=>keyD (g a)) (dropA kvs c)) st hi
 rw[e1] at k1
 cases k1
 refine⟨g c,rfl,?_⟩
 rcases k3 with⟨ks,ds,rfl,rs,zz⟩|⟨ks,ds,rfl,rs,zz⟩|⟨ks,ds,ne,rfl,rs,zz⟩
 ·have up:∀ G,DicAt K G (.dK ks) (encD (fun a=>keyD (g a)) kvs)→DicAt K G (.dK (dropK ks (g c))) (encD (fun a=>keyD (g a)) (dropA kvs c)):=fun G hd=>by
   rcases hd with⟨ks',ds',e,rs',z'⟩|⟨ks',ds',e,rs',z'⟩|⟨ks',ds',_,e,rs',z'⟩
   ·cases HO.dK.inj e
    have p':=pr_drop hg (k:=c) (pr_of (fun _ _=>keyD_inj) z' rs')
    exact .inl ⟨_,_,rfl,pr_reps p',pr_zip p'⟩
   ·exact nomatch e
   ·exact nomatch e
  have go:=fun (o2:HO) (h2:o2=.dK (dropK ks (g c)))=>fi.nx _ q _ _ (k4 o2 (by rw[h2];trivial) fun G hd _=>by rw[h2];exact up G hd)
  refine .inl ⟨ks,k2,fun y _=>go _ rfl,fun hn=>?_⟩
  have p:=pr_of (fun _ _=>keyD_inj) zz rs
  obtain⟨g1,_⟩:=pr_get hg (k:=c) p
  rw[hn] at g1
  have hn':getA kvs c=none:=by simpa using g1.symm
  rw[dropA_none hn',set_same hi] at q
  exact fi.nx _ q _ _ s2.pop.pop
 ·obtain⟨rfl,rfl⟩:=enc_nil (en:=fun k=>PyData.tuple (k.map keyD)) rs zz fun _ _=>keyD_tup
  exact .inr ⟨k2,fi.nx _ q _ _ (k4 (.dK []) trivial fun G _ _=>.inl ⟨[],[],rfl,.nil,rfl⟩)⟩
 ·exact absurd (enc_nil (en:=en3) rs zz fun _ _=>keyD_tup).2 ne
theorem bi_dictE{α:Type}[DecidableEq α]{f:α→PyData}{g:α→Key}(hf:∀ a,f a=keyD (g a))(hg:∀ a b,g a=g b→a=b){kvs:List (α×PyData)}(ha:a.data=.dict (encD f kvs))(hn:noLsts (kvs.map Prod.snd)=true)(q:Q (.av (.dic (encD f kvs))))(na:NR a:=by first|exact NR.av|exact NR.bor):Bi K E X rDictE [a] Q:=fun H0 σ ρ ts as H vs QV s hl _ kk=>by
 cases show f=fun a=>keyD (g a) from funext hf
 obtain⟨v,rfl⟩:=List.length_eq_one_iff.mp hl
 have r:=SR.top (ts:=ts) (as:=as) s na
 rw[ha] at r
 obtain⟨l,ks,rfl,hd,p⟩:=dict_E (fun _=>rfl) hg r
 exact⟨l,ks,rfl,hd,fun p' hp=>kk _ q _ _ ((SR.pop s).newDs hp (pr_reps p) hn (pr_zip p))⟩
theorem eq_dE{α:Type}[DecidableEq α]{f:α→PyData}{g:α→Key}(hf:∀ a,f a=keyD (g a))(hg:∀ a b,g a=g b→a=b){kvs:List (α×PyData)}(ha:a.data=.dict (encD f kvs))(hb:b.data=.dict (encD f kvs))(hs:∀ p∈kvs,scD p.2=true)(q:Q (.av (.d (.bool true))))(na:NR a:=by first|exact NR.av|exact NR.bor)(nb:NR b:=by first|exact NR.av|exact NR.bor):Op K E X (rEqDE K) a b Q:=fun H0 σ ρ ts as H x y QV s _ k=>by
 obtain⟨l,ka,e1,e2,p1⟩:=dict_E hf hg (ha▸s.pop.top na)
 obtain⟨m,kb,f1,f2,p2⟩:=dict_E hf hg (hb▸s.top nb)
 have fst:∀ {ks:List (Key×V)},PR K H g ks kvs→ks.map Prod.fst=kvs.map fun p=>g p.1:=by
  intro ks p
  clear e2 p1 f2 p2 hs ha hb
  induction p with
  | nil=>rfl
  | cons h t ih=>rw[List.map_cons,List.map_cons,ih,h.1]
 refine⟨⟨l,m,ka,kb,kvs.map Prod.snd,e1,f1,e2,f2,(fst p1).trans (fst p2).symm,pr_reps p1,pr_reps p2,fun d hd=>?_⟩,k _ q _ H (s.pop.pop.bl _)⟩
 obtain⟨p,hp,rfl⟩:=List.mem_map.mp hd
 exact hs p hp
theorem rep_S{z:Str}{k:Int}(ha:a.data=.str z)(hb:b.data=.int k)(hk:2≤k∧k≤1000)(hz:0<z.length∧z.length≤1000)(q:Q (.av (.d (.str (repS z k.toNat)))))(na:NR a:=by first|exact NR.av|exact NR.bor)(nb:NR b:=by first|exact NR.av|exact NR.bor):Op K E X rRepS a b Q:=fun H0 σ ρ ts as H x y QV s _ kk=>by
 have h1:=s.pop.top na
 have h2:=s.top nb
 rw[ha] at h1
 rw[hb] at h2
 exact⟨z,k,L2.Rep.str_inv h1,h2.int_inv,hk.1,hk.2,hz.1,hz.2,kk _ q _ _ (s.pop.pop.push fun _=>.str _)⟩
end
end VL
end
section
set_option exponentiation.threshold 2000
namespace K13
open PySem L2 VL
noncomputable def top(i:Nat):Stmt:=PySem.Challenge.pw_figurewheel_k13_no_words.main.body.getD i (.Pass ⟨0,0,0,0⟩)
noncomputable abbrev s_NoWords_init:Stmt:=(clsBody (top 6)).getD 0 (.Pass ⟨0,0,0,0⟩)
theorem sc_NoWords_init:FnScope ["self", "letter"] ["self", "letter"] (defScope s_NoWords_init):=⟨rfl,rfl,rfl,by decide +kernel,rfl,by decide +kernel,by decide +kernel⟩
noncomputable abbrev s_want_base:Stmt:=top 10
theorem sc_want_base:FnScope ["base"] ["base"] (defScope s_want_base):=⟨rfl,rfl,rfl,by decide +kernel,rfl,by decide +kernel,by decide +kernel⟩
noncomputable abbrev s_figures_of:Stmt:=top 11
theorem sc_figures_of:FnScope ["place", "base", "figures", "rest"] ["place", "base"] (defScope s_figures_of):=⟨rfl,rfl,rfl,by decide +kernel,rfl,by decide +kernel,by decide +kernel⟩
noncomputable abbrev s_met_from:Stmt:=top 13
theorem sc_met_from:FnScope ["start", "letters", "lead", "most", "met", "numbers", "rows", "row", "letter", "thing"] ["start", "letters", "lead", "most"] (defScope s_met_from):=⟨rfl,rfl,rfl,by decide +kernel,rfl,by decide +kernel,by decide +kernel⟩
noncomputable abbrev s_machine_met:Stmt:=top 14
theorem sc_machine_met:FnScope ["start", "letters", "lead", "sign", "most", "told"] ["start", "letters", "lead", "sign", "most"] (defScope s_machine_met):=⟨rfl,rfl,rfl,by decide +kernel,rfl,by decide +kernel,by decide +kernel⟩
noncomputable abbrev s_is_sign:Stmt:=top 17
theorem sc_is_sign:FnScope ["sign"] ["sign"] (defScope s_is_sign):=⟨rfl,rfl,rfl,by decide +kernel,rfl,by decide +kernel,by decide +kernel⟩
noncomputable abbrev s_is_beginning:Stmt:=top 21
theorem sc_is_beginning:FnScope ["words", "begin", "word"] ["words", "begin"] (defScope s_is_beginning):=⟨rfl,rfl,rfl,by decide +kernel,rfl,by decide +kernel,by decide +kernel⟩
noncomputable abbrev s_is_whole:Stmt:=top 22
theorem sc_is_whole:FnScope ["words", "signs", "letter"] ["words", "signs", "letter"] (defScope s_is_whole):=⟨rfl,rfl,rfl,by decide +kernel,rfl,by decide +kernel,by decide +kernel⟩
noncomputable abbrev s_want_words:Stmt:=top 23
theorem sc_want_words:FnScope ["words", "begin", "signs", "letters", "letter"] ["words", "begin", "signs"] (defScope s_want_words):=⟨rfl,rfl,rfl,by decide +kernel,rfl,by decide +kernel,by decide +kernel⟩
noncomputable abbrev s_letter_at:Stmt:=top 24
theorem sc_letter_at:FnScope ["words", "begin", "signs", "place", "letter", "figure"] ["words", "begin", "signs", "place"] (defScope s_letter_at):=⟨rfl,rfl,rfl,by decide +kernel,rfl,by decide +kernel,by decide +kernel⟩
noncomputable abbrev s_grown:Stmt:=top 25
theorem sc_grown:FnScope ["words", "begin", "signs", "many", "base", "letters", "place"] ["words", "begin", "signs", "many"] (defScope s_grown):=⟨rfl,rfl,rfl,by decide +kernel,rfl,by decide +kernel,by decide +kernel⟩
noncomputable abbrev s_row_of_words:Stmt:=top 26
theorem sc_row_of_words:FnScope ["words", "begin", "signs", "lead", "sign"] ["words", "begin", "signs"] (defScope s_row_of_words):=⟨rfl,rfl,rfl,by decide +kernel,rfl,by decide +kernel,by decide +kernel⟩
noncomputable abbrev s_row_of_words_lead:Stmt:=(defBody s_row_of_words).getD 1 (.Pass ⟨0,0,0,0⟩)
theorem sc_row_of_words_lead:FnScopeF ["letter", "figure", "words"] ["letter", "figure"] (defScope s_row_of_words_lead):=⟨rfl,rfl,rfl,by decide +kernel,rfl,by decide +kernel⟩
theorem cap_row_of_words_lead:capOk ["words", "begin", "signs", "lead", "sign"] (defScope s_row_of_words) (defScope s_row_of_words_lead) ["letter", "figure", "words"] [none,none,some 0]=true:=by decide +kernel
theorem fr_row_of_words_lead:∀ y∈(defScope s_row_of_words_lead).names,y.2=.free→(defScope s_row_of_words).names.lookup y.1=some .cell∨(defScope s_row_of_words).names.lookup y.1=some .free:=by decide +kernel
noncomputable abbrev s_row_of_words_sign:Stmt:=(defBody s_row_of_words).getD 2 (.Pass ⟨0,0,0,0⟩)
theorem sc_row_of_words_sign:FnScopeF ["letter", "signs"] ["letter"] (defScope s_row_of_words_sign):=⟨rfl,rfl,rfl,by decide +kernel,rfl,by decide +kernel⟩
theorem cap_row_of_words_sign:capOk ["words", "begin", "signs", "lead", "sign"] (defScope s_row_of_words) (defScope s_row_of_words_sign) ["letter", "signs"] [none,some 2]=true:=by decide +kernel
theorem fr_row_of_words_sign:∀ y∈(defScope s_row_of_words_sign).names,y.2=.free→(defScope s_row_of_words).names.lookup y.1=some .cell∨(defScope s_row_of_words).names.lookup y.1=some .free:=by decide +kernel
noncomputable abbrev s_law_cell_at:Stmt:=top 28
theorem sc_law_cell_at:FnScope ["_law_script", "_law_k"] ["_law_script", "_law_k"] (defScope s_law_cell_at):=⟨rfl,rfl,rfl,by decide +kernel,rfl,by decide +kernel,by decide +kernel⟩
noncomputable abbrev s_law_spread:Stmt:=top 29
theorem sc_law_spread:FnScope ["_law_script", "_law_k", "_law_cell"] ["_law_script", "_law_k"] (defScope s_law_spread):=⟨rfl,rfl,rfl,by decide +kernel,rfl,by decide +kernel,by decide +kernel⟩
noncomputable abbrev s_law_mix:Stmt:=top 30
theorem sc_law_mix:FnScope ["_law_cell", "_law_k", "_law_most"] ["_law_cell", "_law_k", "_law_most"] (defScope s_law_mix):=⟨rfl,rfl,rfl,by decide +kernel,rfl,by decide +kernel,by decide +kernel⟩
noncomputable abbrev s_law_letters:Stmt:=top 31
theorem sc_law_letters:FnScope ["_law_many", "_law_cell", "_law_letters_here"] ["_law_many", "_law_cell"] (defScope s_law_letters):=⟨rfl,rfl,rfl,by decide +kernel,rfl,by decide +kernel,by decide +kernel⟩
noncomputable abbrev s_law_words:Stmt:=top 32
theorem sc_law_words:FnScope ["_law_script", "_law_most", "_law_cell", "_law_base", "_law_letters_here", "_law_words_here", "_law_signs", "_law_k", "_law_letter", "_law_more", "_law_picked"] ["_law_script", "_law_most"] (defScope s_law_words):=⟨rfl,rfl,rfl,by decide +kernel,rfl,by decide +kernel,by decide +kernel⟩
noncomputable abbrev s_law_spoilt:Stmt:=top 33
theorem sc_law_spoilt:FnScope ["_law_words_here", "_law_begin", "_law_signs", "_law_cell", "_law_at"] ["_law_words_here", "_law_begin", "_law_signs", "_law_cell"] (defScope s_law_spoilt):=⟨rfl,rfl,rfl,by decide +kernel,rfl,by decide +kernel,by decide +kernel⟩
noncomputable abbrev s_law_fault:Stmt:=top 34
theorem sc_law_fault:FnScope ["_law_words_here", "_law_begin", "_law_signs", "_law_first", "_law_letter"] ["_law_words_here", "_law_begin", "_law_signs"] (defScope s_law_fault):=⟨rfl,rfl,rfl,by decide +kernel,rfl,by decide +kernel,by decide +kernel⟩
noncomputable abbrev s_law_asked:Stmt:=top 35
theorem sc_law_asked:FnScope ["_law_way", "_law_words_here", "_law_begin", "_law_signs"] ["_law_way", "_law_words_here", "_law_begin", "_law_signs"] (defScope s_law_asked):=⟨rfl,rfl,rfl,by decide +kernel,rfl,by decide +kernel,by decide +kernel⟩
noncomputable abbrev s_law_refused:Stmt:=top 36
theorem sc_law_refused:FnScope ["_law_way", "_law_words_here", "_law_begin", "_law_signs", "_law_due", "_law_told", "_law_kinds", "e"] ["_law_way", "_law_words_here", "_law_begin", "_law_signs", "_law_due"] (defScope s_law_refused):=⟨rfl,rfl,rfl,by decide +kernel,rfl,by decide +kernel,by decide +kernel⟩
noncomputable abbrev s_law:Stmt:=top 37
theorem sc_law:FnScope ["_law_script", "_law_words_here", "_law_begin", "_law_signs", "_law_k", "_law_wordless", "_law_due", "_law_handed", "_law_way"] ["_law_script"] (defScope s_law):=⟨rfl,rfl,rfl,by decide +kernel,rfl,by decide +kernel,by decide +kernel⟩
noncomputable def tb_row_of_words:Addr:=177
noncomputable def qn_row_of_words(l c:Nat):Str:=if l=(posOf s_row_of_words_lead).line∧c=(posOf s_row_of_words_lead).col then "row_of_words.<locals>.lead" else if l=(posOf s_row_of_words_sign).line∧c=(posOf s_row_of_words_sign).col then "row_of_words.<locals>.sign" else ""
noncomputable def ts0:List (Addr×(Nat→Nat→Str)):=[(tb_row_of_words,qn_row_of_words)]
structure Cs(K:W.Frag)(mg:Str→Option Value)(C_WheelError:Addr)(C_NoBase:Addr)(C_TooGreat:Addr)(C_NoMachine:Addr)(C_NoText:Addr)(C_NoWords:Addr):Prop where
 c_WheelError:mg "WheelError" = some (.ref C_WheelError)
 c_NoBase:mg "NoBase" = some (.ref C_NoBase)
 c_TooGreat:mg "TooGreat" = some (.ref C_TooGreat)
 c_NoMachine:mg "NoMachine" = some (.ref C_NoMachine)
 c_NoText:mg "NoText" = some (.ref C_NoText)
 c_NoWords:mg "NoWords" = some (.ref C_NoWords)
 ix_NoWords:∃ fI fd,ExcI K C_NoWords [.type "ValueError",.type "Exception",.type "BaseException",.type "object"] "ValueError.__new__" fI∧FunD K "__init__" "NoWords.__init__" s_NoWords_init .none fI fd∧Binds K fd ["self", "letter"] []
 es1:ExcSet K C_NoWords "letter"
 ef1:ExcFld K C_NoWords "letter"
 k_NoWords:ExcCls K C_NoWords
 m_NoWords:PySem.W.exmOne K (.ref C_NoWords) (.ref C_NoWords)=some true
 m_We:PySem.W.exmOne K (.ref C_NoWords) (.ref C_WheelError)=some true
 i_val:PySem.W.kitOne K (.ref C_NoWords) (.type "ValueError")=some true
 i_own:PySem.W.kitOne K (.ref C_NoWords) (.ref C_NoWords)=some true
 i_any:PySem.W.kitAny K (.ref C_NoWords) [.ref C_NoText,.ref C_NoMachine]=some false
structure Txt(K:W.Frag)(mg:Str→Option Value):Prop where
 g_LEAST_BASE:∃ t,mg "LEAST_BASE" = some (.int 2 t)
 g_GREATEST_BASE:∃ t,mg "GREATEST_BASE" = some (.int 5 t)
 g_GREATEST_SIGN:∃ t,mg "GREATEST_SIGN" = some (.int 9 t)
 g_SHORTEST_WORD:∃ t,mg "SHORTEST_WORD" = some (.int 2 t)
 g_LONGEST_WORD:∃ t,mg "LONGEST_WORD" = some (.int 5 t)
 n_ValueError:mg "ValueError" = none
 n_all:mg "all" = none
 n_dict:mg "dict" = none
 n_enumerate:mg "enumerate" = none
 n_isinstance:mg "isinstance" = none
 n_len:mg "len" = none
 n_range:mg "range" = none
 n_sorted:mg "sorted" = none
 n_str:mg "str" = none
 n_tuple:mg "tuple" = none
 x_want_base:Tx K mg "want_base" s_want_base ["base"] [[]]
 x_figures_of:Tx K mg "figures_of" s_figures_of ["place", "base"] [[],[.int 2]]
 x_met_from:Tx K mg "met_from" s_met_from ["start", "letters", "lead", "most"] [[]]
 x_machine_met:Tx K mg "machine_met" s_machine_met ["start", "letters", "lead", "sign", "most"] [[]]
 x_is_sign:Tx K mg "is_sign" s_is_sign ["sign"] [[]]
 x_is_beginning:Tx K mg "is_beginning" s_is_beginning ["words", "begin"] [[]]
 x_is_whole:Tx K mg "is_whole" s_is_whole ["words", "signs", "letter"] [[]]
 x_want_words:Tx K mg "want_words" s_want_words ["words", "begin", "signs"] [[]]
 x_letter_at:Tx K mg "letter_at" s_letter_at ["words", "begin", "signs", "place"] [[]]
 x_grown:Tx K mg "grown" s_grown ["words", "begin", "signs", "many"] [[]]
 x_row_of_words:∃ c0,TxM K mg "row_of_words" s_row_of_words ["words", "begin", "signs"] c0 tb_row_of_words
 x_law_cell_at:Tx K mg "_law_cell_at" s_law_cell_at ["_law_script", "_law_k"] [[]]
 x_law_spread:Tx K mg "_law_spread" s_law_spread ["_law_script", "_law_k"] [[]]
 x_law_mix:Tx K mg "_law_mix" s_law_mix ["_law_cell", "_law_k", "_law_most"] [[]]
 x_law_letters:Tx K mg "_law_letters" s_law_letters ["_law_many", "_law_cell"] [[]]
 x_law_words:Tx K mg "_law_words" s_law_words ["_law_script", "_law_most"] [[]]
 x_law_spoilt:Tx K mg "_law_spoilt" s_law_spoilt ["_law_words_here", "_law_begin", "_law_signs", "_law_cell"] [[]]
 x_law_fault:Tx K mg "_law_fault" s_law_fault ["_law_words_here", "_law_begin", "_law_signs"] [[]]
 x_law_asked:Tx K mg "_law_asked" s_law_asked ["_law_way", "_law_words_here", "_law_begin", "_law_signs"] [[]]
 x_law_refused:Tx K mg "_law_refused" s_law_refused ["_law_way", "_law_words_here", "_law_begin", "_law_signs", "_law_due"] [[]]
 cs:∃ C_WheelError C_NoBase C_TooGreat C_NoMachine C_NoText C_NoWords,Cs K mg C_WheelError C_NoBase C_TooGreat C_NoMachine C_NoText C_NoWords
local macro_rules | `(tactic| walk_at "sd") => `(tactic| first
 | (show (0 : Int) < _; omega)
 | (refine ⟨?_, ?_⟩ <;> omega)
 | exact Or.inl ⟨by omega, by omega⟩
 | exact Or.inr ⟨by omega, by omega⟩
 | exact ⟨by decide, by decide, by decide⟩)
local macro_rules | `(tactic| walk_at "nrs") => `(tactic| (repeat (first | exact NRs.nil | refine NRs.cons (by first | exact NR.av | exact NR.bor) ?_)))
local macro_rules | `(tactic| walk_at "v0") => `(tactic| first | walk_at "v0i" | (with_reducible refine s_if ?_))
local macro_rules | `(tactic| walk_at "v0i") => `(tactic| with_reducible first
 | refine s_seq ?_ | refine ev_op ?_ | refine ev_cb ?_ | refine ea_cons ?_ | refine ea_nil ?_ | refine s_next ?_
 | refine ev_int ?_ | refine ev_bl ?_ | refine ev_str ?_ | refine ev_non ?_ | refine ev_ty ?_ | refine ev_un ?_ | refine un_i ?_ | refine add_i ?_ | refine op_i0 ?_ | refine op_b0 ?_ | refine eq_i ?_ | refine ne_i ?_
 | refine ev_and ?_ | refine tv_test ?_ | refine tv_b ?_ | refine tv_and ?_ | refine tv_or ?_ | refine tv_not ?_ | refine tv_all ?_
 | refine v_b ?_ | refine v_i ?_ | refine v_s ?_ | refine ev_c0 ?_ | refine ev_x0 ?_ | refine ev_r0 ?_ | refine ev_rx0 ?_ | refine ev_dnew ?_ | refine ev_l0 ?_ | refine to_no ?_ | refine to_part ?_ | refine iteT ?_ | refine iteF ?_ | refine iteNT ?_ | refine iteNF ?_)
local macro_rules | `(tactic| walk_at "v1") => `(tactic| with_reducible first
 | refine ev_v0 ?_ | refine ev_v1 ?_ | refine ev_v2 ?_ | refine ev_v3 ?_ | refine ev_v4 ?_ | refine ev_v5 ?_ | refine ev_v6 ?_ | refine ev_v7 ?_ | refine ev_v8 ?_ | refine ev_v9 ?_ | refine ev_v10 ?_
 | refine ev_o4 ?_ | refine ev_o5 ?_ | refine ev_o6 ?_ | refine ev_o7 ?_
 | refine sv_a2 ?_ | refine sv_a3 ?_ | refine sv_a4 ?_ | refine sv_a5 ?_ | refine sv_a6 ?_ | refine sv_a7 ?_ | refine sv_a9 ?_ | refine sv_a10 ?_
 | refine gv_0 ?_ | refine gv_4 ?_ | refine gv_5 ?_ | refine gv_6 ?_ | refine gv_7 ?_ | refine gv_8 ?_
 | refine sv_ap2 ?_ | refine sv_ap4 ?_ | refine sv_ap5 ?_ | refine sv_ap6 ?_ | refine sv_ap7 ?_
 | refine sv_rv2 ?_
 | refine sv_ro2 ?_
 | refine ev_k0 ?_ | refine ev_k1 ?_ | refine ev_k3 ?_ | refine ev_k5 ?_
 | refine ev_f2 ?_ | refine ev_f3 ?_ | refine ev_f4 ?_
 )
local macro_rules | `(tactic| walk_at "v") => `(tactic| first | walk_at "v0" | walk_at "v1" | (with_reducible refine s_drop ?_) | (with_reducible refine s_ret ?_) | (refine op_i ?c ?_; (case c => walk_at "sd")) | (refine mul_i ?c ?_; (case c => walk_at "sd")))
local macro_rules | `(tactic| walk_at "vs") => `(tactic| repeat walk_at "v")
local macro_rules | `(tactic| walk_at "vm") => `(tactic| repeat (first | walk_at "v" | refine ix_T rfl rfl Item.d ?_))
local macro_rules | `(tactic| walk_at "vj") => `(tactic| first | walk_at "v0i" | walk_at "v1" | (with_reducible refine s_drop ?_) | (with_reducible refine s_ret ?_) | (refine op_i ?c ?_; (case c => walk_at "sd")) | (refine mul_i ?c ?_; (case c => walk_at "sd")))
local macro_rules | `(tactic| walk_at "vi") => `(tactic| repeat (first | walk_at "vj" | refine ix_T rfl rfl Item.d ?_))
section
variable[Tabs]{P:Program}{w:World}{K:W.Frag}{mg:Str→Option Value}{base:Heap}
noncomputable abbrev oI(ns:List Int):AV:=.own (ns.map fun k=>.d (.int k))
theorem oI_data(ns:List Int):(oI ns).data=dI ns:=by rw[AV.data,datas_mapd];rfl
theorem oI_clean(ns:List Int):(oI ns).clean=true:=clean_map fun _=>rfl
noncomputable def S_cell_at(ds:List PyData)(c:AV):Prop:=∃ (ns:List Int) (k:Int),ds=[dI ns,.int k]∧0≤k∧c=.d (.int (cat ns k))
theorem ok_cell_at(T:Txt K mg):Cal P w K mg base (CXE P w) 1 "_law_cell_at" ["_law_script", "_law_k"] [] (spV K S_cell_at NX):=by
 refine val T.x_law_cell_at sc_law_cell_at (fun ds c ⟨ns,k,e,_⟩=>by rw[e];rfl) (fun f cdv A outer s H E hr=>?_) [] (by simp)
 refine⟨_,(pss_cons (ps_if (pt_cmpR op_lt (pv 1) (pe_callB (call_lenAny (K:=K) rfl) rfl T.n_len PySem.boot_len (pa_cons (pv 0) pa_nil)) (nomark _))
    (pss_one (ps_ret (pe_ix (ix_any (K:=K) rfl hr.units) (pv 0) (pv 1) (fun _ _=>rfl))))
    pss_nil)
   (pss_one (ps_ret pe_int))),?_⟩
 rintro ds c ⟨ns,k,rfl,h0,rfl⟩
 show Sv K _ _ _ [some (.d (dI ns)),some (.d (.int k))] _
 walk_at "vs"
 refine len_L rfl ?_
 walk_at "vs"
 rw[List.length_map]
 unfold cat
 refine ite2 (fun h=>?_) fun h=>?_
 ·have hk:=of_decide_eq_true h
  walk_at "vs"
  refine ix_L rfl (show atI (ns.map PyData.int) k=some (.int (ns.getD k.toNat 0)) from ?_) Item.d (res_d (by rw[if_pos hk]))
  have e:k.toNat<ns.length:=by omega
  exact atI_of h0 (by rw[List.getElem?_map,List.getElem?_eq_getElem e,List.getD_eq_getElem?_getD,List.getElem?_eq_getElem e];rfl)
 ·have hk:¬ k<ns.length:=fun z=>h (decide_eq_true z)
  walk_at "vs"
  exact res_d (by rw[if_neg hk])
theorem use_cell_at{Q:TV→Prop}{ns:List Int}{k:Int}(h0:0≤k)(q:Q (.av (.d (.int (cat ns k))))):Cl S_cell_at [] Q [.av (.d (dI ns)),.av (.d (.int k))] :=
 call_of (by walk_at "nrs") ⟨ns,k,rfl,h0,rfl⟩ (Got.own rfl) q
noncomputable def S_spread(ds:List PyData)(c:AV):Prop:=∃ (ns:List Int) (k:Int),ds=[dI ns,.int k]∧(0≤k∧k<1000)∧c=.d (.int (sprd ns k))
theorem ok_spread(T:Txt K mg):Cal P w K mg base (CXE P w) 2 "_law_spread" ["_law_script", "_law_k"] [] (spV K S_spread NX):=by
 have c_law_cell_at:Cal P w K mg base (CXE P w) 1 "_law_cell_at" ["_law_script", "_law_k"] [] (spV K S_cell_at NX):=ok_cell_at T
 refine val T.x_law_spread sc_law_spread (fun ds c ⟨ns,k,e,_⟩=>by rw[e];rfl) (fun f cdv A outer s H E hr=>?_) [] (by simp)
 refine⟨_,(pss_cons (ps_set (i:=2) sc_law_spread.nd rfl (Or.inl rfl) (pe_op op_mod (pe_cal (c_law_cell_at.mono (by decide)) hr rfl passE (pa_cons (pv 0) (pa_cons (pv 1) pa_nil))) pe_int))
   (pss_one (ps_ret (pe_op op_mod (pe_op op_times (pe_op op_mod (pe_op (op_plus (K:=K) rfl) (pe_op op_times (pv 2) pe_int) (pe_op op_times (pe_op op_times (pe_op (op_plus (K:=K) rfl) (pv 1) pe_int) (pe_op (op_plus (K:=K) rfl) (pv 1) pe_int)) pe_int)) pe_int) pe_int) pe_int)))),?_⟩
 rintro ds c ⟨ns,k,rfl,h0,rfl⟩
 show Sv K _ _ _ [some (.d (dI ns)),some (.d (.int k)),none] _
 walk_at "vs"
 refine use_cell_at h0.1 ?_
 walk_at "vs"
 exact res_d rfl
theorem use_spread{Q:TV→Prop}{ns:List Int}{k:Int}(h0:0≤k∧k<1000)(q:Q (.av (.d (.int (sprd ns k))))):Cl S_spread [] Q [.av (.d (dI ns)),.av (.d (.int k))] :=
 call_of (by walk_at "nrs") ⟨ns,k,rfl,h0,rfl⟩ (Got.own rfl) q
noncomputable def Pre_mix(cs:List AV):Prop:=∃ c k m:Int,cs=[.d (.int c),.d (.int k),.d (.int m)]∧(0≤k∧k<1000000)∧1≤m
noncomputable def Post_mix(cs:List AV)(c:AV):Prop:=∃ (m r:Int),cs.getLast?=some (.d (.int m))∧c=.d (.int r)∧0≤r∧r<m
theorem ok_mix(T:Txt K mg):Cal P w K mg base (CXE P w) 1 "_law_mix" ["_law_cell", "_law_k", "_law_most"] [] (spR K Pre_mix Post_mix NP):=by
 refine valR T.x_law_mix sc_law_mix (fun cs ⟨a,b,c,e,_⟩=>by rw[e];rfl) (fun f cdv A outer s H E hr=>?_) [] (by simp)
 refine⟨_,(pss_one (ps_ret (pe_op op_mod (pe_op op_fdiv (pe_op op_times (pe_op op_mod (pe_op (op_plus (K:=K) rfl) (pe_op op_times (pe_op (op_plus (K:=K) rfl) (pe_op op_mod (pv 0) pe_int) pe_int) pe_int) (pe_op op_times (pe_op (op_plus (K:=K) rfl) (pe_op op_times (pv 1) (pv 1)) pe_int) pe_int)) pe_int) (pe_op (op_plus (K:=K) rfl) (pv 1) pe_int)) pe_int) (pv 2)))),?_⟩
 rintro cs ⟨c,k,m,rfl,hk,hm⟩
 show Sv K _ _ _ [some (.d (.int c)),some (.d (.int k)),some (.d (.int m))] _
 walk_at "vi"
 exact⟨_,res_d rfl,m,_,rfl,rfl,Int.emod_nonneg _ (by omega),Int.emod_lt_of_pos _ (by omega)⟩
theorem use_mix{Q:TV→Prop}{X:Exc→Prop}{c k m:Int}(hk:0≤k∧k<1000000)(hm:1≤m)(q:∀ r:Int,0≤r→r<m→Q (.av (.d (.int r)))):ClR Pre_mix Post_mix NP [] Q X [.av (.d (.int c)),.av (.d (.int k)),.av (.d (.int m))] :=
 ⟨_,.cons (.d NR.av rfl) (.cons (.d NR.av rfl) (.cons (.d NR.av rfl) .nil)),⟨c,k,m,rfl,hk,hm⟩,fun _ ⟨m',r,e1,e2,h1,h2⟩=>by
  have e:m=m':=PyData.int.inj (AV.d.inj (Option.some.inj e1))
  subst e
  exact e2▸⟨_,Got.own rfl,q r h1 h2⟩,fun _ z=>z.elim⟩
theorem tI_flat(c:List Int):noLst (tI c)=true:=by simp[tI,noLst,noLsts_ints]
structure Mach where
 rows:List (List Int)
 signs:List Int
deriving DecidableEq
noncomputable abbrev tR(rows:List (List Int)):PyData:=.tuple (rows.map tI)
noncomputable abbrev dM(M:Mach):PyData:=.tuple [tR M.rows,tI M.signs]
theorem tR_flat(rows:List (List Int)):noLst (tR rows)=true:=by
 simp only[tR,noLst]
 exact noLsts_map (fun a=>tI_flat a) rows
theorem dM_flat(M:Mach):noLst (dM M)=true:=by
 have h:=tR_flat M.rows
 simp only[noLst,noLsts,Bool.and_true,Bool.and_eq_true] at h ⊢
 exact⟨h,noLsts_ints _⟩
theorem oI_snoc(row:List Int)(x:Int):AV.own ((row.map fun k=>.d (.int k))++[.d (.int x)])=oI (row++[x]):=by rw[oI,List.map_append];rfl
noncomputable def cutA{α:Type}(xs:List α)(lo hi:Option Int):List α:=(xs.drop (HT.sIx xs.length 0 lo)).take (HT.sIx xs.length xs.length hi-HT.sIx xs.length 0 lo)
theorem cut_map{α:Type}(f:α→PyData)(xs:List α)(lo hi:Option Int):cutD (xs.map f) lo hi=(cutA xs lo hi).map f:=by
 unfold cutD cutA
 rw[List.length_map,List.map_take,List.map_drop]
theorem sIx_pos{n d:Nat}{v:Int}(h:0≤v):HT.sIx n d (some v)=min v.toNat n:=by
 show (if v<0 then (v+(n:Int)).toNat else min v.toNat n)=_
 rw[if_neg (by omega)]
noncomputable def S_is(ds:List PyData)(c:AV):Prop:=∃ s:Int,ds=[.int s]∧c=.d (.bool (decide (0≤s∧s≤9)))
theorem ok_is_sign(T:Txt K mg):Cal P w K mg base (CXE P w) 1 "is_sign" ["sign"] [] (spV K S_is NX):=by
 refine val T.x_is_sign sc_is_sign (fun ds c ⟨s,e,_⟩=>by rw[e];rfl) (fun f cdv A outer s H E hr=>?_) [] (by simp)
 refine⟨_,(pss_one (ps_ret (pe_and (pe_cmpR op_ge (pv 0) pe_int (nomark _)) (pe_one (pe_cmpR op_le (pv 0) (pe_cst T.g_GREATEST_SIGN rfl) (nomark _)))))),?_⟩
 rintro ds c ⟨s,rfl,rfl⟩
 show Sv K _ _ _ [some (.d (.int s))] _
 walk_at "vs"
 refine ite2 (fun h=>?_) fun h=>?_
 ·have h0:0≤s:=by have:=of_decide_eq_true h;omega
  walk_at "vs"
  exact res_d (by rw[decide_eq_decide.mpr (show s≤9↔0≤s∧s≤9 from ⟨fun z=>⟨h0,z⟩,fun z=>z.2⟩)])
 ·have h0:¬ 0≤s:=fun z=>h (decide_eq_true (by omega))
  walk_at "vs"
  exact res_d (by rw[decide_eq_false (fun z=>h0 z.1)])
noncomputable abbrev t1(c:Nat):Str:=⟨#[c]⟩
noncomputable abbrev tw(w:List Nat):Str:=⟨w.toArray⟩
noncomputable abbrev kc(c:Nat):PyData:=.str (t1 c)
noncomputable abbrev dW(W:List (Nat×PyData)):PyData:=.dict (encD kc W)
theorem t1_inj{a b:Nat}(e:t1 a=t1 b):a=b:=by simpa [t1] using e
theorem kenc:KEnc kc:=⟨.inl ⟨fun c=>.inr (t1 c),fun a b e=>t1_inj (Sum.inr.inj e),fun _=>rfl⟩⟩
theorem encD_t1(W:List (Nat×PyData)):encD kc W=encD PyData.str (W.map fun p=>(t1 p.1,p.2)):=by unfold encD;rw[List.map_map];rfl
noncomputable abbrev alf:Str := "abcdefghijklmnopqrstuvwxyz"
theorem alf_len:alf.length≤1000000:=by decide +kernel
theorem alf_at{k:Int}(h:0≤k∧k<26):∃ c,atI alf.cps.toList k=some c∧97≤c∧c≤122:=by
 have H:∀ n,n<26→atI alf.cps.toList ((n:Nat):Int)=some (97+n):=by decide +kernel
 obtain⟨n,rfl⟩:=Int.eq_ofNat_of_zero_le h.1
 exact⟨97+n,H n (by omega),by omega,by omega⟩
theorem getA_mem{α β:Type}[DecidableEq α]{k:α}{v:β}:∀ {l:List (α×β)},getA l k=some v→(k,v)∈l
 | [],h=>by rw[getA_nil] at h;cases h
 | p::l,h=>by
  by_cases e:p.1=k
  ·rw[getA_pos e] at h
   cases h
   subst e
   exact .head _
  ·rw[getA_neg e] at h
   exact .tail _ (getA_mem h)
theorem getA_some{α β:Type}[DecidableEq α]{p:α×β}:∀ {l:List (α×β)},p∈l→(getA l p.1).isSome=true
 | q::l,h=>by
  by_cases e:q.1=p.1
  ·rw[getA_pos e];rfl
  ·rw[getA_neg e]
   rcases List.mem_cons.mp h with h|h
   ·exact absurd (by rw[h]) e
   ·exact getA_some h
theorem mem_putA{α β:Type}[DecidableEq α]{k:α}{v:β}{p:α×β}{l:List (α×β)}(h:p∈putA l k v):p∈l∨p=(k,v):=by
 unfold putA at h
 split at h
 ·obtain⟨q,hq,e⟩:=List.mem_map.mp h
  by_cases z:q.1=k
  ·rw[if_pos z,z] at e;exact .inr e.symm
  ·rw[if_neg z] at e;exact .inl (e▸hq)
 ·rcases List.mem_append.mp h with h|h
  ·exact .inl h
  ·exact .inr (List.mem_singleton.mp h)
theorem getA_isSome_put{α β:Type}[DecidableEq α]{k j:α}{v:β}{l:List (α×β)}(h:(getA l j).isSome=true∨j=k):(getA (putA l k v) j).isSome=true:=by
 rw[getA_put]
 by_cases e:j=k
 ·rw[if_pos e];rfl
 ·rw[if_neg e];exact h.resolve_right e
noncomputable def Tx1(b:Int)(L:List Nat)(x:PyData):Prop:=∃ w:List Nat,x=.str (tw w)∧(w.length:Int)=b∧∀ y∈w,y∈L
noncomputable def Sg1(x:PyData):Prop:=∃ s:Int,x=.int s∧0≤s∧s≤9
structure Gd(b:Int)(L:List Nat)(W G:List (Nat×PyData))(c0:Nat):Prop where
 hb:2≤b∧b≤5
 hL:∀ c∈L,97≤c∧c≤122
 w:∀ p∈W,p.1∈L∧Tx1 b L p.2
 g:∀ p∈G,∃ s:Int,p.2=.int s
 kw:∀ c∈L,(getA W c).isSome=true
 kg:∀ c∈L,∃ s:Int,getA G c=some (.int s)∧0≤s∧s≤9
 lw:W.length<64
 hc:c0∈L
 st:∃ r:Str,getA W c0=some (.str (t1 c0++r))
noncomputable def wof(W:List (Nat×PyData))(c:Nat):List Nat:=match getA W c with
 | some (.str z)=>z.cps.toList
 | _=>[]
section
variable{b:Int}{L:List Nat}{W G:List (Nat×PyData)}{c0:Nat}
theorem Gd.at(h:Gd b L W G c0){c:Nat}(hc:c∈L):getA W c=some (.str (tw (wof W c)))∧((wof W c).length:Int)=b∧∀ y∈wof W c,y∈L:=by
 obtain⟨v,hv⟩:=Option.isSome_iff_exists.mp (h.kw c hc)
 obtain⟨_,w,e,h1,h2⟩:=h.w _ (getA_mem hv)
 have e:v=.str (tw w):=e
 subst e
 have ew:wof W c=w:=by unfold wof;rw[hv]
 rw[ew]
 exact⟨hv,h1,h2⟩
theorem Gd.sg(h:Gd b L W G c0){c:Nat}(hc:c∈L):∃ s:Int,getA G c=some (.int s)∧0≤s∧s≤9:=h.kg c hc
theorem Gd.kgi(h:Gd b L W G c0){c:Nat}(hc:c∈L):(getA G c).isSome=true:=by obtain⟨s,e,_⟩:=h.kg c hc;rw[e];rfl
theorem Gd.wne(h:Gd b L W G c0):W≠[]:=fun e=>by have:=h.kw _ h.hc;rw[e] at this;cases this
theorem noLsts_mem:∀ {l:List PyData},(∀ x∈l,noLst x=true)→noLsts l=true
 | [],_=>rfl
 | x::l,h=>by rw[noLsts,h x (.head _),noLsts_mem fun y hy=>h y (.tail _ hy)];rfl
theorem Gd.wfl(h:Gd b L W G c0):noLsts (W.map Prod.snd)=true:=noLsts_mem fun x hx=>by
 obtain⟨p,hp,rfl⟩:=List.mem_map.mp hx
 obtain⟨_,w,e,_⟩:=h.w p hp
 rw[e];rfl
theorem Gd.gfl(h:Gd b L W G c0):noLsts (G.map Prod.snd)=true:=noLsts_mem fun x hx=>by
 obtain⟨p,hp,rfl⟩:=List.mem_map.mp hx
 obtain⟨w,e⟩:=h.g p hp
 rw[e];rfl
noncomputable def lat(W:List (Nat×PyData))(c0:Nat)(ds:List Int):Nat:=ds.foldl (fun c d=>(wof W c).getD d.toNat 0) c0
theorem lat_snoc(W:List (Nat×PyData))(c0:Nat)(ds:List Int)(d:Int):lat W c0 (ds++[d])=(wof W (lat W c0 ds)).getD d.toNat 0:=by unfold lat;rw[List.foldl_append];rfl
theorem Gd.nth(h:Gd b L W G c0){c:Nat}(hc:c∈L){d:Int}(hd:0≤d∧d<b):atI (tw (wof W c)).cps.toList d=some ((wof W c).getD d.toNat 0)∧(wof W c).getD d.toNat 0∈L:=by
 obtain⟨_,h2,h3⟩:=h.at hc
 have hl:d.toNat<(wof W c).length:=by omega
 have e:(wof W c).getD d.toNat 0=(wof W c)[d.toNat]:=by rw[List.getD_eq_getElem?_getD,List.getElem?_eq_getElem hl];rfl
 refine⟨atI_of hd.1 ?_,by rw[e];exact h3 _ (List.getElem_mem hl)⟩
 show (wof W c)[d.toNat]?=_
 rw[e,List.getElem?_eq_getElem hl]
theorem Gd.lat(h:Gd b L W G c0):∀ {ds:List Int},(∀ d∈ds,0≤d∧d<b)→lat W c0 ds∈L:=fun {ds} hd=>by
 have key:∀ (ds:List Int) (c:Nat),c∈L→(∀ d∈ds,0≤d∧d<b)→ds.foldl (fun c d=>(wof W c).getD d.toNat 0) c∈L:=by
  intro ds
  induction ds with
  | nil=>intro c hc _;exact hc
  | cons d ds ih=>intro c hc hd;exact ih _ (h.nth hc (hd d (.head _))).2 fun x hx=>hd x (.tail _ hx)
 exact key ds c0 h.hc hd
end
theorem join1:∀ cs:List Nat,PySem.Txt.join "" (cs.map t1)=tw cs:=by
 intro cs
 show Builtin.Str.glued (PySem.Str.ofString "") (cs.map t1)=_
 rw[PySem.StrLaws.glued_eq_join]
 have key:∀ cs:List Nat,(PySem.Str.join (PySem.Str.ofString "") (cs.map t1)).cps.toList=cs:=by
  intro cs
  induction cs with
  | nil=>rfl
  | cons c cs ih =>
   cases cs with
   | nil=>rfl
   | cons d cs =>
    show ((t1 c++PySem.Str.ofString "")++PySem.Str.join (PySem.Str.ofString "") ((d::cs).map t1)).cps.toList=_
    rw[PySem.W.KT.app_list,PySem.W.KT.app_list,ih]
    rfl
 have h:=key cs
 generalize PySem.Str.join (PySem.Str.ofString "") (cs.map t1)=z at h
 obtain⟨a⟩:=z
 have h:a.toList=cs:=h
 rw[← h]
theorem joinOk1{cs:List Nat}(h:cs.length≤1000000):JoinOk "" (cs.map t1)=true:=by
 refine PyProof.Rows.joinOk_of ?_
 have e:((cs.map t1).map (·.length)).sum=cs.length:=by
  induction cs with
  | nil=>rfl
  | cons c cs ih=>rw[List.map_cons,List.map_cons,List.sum_cons,ih (by simp at h;omega)];show 1+_=_;rw[List.length_cons];omega
 rw[e,show (PySem.Str.ofString "").length=0 from rfl]
 omega
theorem slice1(c:Nat)(w:List Nat):PySem.Txt.slice (tw (c::w)) (some 1) none=tw w:=by
 have hl:(tw (c::w)).length=w.length+1:=by show (c::w).toArray.size=_;rw[List.size_toArray];rfl
 rw[PyProof.Rows.slice_from_eq (b:=(tw (c::w)).length) (by decide) (by rw[hl];omega) rfl]
 show (⟨(((c::w).drop 1).take _).toArray⟩:Str)=_
 rw[List.drop_one,List.tail_cons,List.take_of_length_le (by rw[hl];omega)]
theorem t1_app(c:Nat)(w:List Nat):t1 c++tw w=tw (c::w):=by
 show (⟨#[c]++w.toArray⟩:Str)=⟨(c::w).toArray⟩
 simp
noncomputable def S_ib(ds:List PyData)(c:AV):Prop:=∃ (b:Int) (L:List Nat) (W G:List (Nat×PyData)) (c0:Nat),ds=[dW W,kc c0]∧Gd b L W G c0∧c=.d (.bool true)
theorem ok_is_beginning(T:Txt K mg):Cal P w K mg base (CXE P w) 1 "is_beginning" ["words", "begin"] [] (spV K S_ib NX):=by
 refine val T.x_is_beginning sc_is_beginning (fun ds c ⟨b,L,W,G,c0,e,_⟩=>by rw[e];rfl) (fun f cdv A outer s H E hr=>?_) [] (by simp)
 refine⟨_,(pss_cons (ps_if (pt_cmpR (op_notInA (K:=K) rfl hr.units) (pv 1) (pv 0) (by with_unfolding_all rfl))
    (pss_one (ps_ret pe_bl))
    pss_nil)
   (pss_cons (ps_set (i:=2) sc_is_beginning.nd rfl (Or.inl rfl) (pe_ix (ix_any (K:=K) rfl hr.units) (pv 0) (pv 1) (fun _ _=>rfl)))
   (pss_one (ps_ret (pe_and (pe_cmpR op_le (pe_cst T.g_SHORTEST_WORD rfl) (pe_callB (call_lenAny (K:=K) rfl) rfl T.n_len PySem.boot_len (pa_cons (pv 2) pa_nil)) (nomark _)) (pe_and (pe_cmpR op_le (pe_callB (call_lenAny (K:=K) rfl) rfl T.n_len PySem.boot_len (pa_cons (pv 2) pa_nil)) (pe_cst T.g_LONGEST_WORD rfl) (nomark _)) (pe_one (pe_bmK (K:=K) rfl PySem.F.plainAttrs_str PySem.F.slot_str_startswith PySem.F.type_str_startswith mt_startswith (pv 2) (pa_cons (pv 1) pa_nil))))))))),?_⟩
 rintro ds c ⟨b,L,W,G,c0,rfl,hg,rfl⟩
 obtain⟨h1,h2,h3⟩:=hg.at hg.hc
 have hb:=hg.hb
 obtain⟨r,hr'⟩:=hg.st
 have er:tw (wof W c0)=t1 c0++r:=by rw[h1] at hr';exact PyData.str.inj (Option.some.inj hr')
 show Sv K _ _ _ [some (.d (dW W)),some (.d (kc c0)),none] _
 walk_at "vs"
 refine nin_dc kenc rfl rfl ?_
 rw[hg.kw _ hg.hc]
 walk_at "vs"
 refine ix_dc kenc rfl rfl h1 Item.d ?_
 have hz:(tw (wof W c0)).length=(wof W c0).length:=List.size_toArray
 walk_at "vs"
 refine len_S rfl (by omega) ?_
 rw[hz]
 walk_at "vs"
 refine ite2 (fun h=>?_) fun h=>absurd (decide_eq_true (by omega)) h
 walk_at "vs"
 refine len_S rfl (by omega) ?_
 rw[hz]
 walk_at "vs"
 refine ite2 (fun h=>?_) fun h=>absurd (decide_eq_true (by omega)) h
 walk_at "vs"
 refine ev_starts ?_
 walk_at "vs"
 refine⟨tw (wof W c0),rfl,NR.av,?_⟩
 walk_at "vs"
 refine⟨t1 c0,rfl,NR.av,?_⟩
 rw[er,PySem.W.KT.starts_app]
 exact res_d rfl
theorem use_ib{Q:TV→Prop}{b:Int}{L:List Nat}{W G:List (Nat×PyData)}{c0:Nat}(hg:Gd b L W G c0)(q:Q (.av (.d (.bool true)))):Cl S_ib [] Q [.av (.d (dW W)),.av (.d (kc c0))]:=call_of (by walk_at "nrs") ⟨b,L,W,G,c0,rfl,hg,rfl⟩ (Got.own rfl) q
noncomputable def S_iw(ds:List PyData)(c:AV):Prop:=∃ (b:Int) (L:List Nat) (W G:List (Nat×PyData)) (c0 k:Nat),ds=[dW W,dW G,kc k]∧Gd b L W G c0∧k∈L∧c=.d (.bool true)
theorem ok_is_whole(T:Txt K mg):Cal P w K mg base (CXE P w) 2 "is_whole" ["words", "signs", "letter"] [] (spV K S_iw NX):=by
 have c_is_sign:Cal P w K mg base (CXE P w) 1 "is_sign" ["sign"] [] (spV K S_is NX):=ok_is_sign T
 refine val T.x_is_whole sc_is_whole (fun ds c ⟨b,L,W,G,c0,k,e,_⟩=>by rw[e];rfl) (fun f cdv A outer s H E hr=>?_) [] (by simp)
 refine⟨_,(pss_cons (ps_if (pt_not (pt_val (pe_callB (call_allB (K:=K) rfl rfl) rfl T.n_all PyProof.Rows.boot_all (pa_cons (pe_comp (N:=["other", "words"]) (cap:=[none,some 0]) rfl rfl rfl (by kernel_rfl) (pi_str (pe_ix (ix_any (K:=K) rfl hr.units) (pv 0) (pv 2) (fun _ _=>rfl))) (fun _ _ _ _=>(pg_name (i:=0) (show (["other", "words"]:List Str).Nodup from by decide +kernel) rfl (Or.inl rfl))) (fun _ _ _ _=>pifs_nil) (fun _ _ _ _=>(pe_cmpR (op_inA (K:=K) rfl hr.units) (pv 0) (pv 1) (by with_unfolding_all rfl)))) pa_nil))))
    (pss_one (ps_ret pe_bl))
    pss_nil)
   (pss_one (ps_ret (pe_and (pe_cmpR (op_inA (K:=K) rfl hr.units) (pv 2) (pv 1) (by with_unfolding_all rfl)) (pe_one (pe_cal (c_is_sign.mono (by decide)) hr rfl passE (pa_cons (pe_ix (ix_any (K:=K) rfl hr.units) (pv 1) (pv 2) (fun _ _=>rfl)) pa_nil))))))),?_⟩
 rintro ds c ⟨b,L,W,G,c0,k,rfl,hg,hk,rfl⟩
 obtain⟨h1,h2,h3⟩:=hg.at hk
 have hb:=hg.hb
 have hz:(tw (wof W k)).length=(wof W k).length:=List.size_toArray
 show Sv K _ _ _ [some (.d (dW W)),some (.d (dW G)),some (.d (kc k))] _
 walk_at "vs"
 refine comp_S ?_
 walk_at "vs"
 refine ix_dc kenc rfl rfl h1 Item.d ?_
 have hmem:∀ i:Nat,i<(tw (wof W k)).length→(tw (wof W k)).cps.getD i 0∈L:=fun i hi=>by
  have hi:i<(wof W k).length:=by omega
  have e:(tw (wof W k)).cps.getD i 0=(wof W k)[i]:=by
   show (wof W k).toArray.getD i 0=_
   rw[Array.getD_eq_getD_getElem?,List.getElem?_toArray,List.getElem?_eq_getElem hi];rfl
  rw[e]
  exact h3 _ (List.getElem_mem hi)
 refine⟨tw (wof W k),fun _=>.d (.bool true),rfl,NR.av,?_,by omega,fun i hi=>?_,_,Got.own (clean_map fun _=>rfl),?_⟩
 ·rw[Array.all_eq_true]
  intro i hi
  have:=hg.hL _ (h3 ((wof W k)[i]'(by simpa using hi)) (List.getElem_mem _))
  simp
  omega
 ·show Gv K _ _ [none,some (.d (dW W))] _
  walk_at "vs"
  refine⟨wk_0,?_⟩
  walk_at "vs"
  refine in_dc (c:=(tw (wof W k)).cps.getD i 0) kenc rfl rfl ?_
  rw[hg.kw _ (hmem i hi)]
  rfl
 walk_at "vs"
 refine bi_all (cs:=(List.range (tw (wof W k)).length).map fun _=>true) (by rw[TV.data,AV.data,datas_mapd,List.map_map];rfl) ?_
 rw[show ((List.range (tw (wof W k)).length).map fun _=>true).all id=true by simp]
 walk_at "vs"
 refine in_dc (c:=k) kenc rfl rfl ?_
 rw[hg.kgi hk]
 walk_at "vs"
 obtain⟨s,e,hs⟩:=hg.sg hk
 refine ix_dc kenc rfl rfl e Item.d ?_
 walk_at "vs"
 refine call_of (by walk_at "nrs") ⟨s,rfl,rfl⟩ (Got.own rfl) ?_
 rw[decide_eq_true hs]
 exact res_d rfl
theorem use_iw{Q:TV→Prop}{b:Int}{L:List Nat}{W G:List (Nat×PyData)}{c0 k:Nat}(hg:Gd b L W G c0)(hk:k∈L)(q:Q (.av (.d (.bool true)))):Cl S_iw [] Q [.av (.d (dW W)),.av (.d (dW G)),.av (.d (kc k))]:=call_of (by walk_at "nrs") ⟨b,L,W,G,c0,k,rfl,hg,hk,rfl⟩ (Got.own rfl) q
noncomputable def S_ww(ds:List PyData)(c:AV):Prop:=∃ (b:Int) (L:List Nat) (W G:List (Nat×PyData)) (c0:Nat),ds=[dW W,kc c0,dW G]∧Gd b L W G c0∧c=.d .none
theorem keys_in{b:Int}{L:List Nat}{W G:List (Nat×PyData)}{c0:Nat}(hg:Gd b L W G c0){zs:List Str}(h:zs.Perm ((W.map fun p=>(t1 p.1,p.2)).map Prod.fst)):∃ ks:List Nat,zs=ks.map t1∧∀ k∈ks,k∈L:=by
 have hz:∀ z∈zs,∃ k,z=t1 k∧k∈L:=fun z hz=>by
  have:=h.mem_iff.mp hz
  rw[List.map_map] at this
  obtain⟨p,hp,rfl⟩:=List.mem_map.mp this
  exact⟨p.1,rfl,(hg.w p hp).1⟩
 clear h
 induction zs with
 | nil=>exact⟨[],rfl,by simp⟩
 | cons z zs ih =>
  obtain⟨ks,e,hk⟩:=ih fun x hx=>hz x (.tail _ hx)
  obtain⟨k,e1,e2⟩:=hz z (.head _)
  refine⟨k::ks,by rw[e1,e];rfl,fun x hx=>?_⟩
  rcases List.mem_cons.mp hx with h|h
  ·rw[h];exact e2
  ·exact hk x h
theorem ok_want_words(T:Txt K mg):Cal P w K mg base (CXE P w) 3 "want_words" ["words", "begin", "signs"] [] (spV K S_ww NX):=by
 have c_is_beginning:Cal P w K mg base (CXE P w) 1 "is_beginning" ["words", "begin"] [] (spV K S_ib NX):=ok_is_beginning T
 have c_is_whole:Cal P w K mg base (CXE P w) 2 "is_whole" ["words", "signs", "letter"] [] (spV K S_iw NX):=ok_is_whole T
 refine val T.x_want_words sc_want_words (fun ds c ⟨b,L,W,G,c0,e,_⟩=>by rw[e];rfl) (fun f cdv A outer s H E hr=>?_) [] (by simp)
 refine⟨_,(pss_cons (ps_if (pt_not (pt_val (pe_cal (c_is_beginning.mono (by decide)) hr rfl passE (pa_cons (pv 0) (pa_cons (pv 1) pa_nil)))))
    (pss_one ps_never)
    pss_nil)
   (pss_cons (ps_set (i:=3) sc_want_words.nd rfl (Or.inl rfl) (pe_callB (call_sortD rfl) rfl T.n_sorted PyProof.Rows.boot_sorted (pa_cons (pv 0) pa_nil)))
   (pss_cons (ps_for PassesOwn.never rfl (pi_seq (K:=K) rfl (pv 3)) (pg_name (i:=4) sc_want_words.nd rfl (Or.inl rfl))
    (pss_one (ps_if (pt_cmpR (op_neq (K:=K) rfl hr.units) (pe_callB (call_lenAny (K:=K) rfl) rfl T.n_len PySem.boot_len (pa_cons (pe_ix (ix_any (K:=K) rfl hr.units) (pv 0) (pv 4) (fun _ _=>rfl)) pa_nil)) (pe_callB (call_lenAny (K:=K) rfl) rfl T.n_len PySem.boot_len (pa_cons (pe_ix (ix_any (K:=K) rfl hr.units) (pv 0) (pv 1) (fun _ _=>rfl)) pa_nil)) (nomark _))
     (pss_one ps_never)
     pss_nil)))
   (pss_one (ps_for PassesOwn.never rfl (pi_seq (K:=K) rfl (pv 3)) (pg_name (i:=4) sc_want_words.nd rfl (Or.inl rfl))
    (pss_one (ps_if (pt_not (pt_val (pe_cal (c_is_whole.mono (by decide)) hr rfl passE (pa_cons (pv 0) (pa_cons (pv 2) (pa_cons (pv 4) pa_nil))))))
     (pss_one ps_never)
     pss_nil))))))),?_⟩
 rintro ds c ⟨b,L,W,G,c0,rfl,hg,rfl⟩
 have hb:=hg.hb
 show Sv K _ _ _ [some (.d (dW W)),some (.d (kc c0)),some (.d (dW G)),none,none] _
 walk_at "vs"
 refine use_ib hg ?_
 walk_at "vs"
 refine bi_sortD (kvs:=W.map fun p=>(t1 p.1,p.2)) (congrArg PyData.dict (encD_t1 W)) (fun e=>hg.wne (List.map_eq_nil_iff.mp e)) (by rw[List.length_map];exact hg.lw) fun zs hp _=>?_
 obtain⟨ks,rfl,hk⟩:=keys_in hg hp
 refine v_sD (x:=.list (ks.map kc)) (by rw[AV.data,datas_mapd,List.map_map];rfl) ?_
 walk_at "vs"
 refine for_L (α:=Nat) ?_
 walk_at "vs"
 refine⟨ks,kc,.inl rfl,⟨_,rfl⟩,fun i ρ=>∃ o,ρ=[some (.d (dW W)),some (.d (kc c0)),some (.d (dW G)),some (.d (.list (ks.map kc))),o],⟨none,rfl⟩,?_,?_⟩
 ·rintro i ρ hi ⟨o,rfl⟩
  obtain⟨h1,h2,h3⟩:=hg.at (hk _ (List.getElem_mem hi))
  obtain⟨g1,g2,g3⟩:=hg.at hg.hc
  have hz:∀ c,(tw (wof W c)).length=(wof W c).length:=fun c=>List.size_toArray
  walk_at "vs"
  refine ix_dc kenc rfl rfl h1 Item.d ?_
  walk_at "vs"
  refine len_S rfl (by rw[hz];omega) ?_
  walk_at "vs"
  refine ix_dc kenc rfl rfl g1 Item.d ?_
  walk_at "vs"
  refine len_S rfl (by rw[hz];omega) ?_
  walk_at "vs"
  rw[hz,hz,decide_eq_true (show ((wof W ks[i]).length:Int)=(wof W c0).length by omega)]
  walk_at "vs"
  exact⟨_,rfl⟩
 rintro ρ ⟨o,rfl⟩
 walk_at "vs"
 refine for_L (α:=Nat) ?_
 walk_at "vs"
 refine⟨ks,kc,.inl rfl,⟨_,rfl⟩,fun i ρ=>∃ o,ρ=[some (.d (dW W)),some (.d (kc c0)),some (.d (dW G)),some (.d (.list (ks.map kc))),o],⟨o,rfl⟩,?_,?_⟩
 ·rintro i ρ hi ⟨o,rfl⟩
  walk_at "vs"
  refine use_iw hg (hk _ (List.getElem_mem hi)) ?_
  walk_at "vs"
  exact⟨_,rfl⟩
 rintro ρ ⟨o,rfl⟩
 walk_at "vs"
 rfl
theorem use_ww{Q:TV→Prop}{b:Int}{L:List Nat}{W G:List (Nat×PyData)}{c0:Nat}{a1 a2 a3:TV}(n1:NR a1)(n2:NR a2)(n3:NR a3)(e1:a1.data=dW W)(e2:a2.data=kc c0)(e3:a3.data=dW G)(hg:Gd b L W G c0)(q:Q (.av (.d .none))):Cl S_ww [] Q [a1,a2,a3] :=
 call_of (.cons n1 (.cons n2 (.cons n3 .nil))) ⟨b,L,W,G,c0,by simp[e1,e2,e3],hg,rfl⟩ (Got.own rfl) q
theorem putA_fst{β:Type}{k:Nat}{v:β}{l:List (Nat×β)}(h:(getA l k).isSome=true):(putA l k v).map Prod.fst=l.map Prod.fst:=by
 unfold putA
 rw[if_pos h,List.map_map]
 refine List.map_congr_left fun p _=>?_
 by_cases z:p.1=k
 ·simp[z]
 ·simp[z]
theorem getA_none_mem{β:Type}{k:Nat}{l:List (Nat×β)}(h:getA l k=none):k∉l.map Prod.fst:=fun hk=>by
 obtain⟨p,hp,rfl⟩:=List.mem_map.mp hk
 have:=getA_some hp
 rw[h] at this
 cases this
theorem nd_put{β:Type}{k:Nat}{v:β}{l:List (Nat×β)}(h:(l.map Prod.fst).Nodup):((putA l k v).map Prod.fst).Nodup:=by
 cases hs:(getA l k).isSome with
 | true=>rw[putA_fst hs];exact h
 | false =>
  have hn:getA l k=none:=by simpa using hs
  unfold putA
  rw[if_neg (by rw[hs];exact Bool.false_ne_true),List.map_append,List.nodup_append]
  refine⟨h,by simp,fun a ha b hb=>?_⟩
  simp only[List.map_cons,List.map_nil,List.mem_singleton] at hb
  subst hb
  exact fun e=>getA_none_mem hn (e▸ha)
noncomputable def Lets(n:Nat)(R:Nat→Prop)(ys:List AV):Prop:=∃ cs:List Nat,ys=cs.map (fun c=>.d (kc c))∧cs.length=n∧∀ c∈cs,R c
theorem Lets.nil{R:Nat→Prop}:Lets 0 R []:=⟨[],rfl,rfl,by simp⟩
theorem Lets.snoc{n:Nat}{R:Nat→Prop}{c:Nat}{ys:List AV}(h:Lets n R ys)(h0:R c):Lets (n+1) R (ys++[.d (kc c)]):=by
 obtain⟨xs,rfl,h2,h3⟩:=h
 refine⟨xs++[c],by rw[List.map_append];rfl,by simp[h2],fun x hx=>?_⟩
 rcases List.mem_append.mp hx with hx|hx
 ·exact h3 x hx
 ·rw[List.mem_singleton.mp hx];exact h0
noncomputable abbrev oC(cs:List Nat):AV:=.own (cs.map fun c=>.d (kc c))
noncomputable abbrev dC(cs:List Nat):PyData:=.list (cs.map kc)
theorem oC_data(cs:List Nat):(oC cs).data=dC cs:=by rw[AV.data,datas_mapd]
theorem oC_clean(cs:List Nat):(oC cs).clean=true:=clean_map fun _=>rfl
noncomputable def Pre_lt(cs:List AV):Prop:=∃ m c:Int,cs=[.d (.int m),.d (.int c)]∧(1≤m∧m≤1000)
noncomputable def Post_lt(cs:List AV)(c:AV):Prop:=∃ (m c0:Int) (L:List Nat),cs=[.d (.int m),.d (.int c0)]∧(L.length:Int)=m∧(∀ x∈L,97≤x∧x≤122)∧c=oC L
theorem ok_letters(T:Txt K mg):Cal P w K mg base (CXE P w) 1 "_law_letters" ["_law_many", "_law_cell"] [] (spR K Pre_lt Post_lt NP):=by
 refine valR T.x_law_letters sc_law_letters (fun cs ⟨a,b,e,_⟩=>by rw[e];rfl) (fun f cdv A outer s H E hr=>?_) [] (by simp)
 refine⟨_,(pss_cons (ps_set (i:=2) sc_law_letters.nd rfl (Or.inr rfl) pe_str)
   (pss_one (ps_ret (pe_comp (N:=["_law_k", "_law_letters_here", "_law_cell"]) (cap:=[none,some 2,some 1]) rfl rfl rfl (by kernel_rfl) (pi_range1 rfl T.n_range (pa_cons (pv 0) pa_nil)) (fun _ _ _ _=>(pg_name (i:=0) (show (["_law_k", "_law_letters_here", "_law_cell"]:List Str).Nodup from by decide +kernel) rfl (Or.inl rfl))) (fun _ _ _ _=>pifs_nil) (fun _ _ _ _=>(pe_ix (ix_any (K:=K) rfl hr.units) (pv 1) (pe_op op_mod (pe_op (op_plus (K:=K) rfl) (pe_op op_mod (pe_op op_fdiv (pv 2) pe_int) pe_int) (pe_op op_times (pv 0) (pe_ix (ix_any (K:=K) rfl hr.units) (pe_lst (pa_cons pe_int (pa_cons pe_int (pa_cons pe_int (pa_cons pe_int (pa_cons pe_int (pa_cons pe_int pa_nil))))))) (pe_op op_mod (pv 2) pe_int) (fun _ _=>rfl)))) pe_int) (fun _ _=>rfl))))))),?_⟩
 rintro cs ⟨m,c,rfl,hm⟩
 show Sv K _ _ _ [some (.d (.int m)),some (.d (.int c)),none] _
 walk_at "vi"
 refine compR_R ?_
 walk_at "vi"
 refine⟨m,fun j ys=>Lets j (fun x=>97≤x∧x≤122) ys,rfl,⟨by omega,by omega⟩,Lets.nil,fun j ys hj hy=>?_,fun ys hy=>?_⟩
 ·show Gv K _ _ [none,some (.d (.str alf)),some (.d (.int c))] _
  walk_at "vi"
  refine⟨wk_0,tv_allc ?_⟩
  walk_at "vi"
  refine ev_lst ?_
  walk_at "vi"
  refine⟨[.d (.int 1),.d (.int 3),.d (.int 5),.d (.int 7),.d (.int 9),.d (.int 11)],.cons rfl (.cons rfl (.cons rfl (.cons rfl (.cons rfl (.cons rfl .nil))))),by show 6≤1000;decide,?_⟩
  walk_at "vi"
  have hi:0≤c%6∧c%6<6:=by omega
  generalize c%6=ix at hi
  obtain⟨q,hq,hq1⟩:∃ q:Int,atI [PyData.int 1,.int 3,.int 5,.int 7,.int 9,.int 11] ix=some (.int q)∧1≤q∧q≤11:=by
   have:ix=0∨ix=1∨ix=2∨ix=3∨ix=4∨ix=5:=by omega
   rcases this with e|e|e|e|e|e<;>subst e<;>exact⟨_,rfl,by decide,by decide⟩
  refine ix_L rfl hq (Item.flat rfl) ?_
  walk_at "vi"
  obtain⟨x,h1,h2⟩:=alf_at (k:=(c / 29%26+(j:Int)*q)%26) ⟨Int.emod_nonneg _ (by decide),Int.emod_lt_of_pos _ (by decide)⟩
  refine ix_S rfl alf_len h1 ?_
  exact⟨_,rfl,hy.snoc h2⟩
 ·obtain⟨L,rfl,h3,h4⟩:=hy
  refine⟨_,Got.own (oC_clean L),?_⟩
  exact⟨_,res_o rfl,m,c,L,rfl,by omega,h4,rfl⟩
theorem use_letters{Q:TV→Prop}{X:Exc→Prop}{m c:Int}(hm:1≤m∧m≤1000)(q:∀ L:List Nat,(L.length:Int)=m→(∀ x∈L,97≤x∧x≤122)→Q (.av (oC L))):ClR Pre_lt Post_lt NP [] Q X [.av (.d (.int m)),.av (.d (.int c))] :=
 ⟨_,.cons (.d NR.av rfl) (.cons (.d NR.av rfl) .nil),⟨m,c,rfl,hm⟩,fun _ ⟨m',c',L,e,h1,h2,e2⟩=>by
  cases e
  exact e2▸⟨_,Got.own (oC_clean L),q L h1 h2⟩,fun _ z=>z.elim⟩
noncomputable def Pre_wd(cs:List AV):Prop:=∃ (ns:List Int) (m:Int),cs=[.d (dI ns),.d (.int m)]∧(1≤m∧m≤6)
noncomputable def Post_wd(cs:List AV)(c:AV):Prop:=∃ (b:Int) (L:List Nat) (W G:List (Nat×PyData)) (c0:Nat),Gd b L W G c0∧(W.length≤7∧G.length≤6∧(W.map Prod.fst).Nodup)∧c=.tup [.dic (encD kc W),.d (kc c0),.dic (encD kc G)]
theorem atI_kc{L:List Nat}{k:Int}(h:0≤k∧k<L.length):atI (L.map kc) k=some (kc (L.getD k.toNat 0))∧L.getD k.toNat 0∈L:=by
 have hk:k.toNat<L.length:=by omega
 have e:L.getD k.toNat 0=L[k.toNat]:=by rw[List.getD_eq_getElem?_getD,List.getElem?_eq_getElem hk];rfl
 exact⟨atI_of h.1 (by rw[List.getElem?_map,List.getElem?_eq_getElem hk,e];rfl),by rw[e];exact List.getElem_mem hk⟩
structure So(b:Int)(L:List Nat)(W G:List (Nat×PyData))(i:Nat):Prop where
 w:∀ p∈W,p.1∈L∧Tx1 b L p.2
 g:∀ p∈G,Sg1 p.2
 kw:∀ c∈L.take i,(getA W c).isSome=true
 kg:∀ c∈L.take i,(getA G c).isSome=true
 lw:W.length≤i
 lg:G.length≤i
 nd:(W.map Prod.fst).Nodup
theorem So.nil{b:Int}{L:List Nat}:So b L [] [] 0:=⟨by simp,by simp,by simp,by simp,by simp,by simp,by simp⟩
theorem take_mem{L:List Nat}{i:Nat}(hi:i<L.length){c:Nat}(h:c∈L.take (i+1)):c∈L.take i∨c=L[i]:=by
 rw[List.take_add_one,List.getElem?_eq_getElem hi] at h
 rcases List.mem_append.mp h with h|h
 ·exact .inl h
 ·exact .inr (by simpa using h)
theorem So.step{b:Int}{L:List Nat}{W G:List (Nat×PyData)}{i:Nat}(h:So b L W G i)(hi:i<L.length){x y:PyData}(hx:Tx1 b L x)(hy:Sg1 y):So b L (putA W L[i] x) (putA G L[i] y) (i+1):=by
 refine⟨fun p hp=>?_,fun p hp=>?_,fun c hc=>getA_isSome_put ?_,fun c hc=>getA_isSome_put ?_,?_,?_,nd_put h.nd⟩
 ·rcases mem_putA hp with hp|rfl
  ·exact h.w p hp
  ·exact⟨List.getElem_mem hi,hx⟩
 ·rcases mem_putA hp with hp|rfl
  ·exact h.g p hp
  ·exact hy
 ·exact (take_mem hi hc).imp (h.kw c) id
 ·exact (take_mem hi hc).imp (h.kg c) id
 ·have:=putA_len W L[i] x;have:=h.lw;omega
 ·have:=putA_len G L[i] y;have:=h.lg;omega
theorem ok_words(T:Txt K mg):Cal P w K mg base (CXE P w) 3 "_law_words" ["_law_script", "_law_most"] [] (spR K Pre_wd Post_wd NP):=by
 have c_law_mix:Cal P w K mg base (CXE P w) 1 "_law_mix" ["_law_cell", "_law_k", "_law_most"] [] (spR K Pre_mix Post_mix NP):=ok_mix T
 have c_law_letters:Cal P w K mg base (CXE P w) 1 "_law_letters" ["_law_many", "_law_cell"] [] (spR K Pre_lt Post_lt NP):=ok_letters T
 have c_law_spread:Cal P w K mg base (CXE P w) 2 "_law_spread" ["_law_script", "_law_k"] [] (spV K S_spread NX):=ok_spread T
 refine valR T.x_law_words sc_law_words (fun cs ⟨a,b,e,_⟩=>by rw[e];rfl) (fun f cdv A outer s H E hr=>?_) [] (by simp)
 refine⟨_,(pss_cons (ps_set (i:=2) sc_law_words.nd rfl (Or.inl rfl) (pe_cal (c_law_spread.mono (by decide)) hr rfl passE (pa_cons (pv 0) (pa_cons pe_int pa_nil))))
   (pss_cons (ps_set (i:=3) sc_law_words.nd rfl (Or.inl rfl) (pe_op (op_plus (K:=K) rfl) pe_int (pe_op op_mod (pv 2) pe_int)))
   (pss_cons (ps_set (i:=4) sc_law_words.nd rfl (Or.inr rfl) (pe_cal (c_law_letters.mono (by decide)) hr rfl passE (pa_cons (pe_op (op_plus (K:=K) rfl) pe_int (pe_op op_mod (pe_op op_fdiv (pv 2) pe_int) (pv 1))) (pa_cons (pe_cal (c_law_spread.mono (by decide)) hr rfl passE (pa_cons (pv 0) (pa_cons pe_int pa_nil))) pa_nil))))
   (pss_cons (ps_set (i:=5) sc_law_words.nd rfl (Or.inl rfl) pe_dnewK)
   (pss_cons (ps_set (i:=6) sc_law_words.nd rfl (Or.inl rfl) pe_dnewK)
   (pss_cons (ps_for PassesOwn.never rfl (pi_enumK (K:=K) rfl rfl T.n_enumerate (pa_cons (pv 4) pa_nil)) (pg_tupK (K:=K) (n:=2) rfl rfl (pgs_cons (pg_name (i:=7) sc_law_words.nd rfl (Or.inr rfl)) (pgs_cons (pg_name (i:=8) sc_law_words.nd rfl (Or.inl rfl)) pgs_nil)))
    (pss_cons (ps_set (i:=9) sc_law_words.nd rfl (Or.inr rfl) (pe_op op_fdiv (pe_cal (c_law_spread.mono (by decide)) hr rfl passE (pa_cons (pv 0) (pa_cons pe_int pa_nil))) (pe_op (op_plus (K:=K) rfl) (pv 7) pe_int)))
    (pss_cons (ps_setC (i:=10) sc_law_words.nd rfl rfl (N:=["_law_j", "_law_letters_here", "_law_more", "_law_k"]) (cap:=[none,some 4,some 9,some 7]) rfl rfl rfl (by kernel_rfl) (pi_range1 rfl T.n_range (pa_cons (pv 3) pa_nil)) (fun _ _ _ _=>(pg_name (i:=0) (show (["_law_j", "_law_letters_here", "_law_more", "_law_k"]:List Str).Nodup from by decide +kernel) rfl (Or.inl rfl))) (fun _ _ _ _=>pifs_nil) (fun _ _ _ _=>(pe_ix (ix_any (K:=K) rfl hr.units) (pv 1) (pe_cal (c_law_mix.mono (by decide)) hr rfl passE (pa_cons (pv 2) (pa_cons (pe_op (op_plus (K:=K) rfl) (pe_op op_times pe_int (pv 3)) (pv 0)) (pa_cons (pe_callB (call_lenAny (K:=K) rfl) rfl T.n_len PySem.boot_len (pa_cons (pv 1) pa_nil)) pa_nil)))) (fun _ _=>rfl))))
    (pss_cons (ps_asg (pe_bmK (K:=K) rfl PySem.F.plainAttrs_str PySem.F.slot_str_join PySem.F.type_str_join (mt_join (K:=K) rfl) pe_str (pa_cons (pv 10) pa_nil)) (pg_sub (pv 5) (pv 8) (set_any hr.units)))
    (pss_one (ps_asg (pe_cal (c_law_mix.mono (by decide)) hr rfl passE (pa_cons (pe_cal (c_law_spread.mono (by decide)) hr rfl passE (pa_cons (pv 0) (pa_cons pe_int pa_nil))) (pa_cons (pe_op (op_plus (K:=K) rfl) (pv 7) pe_int) (pa_cons pe_int pa_nil)))) (pg_sub (pv 6) (pv 8) (set_any hr.units))))))))
   (pss_cons (ps_asg (pe_op (op_plus (K:=K) rfl) (pe_ix (ix_any (K:=K) rfl hr.units) (pv 4) pe_int (fun _ _=>rfl)) (pe_slice (sl_anyS (K:=K) rfl) (pe_ix (ix_any (K:=K) rfl hr.units) (pv 5) (pe_ix (ix_any (K:=K) rfl hr.units) (pv 4) pe_int (fun _ _=>rfl)) (fun _ _=>rfl)) (po_some pe_int) po_none)) (pg_sub (pv 5) (pe_ix (ix_any (K:=K) rfl hr.units) (pv 4) pe_int (fun _ _=>rfl)) (set_any hr.units)))
   (pss_one (ps_ret (pe_tup (pa_cons (pv 5) (pa_cons (pe_ix (ix_any (K:=K) rfl hr.units) (pv 4) pe_int (fun _ _=>rfl)) (pa_cons (pv 6) pa_nil))))))))))))),?_⟩
 rintro cs ⟨ns,m,rfl,hm⟩
 show Sv K _ _ _ [some (.d (dI ns)),some (.d (.int m)),none,none,none,none,none,none,none,none,none] _
 walk_at "vi"
 refine use_spread (by decide) ?_
 have hs:=sprd_range ns 0
 generalize sprd ns 0=c at hs
 walk_at "vi"
 have hb:2≤2+c%4∧2+c%4≤5:=by omega
 generalize 2+c%4=b at hb
 walk_at "vi"
 refine use_spread (by decide) ?_
 generalize sprd ns 1=c1
 walk_at "vi"
 have hm0:0≤c / 4%m:=Int.emod_nonneg _ (by omega)
 have hm1:c / 4%m<m:=Int.emod_lt_of_pos _ (by omega)
 generalize c / 4%m=r at hm0 hm1
 refine use_letters (by omega) fun L hL1 hL2=>?_
 refine v_sD (oC_data L) ?_
 walk_at "vi"
 refine for_E (α:=Nat) ?_
 walk_at "vi"
 refine⟨_,L,kc,rfl,rfl,⟨_,rfl⟩,fun i ρ=>∃ (W G:List (Nat×PyData)) (o1 o2 o3 o4:Option AV),ρ=[some (.d (dI ns)),some (.d (.int m)),some (.d (.int c)),some (.d (.int b)),some (.d (dC L)),some (.dic (encD kc W)),some (.dic (encD kc G)),o1,o2,o3,o4]∧So b L W G i,⟨[],[],none,none,none,none,rfl,So.nil⟩,?_,?_⟩
 ·rintro i ρ hi ⟨W,G,o1,o2,o3,o4,rfl,so⟩
  refine gv_tup2 ?_
  walk_at "vi"
  refine use_spread (by decide) ?_
  generalize sprd ns 2=c2
  walk_at "vi"
  refine compR_R ?_
  walk_at "vi"
  refine⟨b,fun j ys=>Lets j (fun x=>x∈L) ys,rfl,⟨by omega,by omega⟩,Lets.nil,fun j ys hj hy=>?_,fun ys hy=>?_⟩
  ·show Gv K _ _ [none,some (.d (dC L)),some (.d (.int (c2 / ((i:Int)+1)))),some (.d (.int i))] _
   walk_at "vi"
   refine⟨wk_0,tv_allc ?_⟩
   walk_at "vi"
   refine len_L rfl ?_
   rw[List.length_map]
   walk_at "vi"
   refine use_mix (by omega) (by omega) fun z hz0 hz1=>?_
   obtain⟨e1,e2⟩:=atI_kc (L:=L) ⟨hz0,hz1⟩
   refine ix_L rfl e1 Item.d ?_
   exact⟨_,rfl,hy.snoc e2⟩
  ·obtain⟨ws,rfl,h3,h4⟩:=hy
   refine⟨_,Got.own (oC_clean ws),?_⟩
   refine v_sD (oC_data ws) ?_
   walk_at "vi"
   refine sv_dput (n:=5) (kvs:=W) kenc rfl (by have:=so.lw;omega) ?_
   walk_at "vi"
   refine ev_join ?_
   walk_at "vi"
   refine⟨ws.map t1,congrArg PyData.list (by rw[List.map_map];rfl),NR.av,joinOk1 (by omega),?_⟩
   rw[join1]
   walk_at "vi"
   refine⟨_,L[i],rfl,rfl,NR.av,?_⟩
   dsimp only[List.set]
   walk_at "vi"
   refine sv_dput (n:=6) (kvs:=G) kenc rfl (by have:=so.lg;omega) ?_
   walk_at "vi"
   refine use_spread (by decide) ?_
   walk_at "vi"
   refine use_mix (by omega) (by omega) fun z hz0 hz1=>?_
   walk_at "vi"
   refine⟨_,L[i],rfl,rfl,NR.av,?_⟩
   exact⟨_,_,_,_,_,_,rfl,so.step hi ⟨ws,rfl,by omega,h4⟩ ⟨z,rfl,by omega,by omega⟩⟩
 ·rintro ρ ⟨W,G,o1,o2,o3,o4,rfl,so⟩
  have hl0:0<L.length:=by omega
  have e0:atI (L.map kc) 0=some (kc L[0]):=atI_of (by decide) (by rw[List.getElem?_map];show (L[0]?).map kc=_;rw[List.getElem?_eq_getElem hl0];rfl)
  have hkw:∀ c∈L,(getA W c).isSome=true:=fun c hc=>so.kw c (by rw[List.take_length];exact hc)
  have hkg:∀ c∈L,(getA G c).isSome=true:=fun c hc=>so.kg c (by rw[List.take_length];exact hc)
  obtain⟨v,hv⟩:=Option.isSome_iff_exists.mp (hkw _ (List.getElem_mem hl0))
  obtain⟨_,w0,ew,hw1,hw2⟩:=so.w _ (getA_mem hv)
  have ew:v=.str (tw w0):=ew
  subst ew
  obtain⟨x,w1,rfl⟩:∃ x w1,w0=x::w1:=by
   cases w0 with
   | nil=>simp at hw1;omega
   | cons x w1=>exact⟨x,w1,rfl⟩
  have hz:(tw (x::w1)).length=w1.length+1:=List.size_toArray
  have hw3:((w1.length:Nat):Int)+1=b:=by simpa using hw1
  have hz1:(tw w1).length=w1.length:=List.size_toArray
  walk_at "vi"
  refine sv_dput (n:=5) (kvs:=W) kenc rfl (by have:=so.lw;omega) ?_
  walk_at "vi"
  refine ix_L rfl e0 Item.d ?_
  walk_at "vi"
  refine sl_S ?_
  walk_at "vi"
  refine ix_L rfl e0 Item.d ?_
  walk_at "vi"
  refine ix_dc kenc rfl rfl hv (Item.flat rfl) ?_
  walk_at "vi"
  refine⟨tw (x::w1),rfl,NR.av,by omega,?_⟩
  rw[slice1]
  walk_at "vi"
  refine add_s (y:=t1 L[0]) (z:=tw w1) rfl rfl (by show 1+_≤_;omega) ?_
  walk_at "vi"
  refine ix_L rfl e0 Item.d ?_
  walk_at "vi"
  refine⟨_,L[0],rfl,rfl,NR.av,?_⟩
  dsimp only[List.set]
  refine sv_retDD (n:=5) (m:=6) (k1:=encD kc (putA W L[0] (.str (t1 L[0]++tw w1)))) (k2:=encD kc G) rfl rfl (by decide) ?_
  walk_at "vi"
  refine ix_L rfl e0 Item.d ?_
  have hG:Gd b L (putA W L[0] (.str (t1 L[0]++tw w1))) G L[0]:=by
   refine⟨hb,hL2,fun p hp=>?_,fun p hp=>(so.g p hp).imp fun _ z=>z.1,fun c hc=>getA_isSome_put (.inl (hkw c hc)),fun c hc=>?_,?_,List.getElem_mem hl0,tw w1,?_⟩
   ·rcases mem_putA hp with hp|rfl
    ·exact so.w p hp
    ·refine⟨List.getElem_mem hl0,L[0]::w1,by rw[t1_app],by simpa using hw1,fun y hy=>?_⟩
     rcases List.mem_cons.mp hy with e|e
     ·rw[e];exact List.getElem_mem hl0
     ·exact hw2 y (.tail _ e)
   ·obtain⟨v,hv⟩:=Option.isSome_iff_exists.mp (hkg c hc)
    obtain⟨s,e,h1⟩:=so.g _ (getA_mem hv)
    have e:v=.int s:=e
    subst e
    exact⟨s,hv,h1⟩
   ·have:=putA_len W L[0] (.str (t1 L[0]++tw w1));have:=so.lw;omega
   ·rw[getA_put,if_pos rfl]
  refine⟨_,rfl,NR.av,rfl,?_⟩
  refine⟨_,.inl rfl,b,L,_,G,L[0],hG,⟨by have:=so.lw;have:=putA_len W L[0] (.str (t1 L[0]++tw w1));omega,by have:=so.lg;omega,nd_put so.nd⟩,rfl⟩
theorem Gd.cleanT{b:Int}{L:List Nat}{W G:List (Nat×PyData)}{c0:Nat}(h:Gd b L W G c0):(AV.tup [.dic (encD kc W),.d (kc c0),.dic (encD kc G)]).clean=true:=by
 have e1:(encD kc W).map Prod.snd=W.map Prod.snd:=by unfold encD;rw[List.map_map];rfl
 have e2:(encD kc G).map Prod.snd=G.map Prod.snd:=by unfold encD;rw[List.map_map];rfl
 simp only[AV.clean,AV.cleans,e1,e2,h.wfl,h.gfl]
 rfl
theorem use_words{Q:TV→Prop}{X:Exc→Prop}{ns:List Int}{m:Int}(hm:1≤m∧m≤6)(q:∀ (b:Int) (L:List Nat) (W G:List (Nat×PyData)) (c0:Nat),Gd b L W G c0→W.length≤7→G.length≤6→(W.map Prod.fst).Nodup→Q (.av (.tup [.dic (encD kc W),.d (kc c0),.dic (encD kc G)]))):ClR Pre_wd Post_wd NP [] Q X [.av (.d (dI ns)),.av (.d (.int m))] :=
 ⟨_,.cons (.d NR.av rfl) (.cons (.d NR.av rfl) .nil),⟨ns,m,rfl,hm⟩,fun _ ⟨b,L,W,G,c0,hg,hl,e2⟩=>e2▸⟨_,Got.own hg.cleanT,q b L W G c0 hg hl.1 hl.2.1 hl.2.2⟩,fun _ z=>z.elim⟩
noncomputable def S_want_base(ds:List PyData)(c:AV):Prop:=∃ b:Int,ds=[.int b]∧(2≤b∧b≤5)∧c=.d .none
theorem ok_want_base(T:Txt K mg):Cal P w K mg base (CXE P w) 1 "want_base" ["base"] [] (spV K S_want_base NX):=by
 refine val T.x_want_base sc_want_base (fun ds c ⟨k,e,_⟩=>by rw[e];rfl) (fun f cdv A outer s H E hr=>?_) [] (by simp)
 refine⟨_,(pss_one (ps_if (PW.pt (pw_or (pt_cmpR op_lt (pv 0) (pe_cst T.g_LEAST_BASE rfl) (nomark _)) (pw_or1 (pt_cmpR op_gt (pv 0) (pe_cst T.g_GREATEST_BASE rfl) (nomark _)))))
    (pss_one ps_never)
    pss_nil)),?_⟩
 rintro ds c ⟨b,rfl,hb,rfl⟩
 show Sv K _ _ _ [some (.d (.int b))] _
 walk_at "vs"
 refine iteN (by omega) ?_
 walk_at "vs"
 refine iteN (by omega) ?_
 walk_at "vs"
 rfl
theorem use_want_base{Q:TV→Prop}{b:Int}(hb:2≤b∧b≤5)(q:Q (.av (.d .none))):Cl S_want_base [] Q [.av (.d (.int b))]:=call_of (by walk_at "nrs") ⟨b,rfl,hb,rfl⟩ (Got.own rfl) q
noncomputable def S_figures_of(ds:List PyData)(c:AV):Prop:=∃ n b:Int,ds=[.int n,.int b]∧(2≤b∧b≤5)∧0≤n∧n.toNat<2 ^ 900∧c=oI (figs b n)
theorem ok_figures_of(T:Txt K mg):∀ dvs∈[[],[V.int 2]],Cal P w K mg base (CXE P w) 2 "figures_of" ["place", "base"] dvs (spV K S_figures_of NX):=by
 have c_want_base:Cal P w K mg base (CXE P w) 1 "want_base" ["base"] [] (spV K S_want_base NX):=ok_want_base T
 refine val T.x_figures_of sc_figures_of (fun ds c ⟨n,b,e,_⟩=>by rw[e];rfl) (fun f cdv A outer s H E hr=>?_)
 refine⟨_,(pss_cons (ps_expr (pe_cal (c_want_base.mono (by decide)) hr rfl passE (pa_cons (pv 1) pa_nil)))
   (pss_cons (ps_set (i:=2) sc_figures_of.nd rfl (Or.inl rfl) (pe_lst pa_nil))
   (pss_cons (ps_set (i:=3) sc_figures_of.nd rfl (Or.inl rfl) (pv 0))
   (pss_cons (ps_while PassesOwn.never (pt_cmpR op_gt (pv 3) pe_int (nomark _))
    (pss_cons (ps_expr (pe_bmK (K:=K) rfl PySem.F.plainAttrs_list PySem.F.slot_list_append PySem.F.type_list_append mt_append (pv 2) (pa_cons (pe_op op_mod (pv 3) (pv 1)) pa_nil)))
    (pss_one (ps_set (i:=3) sc_figures_of.nd rfl (Or.inl rfl) (pe_op op_fdiv (pv 3) (pv 1))))))
   (pss_cons (ps_expr (pe_bm0K (K:=K) rfl PySem.F.plainAttrs_list PySem.F.slot_list_reverse PySem.F.type_list_reverse mt_reverse (pv 2)))
   (pss_one (ps_ret (pv 2)))))))),?_⟩
 rintro ds c ⟨n,b,rfl,hb,h0,h1,rfl⟩
 show Sv K _ _ _ [some (.d (.int n)),some (.d (.int b)),none,none] _
 walk_at "vs"
 refine use_want_base hb ?_
 walk_at "vs"
 refine s_while (fun m ρ=>∃ (ds:List Int) (r:Int),ρ=[some (.d (.int n)),some (.d (.int b)),some (oI ds),some (.d (.int r))]∧Lig b n ds r∧m=r.toNat) n.toNat ⟨[],n,rfl,.start h0 h1,rfl⟩ ?_
 rintro m ρ ⟨ds,r,rfl,L,rfl⟩
 walk_at "vs"
 refine ite2 (fun h=>?_) fun h=>?_
 ·have hr0:0<r:=of_decide_eq_true h
  obtain⟨L',hl,hm⟩:=L.step hb.1 hb.2 hr0
  walk_at "vs"
  refine v_ap ?hz ?_
  case hz=>rw[List.length_map];omega
  walk_at "vs"
  exact⟨(r / b).toNat,hm,ds++[r%b],r / b,by rw[oI,List.map_append];rfl,L',rfl⟩
 ·have hr0:¬ 0<r:=fun z=>h (decide_eq_true z)
  obtain⟨e,hl⟩:=L.done hr0
  subst e
  walk_at "vs"
  refine res_o ?_
  rw[oI,figs,List.map_reverse]
theorem use_figures_of{Q:TV→Prop}{n b:Int}(hb:2≤b∧b≤5)(h0:0≤n)(h1:n.toNat<2 ^ 900)(q:Q (.av (oI (figs b n)))):Cl S_figures_of [] Q [.av (.d (.int n)),.av (.d (.int b))] :=
 call_of (by walk_at "nrs") ⟨n,b,rfl,hb,h0,h1,rfl⟩ (Got.own (oI_clean _)) q
theorem figs_snoc{b q d:Int}(hb:2≤b∧b≤5)(hq:0≤q)(hd:0≤d∧d<b)(h:0<q*b+d):figs b (q*b+d)=figs b q++[d]:=by
 have e1:(q*b+d)%b=d:=by rw[Int.add_comm,Int.add_mul_emod_self_right];exact Int.emod_eq_of_lt hd.1 hd.2
 have e2:(q*b+d) / b=q:=by
  rw[Int.add_comm,Int.add_mul_ediv_right _ _ (by omega),Int.ediv_eq_zero_of_lt hd.1 hd.2];omega
 unfold figs
 rw[dig_pos hb.1 hb.2 h,e1,e2,List.reverse_cons]
theorem dig_in{b:Int}(hb:2≤b∧b≤5):∀ (n:Nat) (k:Int),k.toNat≤n→∀ x∈dig b k,0≤x∧x<b
 | 0,k,h,x,hx=>by rw[dig_zero (by omega)] at hx;cases hx
 | n+1,k,h,x,hx=>by
  by_cases hk:0<k
  ·rw[dig_pos hb.1 hb.2 hk] at hx
   rcases List.mem_cons.mp hx with e|hx
   ·rw[e];exact⟨Int.emod_nonneg _ (by omega),Int.emod_lt_of_pos _ (by omega)⟩
   ·refine dig_in hb n (k / b) ?_ x hx
    have h1:k*2≤k*b:=Int.mul_le_mul_of_nonneg_left hb.1 (by omega)
    have h2:k / b<k:=Int.ediv_lt_of_lt_mul (by omega) (by omega)
    omega
  ·rw[dig_zero hk] at hx;cases hx
theorem figs_in{b k:Int}(hb:2≤b∧b≤5):∀ x∈figs b k,0≤x∧x<b:=fun x hx=>dig_in hb _ k (Nat.le_refl _) x (by unfold figs at hx;exact List.mem_reverse.mp hx)
theorem wof0{b:Int}{L:List Nat}{W G:List (Nat×PyData)}{c0:Nat}(h:Gd b L W G c0):(wof W c0).getD 0 0=c0:=by
 obtain⟨h1,_,_⟩:=h.at h.hc
 obtain⟨r,hr⟩:=h.st
 have er:tw (wof W c0)=t1 c0++r:=by rw[h1] at hr;exact PyData.str.inj (Option.some.inj hr)
 have e:wof W c0=c0::r.cps.toList:=by
  have:=congrArg (fun z:Str=>z.cps.toList) er
  simp only[PySem.W.KT.app_list] at this
  simpa using this
 rw[e]
 rfl
noncomputable def uq(W:List (Nat×PyData))(b:Int)(c0:Nat)(n:Nat):Nat:=lat W c0 (figs b n)
section
variable{b:Int}{L:List Nat}{W G:List (Nat×PyData)}{c0:Nat}
theorem uq_zero:uq W b c0 0=c0:=by
 unfold uq figs
 rw[dig_zero (by decide)]
 rfl
theorem Gd.uq(h:Gd b L W G c0)(n:Nat):uq W b c0 n∈L:=h.lat fun d hd=>figs_in h.hb d hd
theorem Gd.uq_step(h:Gd b L W G c0)(q d:Nat)(hd:(d:Int)<b):K13.uq W b c0 (q*b.toNat+d)=(wof W (K13.uq W b c0 q)).getD d 0:=by
 have hb:=h.hb
 by_cases z:q*b.toNat+d=0
 ·have z1:d=0:=by omega
  have z2:q*b.toNat=0:=by omega
  have z3:q=0:=by
   rcases Nat.mul_eq_zero.mp z2 with e|e
   ·exact e
   ·omega
  rw[z,z1,z3,uq_zero,wof0 h]
 ·have e:(((q*b.toNat+d:Nat)):Int)=(q:Int)*b+(d:Int):=by
   rw[Int.natCast_add,Int.natCast_mul,Int.toNat_of_nonneg (by omega)]
  unfold K13.uq
  rw[e,figs_snoc hb (by omega) ⟨by omega,hd⟩ (by rw[← e];omega),lat_snoc,Int.toNat_natCast]
noncomputable def us(W:List (Nat×PyData))(b:Int)(c0:Nat)(n:Nat):List Nat:=(List.range n).map (uq W b c0)
theorem us_len(n:Nat):(us W b c0 n).length=n:=by unfold us;rw[List.length_map,List.length_range]
theorem us_get{n i:Nat}(h:i<n):(us W b c0 n)[i]?=some (uq W b c0 i):=by
 unfold us
 rw[List.getElem?_map,List.getElem?_range h]
 rfl
theorem us_succ(n:Nat):us W b c0 (n+1)=us W b c0 n++[uq W b c0 n]:=by unfold us;rw[List.range_succ,List.map_append];rfl
theorem us_take{n m:Nat}(h:m≤n):(us W b c0 n).take m=us W b c0 m:=by
 unfold us
 rw[← List.map_take,List.take_range,Nat.min_eq_left h]
theorem us_one:us W b c0 1=[c0]:=by show [uq W b c0 0]=_;rw[uq_zero]
end
theorem tw_app(x y:List Nat):tw x++tw y=tw (x++y):=by
 show (⟨x.toArray++y.toArray⟩:Str)=⟨(x++y).toArray⟩
 simp
theorem tw_len(x:List Nat):(tw x).length=x.length:=List.size_toArray
theorem oC_snoc(cs:List Nat)(c:Nat):AV.own ((cs.map fun c=>.d (kc c))++[.d (kc c)])=oC (cs++[c]):=by rw[oC,List.map_append];rfl
noncomputable def S_gr(ds:List PyData)(c:AV):Prop:=∃ (b:Int) (L:List Nat) (W G:List (Nat×PyData)) (c0:Nat) (m:Int),ds=[dW W,kc c0,dW G,.int m]∧Gd b L W G c0∧(0≤m∧m≤1000)∧c=.d (.str (tw (us W b c0 m.toNat)))
theorem ok_grown(T:Txt K mg):Cal P w K mg base (CXE P w) 4 "grown" ["words", "begin", "signs", "many"] [] (spV K S_gr NX):=by
 have c_want_words:Cal P w K mg base (CXE P w) 3 "want_words" ["words", "begin", "signs"] [] (spV K S_ww NX):=ok_want_words T
 refine val T.x_grown sc_grown (fun ds c ⟨b,L,W,G,c0,p,e,_⟩=>by rw[e];rfl) (fun f cdv A outer s H E hr=>?_) [] (by simp)
 refine⟨_,(pss_cons (ps_expr (pe_cal (c_want_words.mono (by decide)) hr rfl passE (pa_cons (pv 0) (pa_cons (pv 1) (pa_cons (pv 2) pa_nil)))))
   (pss_cons (ps_set (i:=4) sc_grown.nd rfl (Or.inl rfl) (pe_callB (call_lenAny (K:=K) rfl) rfl T.n_len PySem.boot_len (pa_cons (pe_ix (ix_any (K:=K) rfl hr.units) (pv 0) (pv 1) (fun _ _=>rfl)) pa_nil)))
   (pss_cons (ps_set (i:=5) sc_grown.nd rfl (Or.inl rfl) (pe_lst (pa_cons (pv 1) pa_nil)))
   (pss_cons (ps_for PassesOwn.never rfl (pi_range2 rfl T.n_range (pa_cons pe_int (pa_cons (pv 3) pa_nil))) (pg_name (i:=6) sc_grown.nd rfl (Or.inl rfl))
    (pss_one (ps_expr (pe_bmK (K:=K) rfl PySem.F.plainAttrs_list PySem.F.slot_list_append PySem.F.type_list_append mt_append (pv 5) (pa_cons (pe_ix (ix_any (K:=K) rfl hr.units) (pe_ix (ix_any (K:=K) rfl hr.units) (pv 0) (pe_ix (ix_any (K:=K) rfl hr.units) (pv 5) (pe_op op_fdiv (pv 6) (pv 4)) (fun _ _=>rfl)) (fun _ _=>rfl)) (pe_op op_mod (pv 6) (pv 4)) (fun _ _=>rfl)) pa_nil)))))
   (pss_one (ps_ret (pe_bmK (K:=K) rfl PySem.F.plainAttrs_str PySem.F.slot_str_join PySem.F.type_str_join (mt_join (K:=K) rfl) pe_str (pa_cons (pe_slice (sl_any (K:=K) rfl) (pv 5) po_none (po_some (pv 3))) pa_nil)))))))),?_⟩
 rintro ds c ⟨b,L,W,G,c0,m,rfl,hg,hm,rfl⟩
 have hb:=hg.hb
 obtain⟨h1,h2,h3⟩:=hg.at hg.hc
 show Sv K _ _ _ [some (.d (dW W)),some (.d (kc c0)),some (.d (dW G)),some (.d (.int m)),none,none,none] _
 walk_at "vi"
 refine use_ww NR.av NR.av NR.av rfl rfl rfl hg ?_
 walk_at "vi"
 refine ix_dc kenc rfl rfl h1 Item.d ?_
 walk_at "vi"
 refine len_S rfl (by rw[tw_len];omega) ?_
 rw[tw_len,h2]
 walk_at "vi"
 refine ev_lst ?_
 walk_at "vi"
 refine⟨[.d (kc c0)],.cons rfl .nil,by show 1≤1000;decide,?_⟩
 walk_at "vi"
 refine for_R2 ?_
 walk_at "vi"
 refine⟨1,m,rfl,⟨by decide,by decide,by omega,by omega⟩,fun i ρ=>∃ o,ρ=[some (.d (dW W)),some (.d (kc c0)),some (.d (dW G)),some (.d (.int m)),some (.d (.int b)),some (oC (us W b c0 (i+1))),o],⟨none,by rw[us_one];rfl⟩,?_,?_⟩
 ·rintro i ρ hi ⟨o,rfl⟩
  have hp:((1:Int)+(i:Nat))=((i+1:Nat):Int):=by omega
  rw[hp]
  generalize hj:i+1=j
  have hq0:0≤(j:Int) / b:=Int.ediv_nonneg (by omega) (by omega)
  have hq1:(j:Int) / b<j:=Int.ediv_lt_self_of_pos_of_ne_one (by omega) (by omega)
  have hr0:0≤(j:Int)%b:=Int.emod_nonneg _ (by omega)
  have hr1:(j:Int)%b<b:=Int.emod_lt_of_pos _ (by omega)
  obtain⟨qn,hqn⟩:=Int.eq_ofNat_of_zero_le hq0
  obtain⟨rn,hrn⟩:=Int.eq_ofNat_of_zero_le hr0
  have hdm:qn*b.toNat+rn=j:=by
   have:=Int.mul_ediv_add_emod (j:Int) b
   rw[hqn,hrn] at this
   have e:((qn*b.toNat+rn:Nat):Int)=j:=by
    rw[Int.natCast_add,Int.natCast_mul,Int.toNat_of_nonneg (by omega),Int.mul_comm];exact this
   omega
  have est:=hg.uq_step qn rn (by omega)
  rw[hdm] at est
  obtain⟨g1,g2,g3⟩:=hg.at (hg.uq qn)
  obtain⟨e1,e2⟩:=hg.nth (hg.uq qn) (d:=(rn:Int)) ⟨by omega,by omega⟩
  rw[Int.toNat_natCast,← est] at e1
  walk_at "vi"
  rw[hqn]
  refine ix_L (by exact oC_data _) (show atI ((us W b c0 j).map kc) ((qn:Nat):Int)=some (kc (uq W b c0 qn)) from atI_of (by omega) (by rw[Int.toNat_natCast,List.getElem?_map,us_get (by omega)];rfl)) (Item.flat rfl) ?_
  walk_at "vi"
  refine ix_dc kenc rfl rfl g1 Item.d ?_
  walk_at "vi"
  rw[hrn]
  refine ix_S rfl (by rw[tw_len];omega) e1 ?_
  refine v_ap ?hz ?_
  case hz=>rw[List.length_map,us_len];omega
  refine⟨some (.d (.int j)),?_⟩
  rw[us_succ,← oC_snoc]
 ·rintro ρ ⟨o,rfl⟩
  walk_at "vi"
  refine ev_join ?_
  walk_at "vi"
  refine sl_L ?_
  walk_at "vi"
  refine⟨_,oC_data _,NR.bor,?_⟩
  have ecut:cutD ((us W b c0 ((m-1).toNat+1)).map kc) none (some m)=(us W b c0 m.toNat).map kc:=by
   rw[cut_map]
   unfold cutA
   rw[sIx_pos hm.1,HT.sIx_none,us_len,List.drop_zero,Nat.sub_zero,us_take (by omega),Nat.min_eq_left (by omega)]
  rw[ecut]
  refine⟨Kp.flat (noLsts_map (fun _=>rfl) _),?_⟩
  refine⟨(us W b c0 m.toNat).map t1,?_,NR.av,joinOk1 (by rw[us_len];omega),?_⟩
  ·rw[TV.data,AV.data,AV.datas_map]
   simp only[List.map_map]
   rfl
  rw[join1]
  exact res_d rfl
theorem use_gr{Q:TV→Prop}{b:Int}{L:List Nat}{W G:List (Nat×PyData)}{c0:Nat}{m:Int}{a1 a2 a3 a4:TV}(n1:NR a1)(n2:NR a2)(n3:NR a3)(n4:NR a4)(e1:a1.data=dW W)(e2:a2.data=kc c0)(e3:a3.data=dW G)(e4:a4.data=.int m)(hg:Gd b L W G c0)(hm:0≤m∧m≤1000)(q:Q (.av (.d (.str (tw (us W b c0 m.toNat)))))):Cl S_gr [] Q [a1,a2,a3,a4] :=
 call_of (.cons n1 (.cons n2 (.cons n3 (.cons n4 .nil)))) ⟨b,L,W,G,c0,m,by simp[e1,e2,e3,e4],hg,hm,rfl⟩ (Got.own rfl) q
section
variable{α:Type}[DecidableEq α]
noncomputable def addM(met:List α)(x:α):List α:=if x∈met then met else met++[x]
noncomputable def growM(g:α→Nat→α)(a:α)(met:List α)(n:Nat):List α:=(List.range n).foldl (fun m l=>addM m (g a l)) met
theorem growM_succ(g:α→Nat→α)(a:α)(met:List α)(n:Nat):growM g a met (n+1)=addM (growM g a met n) (g a n):=by
 unfold growM;rw[List.range_succ,List.foldl_append];rfl
inductive Bfs(g:α→Nat→α)(n:Nat):List α→Nat→List α→Prop
 | done {met:List α} {i:Nat}:met.length≤i→Bfs g n met i met
 | step {met F:List α} {i:Nat} (h:i<met.length):Bfs g n (growM g met[i] met n) (i+1) F→Bfs g n met i F
theorem addM_pre(met:List α)(x:α):∃ r,addM met x=met++r:=by
 unfold addM;split
 ·exact⟨[],by simp⟩
 ·exact⟨[x],rfl⟩
theorem addM_mem(met:List α)(x:α):x∈addM met x:=by
 unfold addM;split
 ·assumption
 ·simp
theorem addM_nd{met:List α}{x:α}(h:met.Nodup):(addM met x).Nodup:=by
 unfold addM;split
 ·exact h
 ·rename_i hx
  rw[List.nodup_append]
  exact⟨h,by simp,fun a ha b hb=>by rw[List.mem_singleton.mp hb];exact fun z=>hx (z▸ha)⟩
theorem addM_in{met U:List α}{x:α}(h:∀ y∈met,y∈U)(hx:x∈U):∀ y∈addM met x,y∈U:=by
 unfold addM;split
 ·exact h
 ·intro y hy
  rcases List.mem_append.mp hy with hy|hy
  ·exact h y hy
  ·rw[List.mem_singleton.mp hy];exact hx
theorem growM_pre(g:α→Nat→α)(a:α)(met:List α):∀ n,∃ r,growM g a met n=met++r
 | 0=>⟨[],by simp[growM]⟩
 | n+1=>by
  obtain⟨r,e⟩:=growM_pre g a met n
  obtain⟨r',e'⟩:=addM_pre (growM g a met n) (g a n)
  rw[growM_succ,e',e]
  exact⟨r++r',by simp⟩
theorem idx_pre{met r:List α}{x:α}(h:x∈met):(met++r).idxOf x=met.idxOf x:=by
 rw[List.idxOf_append,if_pos h]
theorem nodup_len{met U:List α}(nd:met.Nodup)(h:∀ x∈met,x∈U):met.length≤U.length:=by
 induction met generalizing U with
 | nil=>simp
 | cons a met ih =>
  rw[List.nodup_cons] at nd
  have h1:=ih (U:=U.erase a) nd.2 fun x hx=>(List.mem_erase_of_ne (fun (z:x=a)=>nd.1 (z▸hx))).mpr (h x (.tail _ hx))
  have h2:=List.length_erase_of_mem (h a (.head _))
  have h3:0<U.length:=List.length_pos_of_mem (h a (.head _))
  simp only[List.length_cons]
  omega
noncomputable def rowN(g:α→Nat→α)(F:List α)(a:α)(n:Nat):List Int:=(List.range n).map fun l=>(F.idxOf (g a l):Int)
theorem rowN_succ(g:α→Nat→α)(F:List α)(a:α)(n:Nat):rowN g F a (n+1)=rowN g F a n++[(F.idxOf (g a n):Int)]:=by
 unfold rowN;rw[List.range_succ,List.map_append];rfl
theorem rowN_pre{g:α→Nat→α}{met r:List α}{a:α}{n:Nat}(h:∀ l,l<n→g a l∈met):rowN g (met++r) a n=rowN g met a n:=by
 unfold rowN
 refine List.map_congr_left fun l hl=>?_
 rw[idx_pre (h l (List.mem_range.mp hl))]
noncomputable def numK(met:List α):List (α×PyData):=met.zipIdx.map fun p=>(p.1,PyData.int (p.2:Int))
theorem numK_snoc(met:List α)(x:α):numK (met++[x])=numK met++[(x,.int (met.length:Int))]:=by
 unfold numK;rw[List.zipIdx_append,List.map_append];simp
theorem getA_from(x:α):∀ (met:List α) (k:Nat),getA ((met.zipIdx k).map fun p=>(p.1,PyData.int (p.2:Int))) x=if x∈met then some (.int ((k+met.idxOf x:Nat):Int)) else none
 | [],_=>rfl
 | y::met,k=>by
  rw[List.zipIdx_cons,List.map_cons]
  have ih:=getA_from x met (k+1)
  unfold getA at ih ⊢
  rw[List.find?_cons]
  by_cases h:y=x
  ·subst h
   simp[List.idxOf_cons]
  ·have h1:decide (y=x)=false:=decide_eq_false h
   simp only[h1]
   rw[ih]
   have h2:(y == x)=false:=beq_false_of_ne h
   by_cases hx:x∈met
   ·rw[if_pos hx,if_pos (.tail _ hx),List.idxOf_cons,h2]
    simp only[cond_false]
    congr 3
    omega
   ·rw[if_neg hx,if_neg (by simp[hx,Ne.symm h])]
theorem getA_num(met:List α)(x:α):getA (numK met) x=if x∈met then some (.int (met.idxOf x:Int)) else none:=by
 have:=getA_from x met 0
 rw[Nat.zero_add] at this
 exact this
theorem putA_num{met:List α}{x:α}(h:x∉met):putA (numK met) x (.int (met.length:Int))=numK (met++[x]):=by
 unfold putA;rw[getA_num,if_neg h,numK_snoc];rfl
end
structure Th(α:Type) where
 start:α
 n:Nat
 m:Int
 g:α→Nat→α
 U:List α
structure Th.Ok{α:Type}(θ:Th α):Prop where
 mem:θ.start∈θ.U
 cl:∀ x∈θ.U,∀ l,l<θ.n→θ.g x l∈θ.U
 um:(θ.U.length:Int)≤θ.m
 n1:θ.n≤1000
 u1:θ.U.length≤1000
noncomputable def PreL{α:Type}(e:α→PyData)(θ:Th α)(cs:List AV):Prop:=∃ (x:α) (l:Nat),cs=[.d (e x),.d (.int l)]∧x∈θ.U∧l<θ.n
noncomputable def PostL{α:Type}(e:α→PyData)(θ:Th α)(cs:List AV)(c:AV):Prop:=∃ (x:α) (l:Nat),cs=[.d (e x),.d (.int l)]∧c=.d (e (θ.g x l))
noncomputable def Pre_met{α:Type}(P:Program)(w:World)(K:W.Frag)(mg:Str→Option Value)(base:Heap)(e:α→PyData)(θ:Th α)(cs:List AV):Prop :=
 θ.Ok∧cs=[.d (e θ.start),.d (.int θ.n),.obj (CloOk P w K mg base (CXE P w) 1 (spR K (PreL e θ) (PostL e θ) NP)),.d (.int θ.m)]
noncomputable def dMet{α:Type}[DecidableEq α](e:α→PyData)(θ:Th α)(F:List α):PyData:=.tuple [.list (F.map e),.tuple ((F.map fun a=>rowN θ.g F a θ.n).map tI)]
noncomputable def Post_met{α:Type}[DecidableEq α](e:α→PyData)(θ:Th α)(_:List AV)(c:AV):Prop:=∃ F,Bfs θ.g θ.n [θ.start] 0 F∧F.Nodup∧(∀ x∈F,x∈θ.U)∧c=.d (dMet e θ F)
noncomputable abbrev oE{α:Type}(e:α→PyData)(xs:List α):AV:=.own (xs.map fun x=>.d (e x))
theorem oE_data{α:Type}(e:α→PyData)(xs:List α):(oE e xs).data=.list (xs.map e):=by rw[AV.data,datas_mapd]
theorem atI_e{α:Type}{e:α→PyData}{xs:List α}{i:Nat}(h:i<xs.length):atI (xs.map e) (i:Int)=some (e xs[i]) :=
 atI_of (by omega) (by rw[Int.toNat_natCast,List.getElem?_map,List.getElem?_eq_getElem h];rfl)
structure MetI{α:Type}[DecidableEq α](θ:Th α)(met:List α)(i:Nat):Prop where
 nd:met.Nodup
 u:∀ x∈met,x∈θ.U
 all:∀ j (h:j<met.length),j<i→∀ l,l<θ.n→θ.g met[j] l∈met
 bf:∀ F,Bfs θ.g θ.n met i F→Bfs θ.g θ.n [θ.start] 0 F
 le:i≤met.length
theorem ok_met_from(T:Txt K mg){α:Type}[DecidableEq α]{e:α→PyData}(F:KEnc e)(hj:∀ a b,e a=e b→a=b)(hf:∀ x,noLst (e x)=true) :
  Cal P w K mg base (CXE P w) 2 "met_from" ["start", "letters", "lead", "most"] [] (spF K (Pre_met P w K mg base e) (Post_met e)):=by
 refine valRF T.x_met_from sc_met_from (fun θ cs ⟨_,e⟩=>by rw[e];rfl) (fun θ f cdv A outer s H E hr=>?_) [] (by simp)
 refine⟨_,(pss_cons (ps_set (i:=4) sc_met_from.nd rfl (Or.inl rfl) (pe_lst (pa_cons (pv 0) pa_nil)))
   (pss_cons (ps_setD (i:=5) sc_met_from.nd rfl (Or.inl rfl) (pe_disp1 hr.units (pv 0) pe_int))
   (pss_cons (ps_set (i:=6) sc_met_from.nd rfl (Or.inl rfl) (pe_lst pa_nil))
   (pss_cons (ps_while PassesOwn.never (pt_cmpR op_lt (pe_callB (call_lenAny (K:=K) rfl) rfl T.n_len PySem.boot_len (pa_cons (pv 6) pa_nil)) (pe_callB (call_lenAny (K:=K) rfl) rfl T.n_len PySem.boot_len (pa_cons (pv 4) pa_nil)) (nomark _))
    (pss_cons (ps_set (i:=7) sc_met_from.nd rfl (Or.inl rfl) (pe_lst pa_nil))
    (pss_cons (ps_for PassesOwn.never rfl (pi_range1 rfl T.n_range (pa_cons (pv 1) pa_nil)) (pg_name (i:=8) sc_met_from.nd rfl (Or.inl rfl))
     (pss_cons (ps_set (i:=9) sc_met_from.nd rfl (Or.inl rfl) (pe_callVK (CX:=(CXE P w)) (P:=P) (w:=w) (K:=K) (mg:=mg) (base:=base) (i:=2) (k:=1) rfl rfl rfl rfl rfl (hr.mono (by decide)) passE (pa_cons (pe_ix (ix_any (K:=K) rfl hr.units) (pv 4) (pe_callB (call_lenAny (K:=K) rfl) rfl T.n_len PySem.boot_len (pa_cons (pv 6) pa_nil)) (fun _ _=>rfl)) (pa_cons (pv 8) pa_nil))))
     (pss_cons (ps_ifJ (pt_cmpR (op_notInA (K:=K) rfl hr.units) (pv 9) (pv 5) (by with_unfolding_all rfl))
      (pss_cons (ps_asg (pe_callB (call_lenAny (K:=K) rfl) rfl T.n_len PySem.boot_len (pa_cons (pv 4) pa_nil)) (pg_sub (pv 5) (pv 9) (set_any hr.units)))
      (pss_one (ps_expr (pe_bmK (K:=K) rfl PySem.F.plainAttrs_list PySem.F.slot_list_append PySem.F.type_list_append mt_append (pv 4) (pa_cons (pv 9) pa_nil)))))
      pss_nil)
     (pss_one (ps_expr (pe_bmK (K:=K) rfl PySem.F.plainAttrs_list PySem.F.slot_list_append PySem.F.type_list_append mt_append (pv 7) (pa_cons (pe_ix (ix_any (K:=K) rfl hr.units) (pv 5) (pv 9) (fun _ _=>rfl)) pa_nil)))))))
    (pss_cons (ps_expr (pe_bmK (K:=K) rfl PySem.F.plainAttrs_list PySem.F.slot_list_append PySem.F.type_list_append mt_append (pv 6) (pa_cons (pe_callTy (call_tupK (K:=K) rfl) rfl T.n_tuple PyProof.Rows.boot_tuple (pa_cons (pv 7) pa_nil)) pa_nil)))
    (pss_one (ps_if (pt_cmpR op_gt (pe_callB (call_lenAny (K:=K) rfl) rfl T.n_len PySem.boot_len (pa_cons (pv 4) pa_nil)) (pv 3) (nomark _))
     (pss_one ps_never)
     pss_nil))))))
   (pss_one (ps_ret (pe_tup (pa_cons (pv 4) (pa_cons (pe_callTy (call_tupK (K:=K) rfl) rfl T.n_tuple PyProof.Rows.boot_tuple (pa_cons (pv 6) pa_nil)) pa_nil))))))))),?_⟩
 rintro cs ⟨ok,rfl⟩
 show Sv K _ _ _ [some (.d (e θ.start)),some (.d (.int θ.n)),some (.obj (CloOk P w K mg base (CXE P w) 1 (spR K (PreL e θ) (PostL e θ) NP))),some (.d (.int θ.m)),none,none,none,none,none,none] _
 walk_at "vi"
 refine ev_lst ?_
 walk_at "vi"
 refine⟨[.d (e θ.start)],.cons rfl .nil,by show 1≤1000;decide,?_⟩
 walk_at "vi"
 refine sv_disp1 F ?hn ?_
 case hn=>show 5<10;decide
 walk_at "vi"
 refine⟨θ.start,rfl,NR.av,?_⟩
 walk_at "vi"
 refine⟨.int 0,rfl,?_⟩
 show Sv K _ _ _ [some (.d (e θ.start)),some (.d (.int θ.n)),some (.obj (CloOk P w K mg base (CXE P w) 1 (spR K (PreL e θ) (PostL e θ) NP))),some (.d (.int θ.m)),some (.own [.d (e θ.start)]),some (.dic (encD e [(θ.start,.int 0)])),none,none,none,none] _
 walk_at "vi"
 refine s_while (fun m ρ=>∃ (met:List α) (rows:List (List Int)) (o1 o2 o3:Option AV),ρ=[some (.d (e θ.start)),some (.d (.int θ.n)),some (.obj (CloOk P w K mg base (CXE P w) 1 (spR K (PreL e θ) (PostL e θ) NP))),some (.d (.int θ.m)),some (oE e met),some (.dic (encD e (numK met))),some (.own (rows.map fun x=>.d (tI x))),o1,o2,o3] ∧
  MetI θ met rows.length∧(∀ j (h:j<met.length),j<rows.length→rows[j]?=some (rowN θ.g met met[j] θ.n))∧m=θ.U.length-rows.length) θ.U.length ⟨[θ.start],[],none,none,none,rfl,⟨by simp,by simpa using ok.mem,fun j _ hj=>by simp at hj,fun F h=>h,by simp⟩,fun j _ hj=>by simp at hj,by simp⟩ ?_
 rintro m ρ ⟨met,rows,o1,o2,o3,rfl,I,hrows,rfl⟩
 have hml:=nodup_len I.nd I.u
 have hu1:=ok.u1
 have hle:=I.le
 walk_at "vi"
 refine len_L (ds:=rows.map tI) (by exact (own_data rows fun x=>.d (tI x))) ?_
 rw[List.length_map]
 walk_at "vi"
 refine len_L (ds:=met.map e) (by exact oE_data e met) ?_
 rw[List.length_map]
 walk_at "vi"
 refine ite2 (fun h=>?_) fun h=>?_
 ·have hlt:rows.length<met.length:=by have:=of_decide_eq_true h;omega
  walk_at "vi"
  refine for_R ?_
  walk_at "vi"
  have hn1:=ok.n1
  have ha:=I.u _ (List.getElem_mem hlt)
  refine⟨(θ.n:Int),rfl,⟨by omega,by omega⟩,fun l ρ=>∃ (o2 o3:Option AV),ρ=[some (.d (e θ.start)),some (.d (.int θ.n)),some (.obj (CloOk P w K mg base (CXE P w) 1 (spR K (PreL e θ) (PostL e θ) NP))),some (.d (.int θ.m)),some (oE e (growM θ.g met[rows.length] met l)),some (.dic (encD e (numK (growM θ.g met[rows.length] met l)))),some (.own (rows.map fun x=>.d (tI x))),some (oI (rowN θ.g (growM θ.g met[rows.length] met l) met[rows.length] l)),o2,o3] ∧
   (growM θ.g met[rows.length] met l).Nodup∧(∀ x∈growM θ.g met[rows.length] met l,x∈θ.U)∧∀ l',l' < l→θ.g met[rows.length] l'∈growM θ.g met[rows.length] met l,⟨o2,o3,rfl,I.nd,I.u,fun l' h=>by omega⟩,?_,?_⟩
  ·rintro l ρ hl ⟨o2,o3,rfl,k1,k2,k3⟩
   have hl':l<θ.n:=by omega
   obtain⟨r,er⟩:=growM_pre θ.g met[rows.length] met l
   have hgl:=nodup_len k1 k2
   have hth:=ok.cl _ ha l hl'
   walk_at "vi"
   refine ev_cv (i:=2) rfl ?_
   walk_at "vi"
   refine len_L (ds:=rows.map tI) (by exact (own_data rows fun x=>.d (tI x))) ?_
   rw[List.length_map]
   have hG:rows.length<(growM θ.g met[rows.length] met l).length:=by rw[er,List.length_append];omega
   have eG:(growM θ.g met[rows.length] met l)[rows.length]=met[rows.length]:=by
    simp only[er]
    exact List.getElem_append_left hlt
   refine ix_L (oE_data e _) (atI_e hG) (Item.flat (hf _)) ?_
   rw[eG]
   generalize hGG:growM θ.g met[rows.length] met l=G at k1 k2 k3 er hgl hG eG ⊢
   generalize hth':θ.g met[rows.length] l=t at hth
   walk_at "vi"
   refine⟨[.d (e met[rows.length]),.d (.int l)],.cons (.d NR.av rfl) (.cons (.d NR.av rfl) .nil),⟨met[rows.length],l,rfl,ha,hl'⟩,fun c ⟨x,l2,ee,ec⟩=>?_,fun _ z=>z.elim⟩
   simp only[List.append_nil,List.cons.injEq,AV.d.injEq,PyData.int.injEq,and_true] at ee
   have ex:=hj _ _ ee.1
   have el:l=l2:=by omega
   subst ex el
   rw[hth'] at ec
   subst ec
   refine⟨_,Got.own (hf _),?_⟩
   walk_at "vi"
   refine s_ifJ (fun ρ=>ρ=[some (.d (e θ.start)),some (.d (.int θ.n)),some (.obj (CloOk P w K mg base (CXE P w) 1 (spR K (PreL e θ) (PostL e θ) NP))),some (.d (.int θ.m)),some (oE e (addM G t)),some (.dic (encD e (numK (addM G t)))),some (.own (rows.map fun x=>.d (tI x))),some (oI (rowN θ.g G met[rows.length] l)),some (.d (.int l)),some (.d (e t))]) ?_ ?_
   case refine_2 =>
    walk_at "vi"
    refine nin_dc F (c:=t) (kvs:=numK G) rfl rfl ?_
    rw[getA_num]
    by_cases hm:t∈G
    ·rw[if_pos hm]
     walk_at "vi"
     show (if (!true)=true then _ else _)
     refine iteNT ?_
     walk_at "vi"
     have ea:addM G t=G:=if_pos hm
     rw[ea]
    ·rw[if_neg hm]
     walk_at "vi"
     show (if (!false)=true then _ else _)
     refine iteNF ?_
     walk_at "vi"
     refine sv_dp5 F ?hz ?_
     case hz=>unfold numK;rw[List.length_map,List.length_zipIdx];omega
     walk_at "vi"
     refine len_L (ds:=G.map e) (by exact oE_data e G) ?_
     rw[List.length_map]
     walk_at "vi"
     refine⟨_,t,rfl,rfl,NR.av,?_⟩
     rw[putA_num hm]
     walk_at "vi"
     refine v_ap ?hz ?_
     case hz=>rw[List.length_map];omega
     have ea:addM G t=G++[t]:=if_neg hm
     rw[ea]
     show [_,_,_,_,some (AV.own ((G.map fun x=>.d (e x))++[.d (e t)])),_,_,_,_,_]=_
     rw[oE,List.map_append]
     rfl
   rintro ρ rfl
   walk_at "vi"
   refine ix_dc F (c:=t) (kvs:=numK (addM G t)) (z:=.int ((addM G t).idxOf t:Int)) rfl rfl (by rw[getA_num,if_pos (addM_mem G t)]) (Item.flat rfl) ?_
   walk_at "vi"
   refine v_ap ?hz ?_
   case hz=>rw[List.length_map];unfold rowN;rw[List.length_map,List.length_range];omega
   obtain⟨r2,er2⟩:=addM_pre G t
   have eg:growM θ.g met[rows.length] met (l+1)=addM G t:=by rw[growM_succ,hGG,hth']
   have erow:rowN θ.g (addM G t) met[rows.length] (l+1)=rowN θ.g G met[rows.length] l++[((addM G t).idxOf t:Int)]:=by
    rw[rowN_succ,hth',er2,rowN_pre k3]
   rw[oI_snoc]
   show ∃ o2 o3,_
   rw[eg,erow]
   refine⟨_,_,rfl,addM_nd k1,addM_in k2 hth,fun l' h'=>?_⟩
   by_cases h2:l' < l
   ·rw[er2];exact List.mem_append_left _ (k3 l' h2)
   ·have:l'=l:=by omega
    subst this
    rw[hth'];exact addM_mem G t
  ·rintro ρ ⟨o2,o3,rfl,k1,k2,k3⟩
   rw[Int.toNat_natCast] at k1 k2 k3 ⊢
   obtain⟨r,er⟩:=growM_pre θ.g met[rows.length] met θ.n
   have hgl:=nodup_len k1 k2
   have hbf:∀ F,Bfs θ.g θ.n (growM θ.g met[rows.length] met θ.n) (rows.length+1) F→Bfs θ.g θ.n [θ.start] 0 F:=fun F h=>I.bf F (.step hlt h)
   generalize hGG:growM θ.g met[rows.length] met θ.n=G at k1 k2 k3 er hgl hbf ⊢
   walk_at "vi"
   refine bi_tupL (ds:=(rowN θ.g G met[rows.length] θ.n).map .int) (by exact oI_data _) (Kp.flat (noLsts_ints _)) ?_
   refine v_ap ?hz ?_
   case hz=>rw[List.length_map];omega
   walk_at "vs"
   refine len_L (ds:=G.map e) (by exact oE_data e G) ?_
   rw[List.length_map]
   walk_at "vs"
   have hum:=ok.um
   refine iteN (by omega) ?_
   walk_at "vi"
   have hmG:met.length≤G.length:=by rw[er,List.length_append];omega
   have sub:∀ x∈met,x∈G:=fun x hx=>by rw[er];exact List.mem_append_left _ hx
   have at':∀ j (h:j<G.length) (h':j<met.length),G[j]=met[j]:=fun j h h'=>by
    simp only[er]
    exact List.getElem_append_left h'
   refine⟨θ.U.length-(rows.length+1),by omega,G,rows++[rowN θ.g G met[rows.length] θ.n],some (oI (rowN θ.g G met[rows.length] θ.n)),o2,o3,?_,⟨k1,k2,fun j h hj l hl=>?_,fun F h=>?_,?_⟩,fun j h hj=>?_,by simp⟩
   ·show [_,_,_,_,_,_,some (AV.own ((rows.map fun x=>.d (tI x))++[.d (tI (rowN θ.g G met[rows.length] θ.n))])),_,_,_]=_
    rw[List.map_append]
    rfl
   ·rw[List.length_append] at hj
    by_cases h2:j<rows.length
    ·rw[at' j h (by omega)]
     exact sub _ (I.all j (by omega) h2 l hl)
    ·have:j=rows.length:=by simp at hj;omega
     subst this
     rw[at' rows.length h hlt]
     exact k3 l hl
   ·rw[List.length_append] at h
    exact hbf F h
   ·rw[List.length_append];simp;omega
   ·rw[List.length_append] at hj
    by_cases h2:j<rows.length
    ·rw[List.getElem?_append_left h2,at' j h (by omega),hrows j (by omega) h2]
     congr 1
     rw[er,rowN_pre fun l hl=>I.all j (by omega) h2 l hl]
    ·have:j=rows.length:=by simp at hj;omega
     subst this
     rw[List.getElem?_append_right (Nat.le_refl _),at' rows.length h hlt]
     simp
 ·have hge:met.length≤rows.length:=by
   have:¬ ((rows.length:Int)<met.length):=fun z=>h (decide_eq_true z)
   omega
  walk_at "vi"
  refine ev_tupB ?_
  walk_at "vi"
  refine bi_tupL (ds:=rows.map tI) (by exact (own_data rows fun x=>.d (tI x))) (Kp.flat (noLsts_map (fun x=>tI_flat x) rows)) ?_
  walk_at "vi"
  have hrl:rows.length=met.length:=by omega
  have er:rows=met.map fun a=>rowN θ.g met a θ.n:=by
   refine List.ext_getElem? fun j=>?_
   by_cases hj:j<met.length
   ·rw[hrows j hj (by omega),List.getElem?_map,List.getElem?_eq_getElem hj];rfl
   ·rw[List.getElem?_eq_none (by omega),List.getElem?_eq_none (by rw[List.length_map];omega)]
  refine⟨by walk_at "nrs",by show 2≤1000;decide,_,.inr ⟨NR.bor,rfl⟩,met,I.bf met (.done hge),I.nd,I.u,?_⟩
  show AV.d (.tuple [(oE e met).data,.tuple (rows.map tI)])=_
  rw[oE_data]
  unfold dMet
  rw[← er]
noncomputable def PreS{α:Type}(e:α→PyData)(θ:Th α)(cs:List AV):Prop:=∃ x:α,cs=[.d (e x)]∧x∈θ.U
noncomputable def PostS{α:Type}(e:α→PyData)(sg:α→Int)(cs:List AV)(c:AV):Prop:=∃ x:α,cs=[.d (e x)]∧c=.d (.int (sg x))
noncomputable def mMet{α:Type}[DecidableEq α](θ:Th α)(sg:α→Int)(F:List α):Mach:=⟨F.map fun a=>rowN θ.g F a θ.n,F.map sg⟩
noncomputable def Pre_mm{α:Type}(P:Program)(w:World)(K:W.Frag)(mg:Str→Option Value)(base:Heap)(e:α→PyData)(θ:Th α×(α→Int))(cs:List AV):Prop :=
 θ.1.Ok∧cs=[.d (e θ.1.start),.d (.int θ.1.n),.obj (CloOk P w K mg base (CXE P w) 1 (spR K (PreL e θ.1) (PostL e θ.1) NP)),.obj (CloOk P w K mg base (CXE P w) 1 (spR K (PreS e θ.1) (PostS e θ.2) NP)),.d (.int θ.1.m)]
noncomputable def Post_mm{α:Type}[DecidableEq α](θ:Th α×(α→Int))(_:List AV)(c:AV):Prop:=∃ F,Bfs θ.1.g θ.1.n [θ.1.start] 0 F∧F.Nodup∧(∀ x∈F,x∈θ.1.U)∧c=.d (dM (mMet θ.1 θ.2 F))
theorem ok_machine_met(T:Txt K mg){α:Type}[DecidableEq α]{e:α→PyData}(Fe:KEnc e)(hj:∀ a b,e a=e b→a=b)(hf:∀ x,noLst (e x)=true) :
  Cal P w K mg base (CXE P w) 3 "machine_met" ["start", "letters", "lead", "sign", "most"] [] (spF K (Pre_mm P w K mg base e) Post_mm):=by
 have c_met_from:Cal P w K mg base (CXE P w) 2 "met_from" ["start", "letters", "lead", "most"] [] (spF K (Pre_met P w K mg base e) (Post_met e)):=ok_met_from T Fe hj hf
 refine valRF T.x_machine_met sc_machine_met (fun θ cs ⟨_,e⟩=>by rw[e];rfl) (fun θ f cdv A outer s H E hr=>?_) [] (by simp)
 refine⟨_,(pss_cons (ps_set (i:=5) sc_machine_met.nd rfl (Or.inl rfl) (pe_cal (c_met_from.mono (by decide)) hr rfl passE (pa_cons (pv 0) (pa_cons (pv 1) (pa_cons (pv 2) (pa_cons (pv 4) pa_nil))))))
   (pss_one (ps_ret (pe_tup (pa_cons (pe_ix (ix_any (K:=K) rfl hr.units) (pv 5) pe_int (fun _ _=>rfl)) (pa_cons (pe_callTy (call_tupK (K:=K) rfl) rfl T.n_tuple PyProof.Rows.boot_tuple (pa_cons (pe_comp (N:=["thing", "sign"]) (cap:=[none,some 3]) rfl rfl rfl (by kernel_rfl) (pi_seq (K:=K) rfl (pe_ix (ix_any (K:=K) rfl hr.units) (pv 5) pe_int (fun _ _=>rfl))) (fun _ _ _ _=>(pg_name (i:=0) (show (["thing", "sign"]:List Str).Nodup from by decide +kernel) rfl (Or.inl rfl))) (fun _ _ _ _=>pifs_nil) (fun _ _ _ _=>(pe_callVK (CX:=(CXE P w)) (P:=P) (w:=w) (K:=K) (mg:=mg) (base:=base) (i:=1) (k:=1) rfl rfl rfl rfl rfl (hr.mono (by decide)) passE (pa_cons (pv 0) pa_nil)))) pa_nil)) pa_nil)))))),?_⟩
 rintro cs ⟨ok,rfl⟩
 obtain⟨θ,sg⟩:=θ
 show Sv K _ _ _ [some (.d (e θ.start)),some (.d (.int θ.n)),some (.obj (CloOk P w K mg base (CXE P w) 1 (spR K (PreL e θ) (PostL e θ) NP))),some (.obj (CloOk P w K mg base (CXE P w) 1 (spR K (PreS e θ) (PostS e sg) NP))),some (.d (.int θ.m)),none] _
 walk_at "vi"
 refine ev_rF0 ?_
 walk_at "vi"
 refine⟨θ,[.d (e θ.start),.d (.int θ.n),.obj _,.d (.int θ.m)],.cons (.d NR.av rfl) (.cons (.d NR.av rfl) (.cons .o (.cons (.d NR.av rfl) .nil))),⟨ok,rfl⟩,fun c ⟨F,h1,h2,h3,ec⟩=>?_,fun _ z=>z.elim⟩
 subst ec
 refine⟨_,Got.br,?_⟩
 have hu1:θ.U.length≤1000:=ok.u1
 have hFl:=nodup_len h2 h3
 refine v_sB (by repeat (first|exact NoOwn.nil|refine NoOwn.no ?_|refine NoOwn.d ?_|refine NoOwn.o ?_)) ?_
 show Sv K _ _ _ [some (.d (e θ.start)),some (.d (.int θ.n)),some (.obj (CloOk P w K mg base (CXE P w) 1 (spR K (PreL e θ) (PostL e θ) NP))),some (.obj (CloOk P w K mg base (CXE P w) 1 (spR K (PreS e θ) (PostS e sg) NP))),some (.d (.int θ.m)),some (.d (dMet e θ F))] _
 walk_at "vm"
 refine ev_tup ?_
 walk_at "vm"
 refine compR_L (α:=α) ?_
 walk_at "vm"
 refine⟨F,e,fun i ys=>ys=(F.take i).map fun x=>.d (.int (sg x)),.inl rfl,NR.av,by omega,rfl,fun i ys hi iy=>?_,fun ys iy=>?_⟩
 ·show Gv K _ _ [none,some (.obj (CloOk P w K mg base (CXE P w) 1 (spR K (PreS e θ) (PostS e sg) NP)))] _
  walk_at "vm"
  refine⟨wk_0,tv_allc ?_⟩
  refine ev_cv (i:=1) rfl ?_
  walk_at "vm"
  refine⟨[.d (e F[i])],.cons (.d NR.av rfl) .nil,⟨F[i],rfl,h3 _ (List.getElem_mem hi)⟩,fun c ⟨x,ee,ec⟩=>?_,fun _ z=>z.elim⟩
  simp only[List.append_nil,List.cons.injEq,AV.d.injEq,and_true] at ee
  have ex:=hj _ _ ee
  subst ex ec
  refine⟨_,Got.own rfl,_,rfl,?_⟩
  show ys++_=(F.take (i+1)).map _
  rw[show ys=(F.take i).map _ from iy,List.take_add_one,List.getElem?_eq_getElem hi,List.map_append]
  rfl
 ·have iy:ys=(F.take F.length).map fun x=>.d (.int (sg x)):=iy
  rw[List.take_length] at iy
  subst iy
  have eo:(AV.own (F.map fun x=>.d (.int (sg x))))=oI (F.map sg):=by rw[oI,List.map_map];rfl
  rw[eo]
  refine⟨_,Got.own (oI_clean _),?_⟩
  walk_at "vm"
  refine bi_tupL (ds:=(F.map sg).map .int) (by exact oI_data _) (Kp.flat (noLsts_ints _)) ?_
  walk_at "vm"
  refine⟨[.d (.tuple ((F.map fun a=>rowN θ.g F a θ.n).map tI)),.d (tI (F.map sg))],.cons rfl (.cons rfl .nil),by show 2≤1000;decide,_,res_d rfl,F,h1,h2,h3,rfl⟩
noncomputable def gW(W:List (Nat×PyData))(c:Nat)(l:Nat):Nat:=(wof W c).getD l 0
noncomputable def sW(G:List (Nat×PyData))(c:Nat):Int:=match getA G c with
 | some (.int s)=>s
 | _=>0
noncomputable def thW(W:List (Nat×PyData))(b:Int)(c0:Nat):Th Nat:=⟨c0,b.toNat,W.length,gW W,W.map Prod.fst⟩
theorem kc_inj{a b:Nat}(e:kc a=kc b):a=b:=t1_inj (PyData.str.inj e)
theorem encD_inj:∀ {W W':List (Nat×PyData)},encD kc W=encD kc W'→W=W'
 | [],[],_=>rfl
 | [],_::_,e=>by simp at e
 | _::_,[],e=>by simp at e
 | p::W,q::W',e=>by
  simp only[encD,List.map_cons,List.cons.injEq,Prod.mk.injEq] at e
  rw[encD_inj e.2,Prod.ext (kc_inj e.1.1) e.1.2]
theorem dW_inj{W W':List (Nat×PyData)}(e:dW W=dW W'):W=W':=encD_inj (PyData.dict.inj e)
section
variable{b:Int}{L:List Nat}{W G:List (Nat×PyData)}{c0:Nat}
theorem Gd.inU(h:Gd b L W G c0){c:Nat}:c∈W.map Prod.fst↔c∈L:=by
 constructor
 ·intro hc
  obtain⟨p,hp,rfl⟩:=List.mem_map.mp hc
  exact (h.w p hp).1
 ·intro hc
  obtain⟨v,hv⟩:=Option.isSome_iff_exists.mp (h.kw c hc)
  exact List.mem_map.mpr ⟨_,getA_mem hv,rfl⟩
theorem Gd.gW(h:Gd b L W G c0){c l:Nat}(hc:c∈L)(hl:l<b.toNat):K13.gW W c l∈L:=(h.nth hc (d:=(l:Int)) ⟨by omega,by have:=h.hb;omega⟩).2
theorem thW_ok(h:Gd b L W G c0):(thW W b c0).Ok:=by
 have hb:=h.hb
 have hl:=h.lw
 refine⟨h.inU.mpr h.hc,fun x hx l hl=>h.inU.mpr (h.gW (h.inU.mp hx) hl),?_,?_,?_⟩
 ·show ((W.map Prod.fst).length:Int)≤W.length
  rw[List.length_map];exact Int.le_refl _
 ·show b.toNat≤1000
  omega
 ·show (W.map Prod.fst).length≤1000
  rw[List.length_map];omega
theorem Gd.sW(h:Gd b L W G c0){c:Nat}(hc:c∈L):getA G c=some (.int (K13.sW G c))∧0≤K13.sW G c∧K13.sW G c≤9:=by
 obtain⟨s,e,h1⟩:=h.sg hc
 have es:K13.sW G c=s:=by unfold K13.sW;rw[e]
 rw[es]
 exact⟨e,h1⟩
end
noncomputable def Pre_rw(cs:List AV):Prop:=∃ (b:Int) (L:List Nat) (W G:List (Nat×PyData)) (c0:Nat),cs=[.d (dW W),.d (kc c0),.d (dW G)]∧Gd b L W G c0
noncomputable def Post_rw(cs:List AV)(c:AV):Prop:=∃ (b:Int) (L:List Nat) (W G:List (Nat×PyData)) (c0:Nat) (F:List Nat),cs=[.d (dW W),.d (kc c0),.d (dW G)]∧Gd b L W G c0∧Bfs (gW W) b.toNat [c0] 0 F∧F.Nodup∧(∀ x∈F,x∈L)∧c=.d (dM (mMet (thW W b c0) (sW G) F))
theorem ok_row_of_words(T:Txt K mg)(B:base.BuiltinsAt mg mainGlobals)(hTs:∀ p∈ts0,p∈Tabs.ts):Cal P w K mg base (CXE P w) 4 "row_of_words" ["words", "begin", "signs"] [] (spR K Pre_rw Post_rw NP):=by
 obtain⟨c0',T0⟩:=T.x_row_of_words
 have c_want_words:Cal P w K mg base (CXE P w) 3 "want_words" ["words", "begin", "signs"] [] (spV K S_ww NX):=ok_want_words T
 have c_machine_met:Cal P w K mg base (CXE P w) 3 "machine_met" ["start", "letters", "lead", "sign", "most"] [] (spF K (Pre_mm P w K mg base kc) Post_mm):=ok_machine_met T kenc (fun a b e=>kc_inj e) fun _=>rfl
 refine valRM (k:=3) T0 sc_row_of_words (fun cs ⟨b,L,W,G,c0,e,_⟩=>by rw[e];rfl) (fun f A outer s H E hr=>?_)
 refine⟨_,(pss_cons (ps_expr (pe_cal (c_want_words.mono (by decide)) hr rfl passE (pa_cons (pv 0) (pa_cons (pv 1) (pa_cons (pv 2) pa_nil)))))
   (pss_cons (ps_def (name := "lead") (qual := "row_of_words.<locals>.lead") (params:=defArgs s_row_of_words_lead) (body:=defBody s_row_of_words_lead) (scope:=defScope s_row_of_words_lead) (P:=tb_row_of_words) (i:=3) sc_row_of_words.nd rfl (Or.inl rfl) rfl rfl rfl rfl rfl T0.tab fr_row_of_words_lead B)
   (pss_cons (ps_def (name := "sign") (qual := "row_of_words.<locals>.sign") (params:=defArgs s_row_of_words_sign) (body:=defBody s_row_of_words_sign) (scope:=defScope s_row_of_words_sign) (P:=tb_row_of_words) (i:=4) sc_row_of_words.nd rfl (Or.inl rfl) rfl rfl rfl rfl rfl T0.tab fr_row_of_words_sign B)
   (pss_one (ps_ret (pe_calL (c_machine_met.mono (by decide)) hr rfl (passEL (E:=E0)) (pa_cons (pv 1) (pa_cons (pe_callB (call_lenAny (K:=K) rfl) rfl T.n_len PySem.boot_len (pa_cons (pe_ix (ix_any (K:=K) rfl hr.units) (pv 0) (pv 1) (fun _ _=>rfl)) pa_nil)) (pa_cons (pv 3) (pa_cons (pv 4) (pa_cons (pe_callB call_lenD rfl T.n_len PySem.boot_len (pa_cons (pv 0) pa_nil)) pa_nil))))))))))),?_⟩
 rintro cs ⟨b,L,W,G,c0,rfl,hg⟩
 show Sv K _ _ _ [some (.d (dW W)),some (.d (kc c0)),some (.d (dW G)),none,none] _
 have hb:=hg.hb
 obtain⟨h1,h2,h3⟩:=hg.at hg.hc
 have hz:∀ c,(tw (wof W c)).length=(wof W c).length:=fun c=>List.size_toArray
 walk_at "vm"
 refine use_ww NR.av NR.av NR.av rfl rfl rfl hg ?_
 walk_at "vm"
 refine sv_def (hTs (tb_row_of_words,qn_row_of_words) (by simp[ts0])) (by decide +kernel) (by show 3<5;decide) ?_
 show Sv K _ _ _ [some (.d (dW W)),some (.d (kc c0)),some (.d (dW G)),some (.obj _),none] _
 walk_at "vm"
 refine sv_def (hTs (tb_row_of_words,qn_row_of_words) (by simp[ts0])) (by decide +kernel) (by show 4<5;decide) ?_
 show Sv K _ _ _ [some (.d (dW W)),some (.d (kc c0)),some (.d (dW G)),some (.obj _),some (.obj _)] _
 walk_at "vm"
 refine ev_rFL0 ?_
 walk_at "vm"
 refine ix_dc kenc rfl rfl h1 Item.d ?_
 walk_at "vm"
 refine len_S rfl (by rw[hz];omega) ?_
 rw[hz]
 have hbn:(wof W c0).length=b.toNat:=by omega
 rw[hbn]
 walk_at "vm"
 refine bi_lenDS (kvs:=W.map fun p=>(t1 p.1,p.2)) (congrArg PyData.dict (encD_t1 W)) (fun e=>hg.wne (List.map_eq_nil_iff.mp e)) ?_
 rw[List.length_map]
 walk_at "vm"
 refine⟨(thW W b c0,sW G),[.d (kc c0),.d (.int (b.toNat:Nat)),.obj (CloOk P w K mg base (CXE P w) 1 (spR K (PreL kc (thW W b c0)) (PostL kc (thW W b c0)) NP)),.obj (CloOk P w K mg base (CXE P w) 1 (spR K (PreS kc (thW W b c0)) (PostS kc (sW G)) NP)),.d (.int W.length)],
  .cons (.d NR.av rfl) (.cons (.d NR.av rfl) (.cons (.o (fun v G1 G2 m h=>h.same m) fun H0 σ ts as H1 H2 v s L hm=>?lead) (.cons (.o (fun v G1 G2 m h=>h.same m) fun H0 σ ts as H1 H2 v s L hm=>?sign) (.cons (.d NR.av rfl) .nil)))),⟨thW_ok hg,rfl⟩,fun c ⟨F,g1,g2,g3,ec⟩=>?_⟩
 case lead =>
  refine clo_mk (k:=0) sc_row_of_words_lead cap_row_of_words_lead sc_row_of_words.nofree (fun _=>rfl) (fun _ _ _ _ _ s us hl=>by obtain⟨a,b,rfl⟩:=len2 hl;exact .of_eq rfl) (fun cs ⟨x,l,e,_⟩=>by rw[e];rfl) (fun cs ⟨x,l,e,_⟩=>by rw[e];rfl) hm L s fun cl f c A outer s H E hr=>?_
  refine⟨_,(pss_one (ps_ret (pe_ix (ix_any (K:=K) rfl hr.units) (pe_ix (ix_any (K:=K) rfl hr.units) (pv 2) (pv 0) (fun _ _=>rfl)) (pv 1) (fun _ _=>rfl)))),?_⟩
  rintro cs ⟨x,l,rfl,hx,hl⟩
  show Sv K _ _ _ [some (.d (kc x)),some (.d (.int l)),some (.d (dW W))] _
  have hx:=hg.inU.mp hx
  have hl:l<b.toNat:=hl
  obtain⟨k1,k2,k3⟩:=hg.at hx
  obtain⟨e1,e2⟩:=hg.nth hx (d:=(l:Int)) ⟨by omega,by omega⟩
  walk_at "vs"
  refine ix_dc kenc rfl rfl k1 Item.d ?_
  walk_at "vs"
  refine ix_S rfl (by rw[hz];omega) e1 ?_
  exact⟨_,res_d rfl,x,l,rfl,rfl⟩
 case sign =>
  refine clo_mk (k:=0) sc_row_of_words_sign cap_row_of_words_sign sc_row_of_words.nofree (fun _=>rfl) (fun _ _ _ _ _ s us hl=>by obtain⟨a,rfl⟩:=len1 hl;exact .of_eq rfl) (fun cs ⟨x,e,_⟩=>by rw[e];rfl) (fun cs ⟨x,e,_⟩=>by rw[e];rfl) hm L s fun cl f c A outer s H E hr=>?_
  refine⟨_,(pss_one (ps_ret (pe_ix (ix_any (K:=K) rfl hr.units) (pv 1) (pv 0) (fun _ _=>rfl)))),?_⟩
  rintro cs ⟨x,rfl,hx⟩
  show Sv K _ _ _ [some (.d (kc x)),some (.d (dW G))] _
  have hx:=hg.inU.mp hx
  walk_at "vs"
  refine ix_dc kenc rfl rfl (hg.sW hx).1 Item.d ?_
  exact⟨_,res_d rfl,x,rfl,rfl⟩
 subst ec
 refine⟨rfl,_,Got.own (dM_flat _),_,res_d rfl,b,L,W,G,c0,F,rfl,hg,g1,g2,fun x hx=>hg.inU.mp (g3 x hx),rfl⟩
theorem Gd.same{b b':Int}{L L':List Nat}{W G:List (Nat×PyData)}{c0:Nat}(h:Gd b L W G c0)(h':Gd b' L' W G c0):b=b':=by
 have:=(h.at h.hc).2.1
 have:=(h'.at h'.hc).2.1
 omega
theorem use_rw{Q:TV→Prop}{X:Exc→Prop}{b:Int}{L:List Nat}{W G:List (Nat×PyData)}{c0:Nat}(hg:Gd b L W G c0)(q:∀ F,Bfs (gW W) b.toNat [c0] 0 F→F.Nodup→(∀ x∈F,x∈L)→Q (.av (.d (dM (mMet (thW W b c0) (sW G) F))))):ClR Pre_rw Post_rw NP [] Q X [.av (.d (dW W)),.av (.d (kc c0)),.av (.d (dW G))] :=
 ⟨_,.cons (.d NR.av rfl) (.cons (.d NR.av rfl) (.cons (.d NR.av rfl) .nil)),⟨b,L,W,G,c0,rfl,hg⟩,fun _ ⟨b',L',W',G',c0',F,e,hg',h1,h2,h3,e2⟩=>by
  have e:[AV.d (dW W),AV.d (kc c0),AV.d (dW G)]=[.d (dW W'),.d (kc c0'),.d (dW G')]:=e
  simp only[List.cons.injEq,AV.d.injEq,and_true] at e
  have e1:=dW_inj e.1
  have e3:=kc_inj e.2.1
  have e4:=dW_inj e.2.2
  subst e1 e3 e4
  have eb:=hg.same hg'
  subst eb
  exact e2▸⟨_,Got.own (dM_flat _),q F h1 h2 fun x hx=>hg.inU.mp (hg'.inU.mpr (h3 x hx))⟩,fun _ z=>z.elim⟩
noncomputable def S_la(ds:List PyData)(c:AV):Prop:=∃ (b:Int) (L:List Nat) (W G:List (Nat×PyData)) (c0:Nat) (p:Int),ds=[dW W,kc c0,dW G,.int p]∧Gd b L W G c0∧(0≤p∧p.toNat<2 ^ 900)∧c=.d (kc (lat W c0 (figs b p)))
theorem ok_letter_at(T:Txt K mg):Cal P w K mg base (CXE P w) 4 "letter_at" ["words", "begin", "signs", "place"] [] (spV K S_la NX):=by
 have c_want_words:Cal P w K mg base (CXE P w) 3 "want_words" ["words", "begin", "signs"] [] (spV K S_ww NX):=ok_want_words T
 have c_figures_of:Cal P w K mg base (CXE P w) 2 "figures_of" ["place", "base"] [] (spV K S_figures_of NX):=ok_figures_of T [] (by simp)
 refine val T.x_letter_at sc_letter_at (fun ds c ⟨b,L,W,G,c0,p,e,_⟩=>by rw[e];rfl) (fun f cdv A outer s H E hr=>?_) [] (by simp)
 refine⟨_,(pss_cons (ps_expr (pe_cal (c_want_words.mono (by decide)) hr rfl passE (pa_cons (pv 0) (pa_cons (pv 1) (pa_cons (pv 2) pa_nil)))))
   (pss_cons (ps_set (i:=4) sc_letter_at.nd rfl (Or.inl rfl) (pv 1))
   (pss_cons (ps_for PassesOwn.never rfl (pi_seq (K:=K) rfl (pe_cal (c_figures_of.mono (by decide)) hr rfl passE (pa_cons (pv 3) (pa_cons (pe_callB (call_lenAny (K:=K) rfl) rfl T.n_len PySem.boot_len (pa_cons (pe_ix (ix_any (K:=K) rfl hr.units) (pv 0) (pv 1) (fun _ _=>rfl)) pa_nil)) pa_nil)))) (pg_name (i:=5) sc_letter_at.nd rfl (Or.inl rfl))
    (pss_one (ps_set (i:=4) sc_letter_at.nd rfl (Or.inl rfl) (pe_ix (ix_any (K:=K) rfl hr.units) (pe_ix (ix_any (K:=K) rfl hr.units) (pv 0) (pv 4) (fun _ _=>rfl)) (pv 5) (fun _ _=>rfl)))))
   (pss_one (ps_ret (pv 4)))))),?_⟩
 rintro ds c ⟨b,L,W,G,c0,p,rfl,hg,hp,rfl⟩
 have hb:=hg.hb
 obtain⟨h1,h2,h3⟩:=hg.at hg.hc
 have hz:∀ c,(tw (wof W c)).length=(wof W c).length:=fun c=>List.size_toArray
 have hin:∀ x∈figs b p,0≤x∧x<b:=fun x hx=>figs_in hb x hx
 show Sv K _ _ _ [some (.d (dW W)),some (.d (kc c0)),some (.d (dW G)),some (.d (.int p)),none,none] _
 walk_at "vi"
 refine use_ww NR.av NR.av NR.av rfl rfl rfl hg ?_
 walk_at "vi"
 refine for_L (α:=Int) ?_
 walk_at "vi"
 refine ix_dc kenc rfl rfl h1 Item.d ?_
 walk_at "vi"
 refine len_S rfl (by rw[hz];omega) ?_
 rw[hz,h2]
 walk_at "vi"
 refine use_figures_of hb hp.1 hp.2 ?_
 generalize figs b p=fs at hin
 refine⟨fs,PyData.int,.inl (oI_data _),⟨_,rfl⟩,fun i ρ=>∃ o,ρ=[some (.d (dW W)),some (.d (kc c0)),some (.d (dW G)),some (.d (.int p)),some (.d (kc (lat W c0 (fs.take i)))),o],⟨none,rfl⟩,?_,?_⟩
 ·rintro i ρ hi ⟨o,rfl⟩
  have hc:=hg.lat (ds:=fs.take i) fun d hd=>hin d (List.mem_of_mem_take hd)
  obtain⟨g1,g2,g3⟩:=hg.at hc
  obtain⟨e1,e2⟩:=hg.nth hc (hin _ (List.getElem_mem hi))
  walk_at "vi"
  refine ix_dc kenc rfl rfl g1 Item.d ?_
  walk_at "vi"
  refine ix_S rfl (by rw[hz];omega) e1 ?_
  walk_at "vi"
  refine⟨some (.d (.int fs[i])),?_⟩
  rw[List.take_add_one,List.getElem?_eq_getElem hi]
  show _=[_,_,_,_,some (AV.d (kc (lat W c0 (fs.take i++[fs[i]])))),_]
  rw[lat_snoc]
 ·rintro ρ ⟨o,rfl⟩
  rw[List.take_length]
  walk_at "vi"
  exact res_d rfl
theorem use_la{Q:TV→Prop}{b:Int}{L:List Nat}{W G:List (Nat×PyData)}{c0:Nat}{p:Int}{a1 a2 a3 a4:TV}(n1:NR a1)(n2:NR a2)(n3:NR a3)(n4:NR a4)(e1:a1.data=dW W)(e2:a2.data=kc c0)(e3:a3.data=dW G)(e4:a4.data=.int p)(hg:Gd b L W G c0)(hp:0≤p∧p.toNat<2 ^ 900)(q:Q (.av (.d (kc (lat W c0 (figs b p)))))):Cl S_la [] Q [a1,a2,a3,a4] :=
 call_of (.cons n1 (.cons n2 (.cons n3 (.cons n4 .nil)))) ⟨b,L,W,G,c0,p,by simp[e1,e2,e3,e4],hg,hp,rfl⟩ (Got.own rfl) q
theorem getA_nd{β:Type}{p:Nat×β}:∀ {l:List (Nat×β)},(l.map Prod.fst).Nodup→p∈l→getA l p.1=some p.2
 | q::l,hn,hp=>by
  rw[List.map_cons,List.nodup_cons] at hn
  rcases List.mem_cons.mp hp with e|e
  ·subst e;exact getA_pos rfl
  ·have hne:¬ q.1=p.1:=fun z=>hn.1 (z▸List.mem_map.mpr ⟨p,e,rfl⟩)
   rw[getA_neg hne]
   exact getA_nd hn.2 e
structure Lo(n:Nat)(W G:List (Nat×PyData))(c0:Nat):Prop where
 w:∀ p∈W,(97≤p.1∧p.1≤122)∧∃ w:List Nat,p.2=.str (tw w)∧w.length≤n∧∀ y∈w,97≤y∧y≤122
 g:∀ p∈G,∃ s:Int,p.2=.int s
 ne:W≠[]
 nd:(W.map Prod.fst).Nodup
 lw:W.length≤n
 lg:G.length≤n
 hc:97≤c0∧c0≤122
theorem ok_tw{w:List Nat}(h:∀ y∈w,97≤y∧y≤122):PyData.strOk (tw w)=true:=by
 unfold PyData.strOk
 rw[Array.all_eq_true]
 intro i hi
 have:=h (w[i]'(by simpa using hi)) (List.getElem_mem _)
 simp
 omega
theorem wof_none{W:List (Nat×PyData)}{c:Nat}(h:getA W c=none):wof W c=[]:=by unfold wof;rw[h]
theorem starts1(w:List Nat)(c:Nat):PySem.Txt.startswith (tw w) (t1 c)=decide (w.take 1=[c]):=by
 unfold PySem.Txt.startswith
 rw[PySem.StrLaws.subAt_eq]
 show (decide (0+1≤w.toArray.size) && ((w.drop 0).take 1 == [c]))=_
 cases w with
 | nil=>rfl
 | cons d w =>
  rw[decide_eq_true (by simp),Bool.true_and,List.drop_zero]
  show ([d] == [c])=decide ([d]=[c])
  by_cases e:d=c
  ·subst e;simp
  ·simp[e]
theorem slice_one{w:List Nat}(h:1≤w.length):PySem.Txt.slice (tw w) none (some 1)=tw (w.take 1):=by
 have hl:(tw w).length=w.length:=List.size_toArray
 have:=beq_iff_eq.mp (PyProof.Rows.slice_closes_toL (x:=tw w) (j:=1) (by decide) (by rw[hl];omega))
 rw[this]
 rfl
theorem slice_in(w:List Nat)(u:Option Int):∃ w':List Nat,PySem.Txt.slice (tw w) none u=tw w'∧w'.length≤w.length∧∀ y∈w',y∈w:=by
 have hl:(PySem.Txt.slice (tw w) none u).length≤w.length:=by have:=PySem.Txt.slice_le (tw w) none u;rwa [show (tw w).length=w.length from List.size_toArray] at this
 unfold PySem.Txt.slice at hl ⊢
 split at hl
 ·rename_i h
  rw[if_pos h]
  exact⟨w,rfl,Nat.le_refl _,fun y h=>h⟩
 ·rename_i h
  rw[if_neg h]
  refine⟨_,rfl,?_,fun y hy=>?_⟩
  ·have:(tw (List.filterMap (fun x=>(tw w).cps[x]?) (PySem.Builtin.Str.strSliceIndices none u 1 (tw w).length))).length≤w.length:=hl
   rwa [show ∀ z:List Nat,(tw z).length=z.length from fun z=>List.size_toArray] at this
  ·obtain⟨i,_,e⟩:=List.mem_filterMap.mp hy
   have e:w.toArray[i]?=some y:=e
   rw[List.getElem?_toArray] at e
   exact List.mem_of_getElem? e
section
variable{n:Nat}{W G:List (Nat×PyData)}{c0:Nat}
theorem Lo.at(h:Lo n W G c0){c:Nat}(hc:(getA W c).isSome=true):getA W c=some (.str (tw (wof W c)))∧(wof W c).length≤n∧∀ y∈wof W c,97≤y∧y≤122:=by
 obtain⟨v,hv⟩:=Option.isSome_iff_exists.mp hc
 obtain⟨_,w,e,h1,h2⟩:=h.w _ (getA_mem hv)
 have e:v=.str (tw w):=e
 subst e
 have ew:wof W c=w:=by unfold wof;rw[hv]
 rw[ew]
 exact⟨hv,h1,h2⟩
theorem Lo.le(h:Lo n W G c0)(c:Nat):(wof W c).length≤n∧∀ y∈wof W c,97≤y∧y≤122:=by
 cases hc:getA W c with
 | none=>rw[wof_none hc];exact⟨Nat.zero_le _,by simp⟩
 | some v=>exact (h.at (by rw[hc];rfl)).2
theorem Lo.getD(h:Lo n W G c0)(c:Nat):(getA W c).getD (.str (tw []))=.str (tw (wof W c)):=by
 cases hc:getA W c with
 | none=>rw[wof_none hc];rfl
 | some v=>rw[← hc,(h.at (by rw[hc];rfl)).1];rfl
theorem Lo.key(h:Lo n W G c0){c:Nat}(hc:c∈W.map Prod.fst):(getA W c).isSome=true∧97≤c∧c≤122:=by
 obtain⟨p,hp,rfl⟩:=List.mem_map.mp hc
 exact⟨getA_some hp,(h.w p hp).1⟩
theorem Lo.wfl(h:Lo n W G c0):noLsts (W.map Prod.snd)=true:=noLsts_mem fun x hx=>by
 obtain⟨p,hp,rfl⟩:=List.mem_map.mp hx
 obtain⟨_,w,e,_⟩:=h.w p hp
 rw[e];rfl
theorem Lo.gfl(h:Lo n W G c0):noLsts (G.map Prod.snd)=true:=noLsts_mem fun x hx=>by
 obtain⟨p,hp,rfl⟩:=List.mem_map.mp hx
 obtain⟨w,e⟩:=h.g p hp
 rw[e];rfl
theorem Lo.wsc(h:Lo n W G c0):∀ p∈W,scD p.2=true:=fun p hp=>by
 obtain⟨_,w,e,_⟩:=h.w p hp
 rw[e];rfl
theorem Lo.gsc(h:Lo n W G c0):∀ p∈G,scD p.2=true:=fun p hp=>by
 obtain⟨w,e⟩:=h.g p hp
 rw[e];rfl
end
noncomputable def sgO(G:List (Nat×PyData))(k:Nat):Bool:=match getA G k with
 | some (.int s)=>decide (0≤s∧s≤9)
 | _=>false
noncomputable def okB(W:List (Nat×PyData))(c0:Nat):Bool:=decide ((2≤(wof W c0).length∧(wof W c0).length≤5)∧(wof W c0).take 1=[c0])
noncomputable def okL(W:List (Nat×PyData))(c0 k:Nat):Bool:=decide ((wof W k).length=(wof W c0).length)
noncomputable def okW(W G:List (Nat×PyData))(k:Nat):Bool:=((wof W k).all fun y=>(getA W y).isSome) && sgO G k
noncomputable def flt(W G:List (Nat×PyData))(c0:Nat)(ks:List Nat):Option Nat:=if okB W c0=true then (ks.find? fun k=>!okL W c0 k).or (ks.find? fun k=>!okW W G k) else some c0
noncomputable def Srt(W:List (Nat×PyData))(ks:List Nat):Prop:=(ks.map t1).Perm (W.map fun p=>t1 p.1)∧PyProof.Rows.sortedS (ks.map t1)=true
theorem srt_pw:∀ {ks:List Nat},PyProof.Rows.sortedS (ks.map t1)=true→ks.Pairwise (·≤·)
 | [],_=>.nil
 | k::ks,h=>by
  have key:∀ (ks:List Nat) (p:Nat),PyProof.Rows.risingS (t1 p) (ks.map t1)=true→(p::ks).Pairwise (·≤·):=by
   intro ks
   induction ks with
   | nil=>intro p _;simp
   | cons x ks ih =>
    intro p h
    have h:(!PySem.Spec.ltCps [x] [p] && PyProof.Rows.risingS (t1 x) (ks.map t1))=true:=h
    rw[Bool.and_eq_true] at h
    have hx:p≤x:=by
     have h1:PySem.Spec.ltCps [x] [p]=false:=by simpa using h.1
     simp[PySem.Spec.ltCps] at h1
     omega
    have hp:=ih x h.2
    refine List.pairwise_cons.mpr ⟨fun y hy=>?_,hp⟩
    rcases List.mem_cons.mp hy with e|e
    ·rw[e];exact hx
    ·exact Nat.le_trans hx ((List.pairwise_cons.mp hp).1 y e)
  exact key ks k h
theorem map_cps(ks:List Nat):(ks.map t1).map (fun z=>z.cps.getD 0 0)=ks:=by
 rw[List.map_map]
 exact List.map_id'' (fun _=>rfl) _
theorem Srt.perm{W:List (Nat×PyData)}{ks:List Nat}(h:Srt W ks):ks.Perm (W.map Prod.fst):=by
 have:=h.1.map (fun z:Str=>z.cps.getD 0 0)
 rw[map_cps,List.map_map] at this
 exact this
theorem Srt.one{W:List (Nat×PyData)}{ks ls:List Nat}(h:Srt W ks)(g:Srt W ls):ks=ls :=
 List.Perm.eq_of_pairwise (le:=(·≤·)) (fun a b _ _ h1 h2=>Nat.le_antisymm h1 h2) (srt_pw h.2) (srt_pw g.2) (h.perm.trans g.perm.symm)
theorem srt_of{W:List (Nat×PyData)}{zs:List Str}(h:zs.Perm ((W.map fun p=>(t1 p.1,p.2)).map Prod.fst))(g:PyProof.Rows.sortedS zs=true):∃ ks:List Nat,zs=ks.map t1∧Srt W ks:=by
 have hz:∀ z∈zs,∃ k,z=t1 k:=fun z hz=>by
  have:=h.mem_iff.mp hz
  rw[List.map_map] at this
  obtain⟨p,hp,rfl⟩:=List.mem_map.mp this
  exact⟨p.1,rfl⟩
 have he:∃ ks:List Nat,zs=ks.map t1:=by
  clear h g
  induction zs with
  | nil=>exact⟨[],rfl⟩
  | cons z zs ih =>
   obtain⟨ks,e⟩:=ih fun x hx=>hz x (.tail _ hx)
   obtain⟨k,e1⟩:=hz z (.head _)
   exact⟨k::ks,by rw[e1,e];rfl⟩
 obtain⟨ks,rfl⟩:=he
 rw[List.map_map] at h
 exact⟨ks,rfl,h,g⟩
theorem find_at{p:Nat→Bool}:∀ {ks:List Nat} {i:Nat} (hi:i<ks.length),(∀ j (hj:j<i),p (ks[j]'(by omega))=false)→p ks[i]=true→ks.find? p=some ks[i]
 | k::ks,0,_,_,h=>by
  show (k::ks).find? p=some k
  rw[List.find?_cons,show p k=true from h]
 | k::ks,i+1,hi,g,h=>by
  have g0:p k=false:=g 0 (by omega)
  rw[List.find?_cons,g0]
  exact find_at (ks:=ks) (i:=i) (by simpa using hi) (fun j hj=>g (j+1) (by omega)) h
theorem find_no{p:Nat→Bool}{ks:List Nat}(h:∀ j (hj:j<ks.length),p ks[j]=false):ks.find? p=none:=by
 rw[List.find?_eq_none]
 intro x hx
 obtain⟨j,hj,rfl⟩:=List.getElem_of_mem hx
 rw[h j hj]
 exact Bool.false_ne_true
section
variable{n:Nat}{W G:List (Nat×PyData)}{c0:Nat}{ks:List Nat}
theorem flt_B(h:okB W c0=false):flt W G c0 ks=some c0:=by unfold flt;rw[h,if_neg Bool.false_ne_true]
theorem flt_L(h:okB W c0=true){i:Nat}(hi:i<ks.length)(g:∀ j (hj:j<i),okL W c0 (ks[j]'(by omega))=true)(b:okL W c0 ks[i]=false):flt W G c0 ks=some ks[i]:=by
 unfold flt
 rw[if_pos h,find_at hi (fun j hj=>by rw[g j hj];rfl) (by rw[b];rfl)]
 rfl
theorem flt_W(h:okB W c0=true)(hl:∀ j (hj:j<ks.length),okL W c0 ks[j]=true){i:Nat}(hi:i<ks.length)(g:∀ j (hj:j<i),okW W G (ks[j]'(by omega))=true)(b:okW W G ks[i]=false):flt W G c0 ks=some ks[i]:=by
 unfold flt
 rw[if_pos h,find_no (fun j hj=>by rw[hl j hj];rfl),find_at hi (fun j hj=>by rw[g j hj];rfl) (by rw[b];rfl)]
 rfl
theorem flt_0(h:okB W c0=true)(hl:∀ j (hj:j<ks.length),okL W c0 ks[j]=true)(hw:∀ j (hj:j<ks.length),okW W G ks[j]=true):flt W G c0 ks=none:=by
 unfold flt
 rw[if_pos h,find_no (fun j hj=>by rw[hl j hj];rfl),find_no (fun j hj=>by rw[hw j hj];rfl)]
 rfl
theorem flt_gd(h:Lo n W G c0)(hn:n≤20)(hs:Srt W ks)(hf:flt W G c0 ks=none):∃ b,Gd b (W.map Prod.fst) W G c0:=by
 have hB:okB W c0=true:=by
  cases hb:okB W c0 with
  | true=>rfl
  | false=>rw[flt_B hb] at hf;cases hf
 unfold flt at hf
 rw[if_pos hB,Option.or_eq_none_iff] at hf
 have hL:∀ k∈W.map Prod.fst,okL W c0 k=true:=fun k hk=>by
  have:=List.find?_eq_none.mp hf.1 k (hs.perm.mem_iff.mpr hk)
  simpa using this
 have hW:∀ k∈W.map Prod.fst,okW W G k=true:=fun k hk=>by
  have:=List.find?_eq_none.mp hf.2 k (hs.perm.mem_iff.mpr hk)
  simpa using this
 obtain⟨⟨h2,h5⟩,h1⟩:=of_decide_eq_true hB
 have hc0:(getA W c0).isSome=true:=by
  cases hc:getA W c0 with
  | some v=>rfl
  | none=>rw[wof_none hc] at h2;simp at h2
 have hkg:∀ c∈W.map Prod.fst,∃ s:Int,getA G c=some (.int s)∧0≤s∧s≤9:=fun c hc=>by
  have h1:=hW c hc
  unfold okW at h1
  rw[Bool.and_eq_true] at h1
  have h2:=h1.2
  unfold sgO at h2
  split at h2
  ·rename_i s e
   exact⟨s,e,of_decide_eq_true h2⟩
  ·cases h2
 have hkey:∀ {c:Nat},(getA W c).isSome=true→c∈W.map Prod.fst:=fun {c} hc=>by
  obtain⟨v,hv⟩:=Option.isSome_iff_exists.mp hc
  exact List.mem_map.mpr ⟨_,getA_mem hv,rfl⟩
 refine⟨((wof W c0).length:Nat),⟨by omega,by omega⟩,fun c hc=>(h.key hc).2,fun p hp=>?_,h.g,fun c hc=>(h.key hc).1,hkg,by have:=h.lw;omega,hkey hc0,?_⟩
 ·have hk:p.1∈W.map Prod.fst:=List.mem_map.mpr ⟨p,hp,rfl⟩
  refine⟨hk,wof W p.1,?_,?_,fun y hy=>?_⟩
  ·have e1:=(h.at (h.key hk).1).1
   have e2:getA W p.1=some p.2:=getA_nd h.nd hp
   rw[e2] at e1
   exact Option.some.inj e1
  ·have:=of_decide_eq_true (hL _ hk)
   omega
  ·have h1:=hW _ hk
   unfold okW at h1
   rw[Bool.and_eq_true] at h1
   exact hkey (List.all_eq_true.mp h1.1 y hy)
 ·have e1:=(h.at hc0).1
  cases hw:wof W c0 with
  | nil=>rw[hw] at h2;simp at h2
  | cons d r =>
   rw[hw] at h1 e1
   have e:d=c0:=by simpa using h1
   subst e
   exact⟨tw r,by rw[t1_app];exact e1⟩
end
noncomputable def S_ibg(ds:List PyData)(c:AV):Prop:=∃ (n:Nat) (W G:List (Nat×PyData)) (c0:Nat),ds=[dW W,kc c0]∧Lo n W G c0∧n≤20∧c=.d (.bool (okB W c0))
theorem okg_is_beginning(T:Txt K mg):Cal P w K mg base (CXE P w) 1 "is_beginning" ["words", "begin"] [] (spV K S_ibg NX):=by
 refine val T.x_is_beginning sc_is_beginning (fun ds c ⟨n,W,G,c0,e,_⟩=>by rw[e];rfl) (fun f cdv A outer s H E hr=>?_) [] (by simp)
 refine⟨_,(pss_cons (ps_if (pt_cmpR (op_notInA (K:=K) rfl hr.units) (pv 1) (pv 0) (by with_unfolding_all rfl))
    (pss_one (ps_ret pe_bl))
    pss_nil)
   (pss_cons (ps_set (i:=2) sc_is_beginning.nd rfl (Or.inl rfl) (pe_ix (ix_any (K:=K) rfl hr.units) (pv 0) (pv 1) (fun _ _=>rfl)))
   (pss_one (ps_ret (pe_and (pe_cmpR op_le (pe_cst T.g_SHORTEST_WORD rfl) (pe_callB (call_lenAny (K:=K) rfl) rfl T.n_len PySem.boot_len (pa_cons (pv 2) pa_nil)) (nomark _)) (pe_and (pe_cmpR op_le (pe_callB (call_lenAny (K:=K) rfl) rfl T.n_len PySem.boot_len (pa_cons (pv 2) pa_nil)) (pe_cst T.g_LONGEST_WORD rfl) (nomark _)) (pe_one (pe_bmK (K:=K) rfl PySem.F.plainAttrs_str PySem.F.slot_str_startswith PySem.F.type_str_startswith mt_startswith (pv 2) (pa_cons (pv 1) pa_nil))))))))),?_⟩
 rintro ds c ⟨n,W,G,c0,rfl,hg,hn,rfl⟩
 show Sv K _ _ _ [some (.d (dW W)),some (.d (kc c0)),none] _
 walk_at "vs"
 refine nin_dc kenc rfl rfl ?_
 cases hc:(getA W c0).isSome with
 | false =>
  walk_at "vs"
  have e:wof W c0=[]:=wof_none (by simpa using hc)
  refine res_d ?_
  unfold okB
  rw[e]
  rfl
 | true =>
  obtain⟨h1,h2,h3⟩:=hg.at hc
  have hz:(tw (wof W c0)).length=(wof W c0).length:=List.size_toArray
  walk_at "vs"
  refine ix_dc kenc rfl rfl h1 Item.d ?_
  walk_at "vs"
  refine len_S rfl (by omega) ?_
  rw[hz]
  walk_at "vs"
  refine ite2 (fun h=>?_) fun h=>?_
  case refine_2=>exact res_d (congrArg (fun b=>AV.d (.bool b)) (show okB W c0=false from decide_eq_false fun z=>h (decide_eq_true (by have:=z.1.1;omega))))
  have h:=of_decide_eq_true h
  walk_at "vs"
  refine len_S rfl (by omega) ?_
  rw[hz]
  walk_at "vs"
  refine ite2 (fun h'=>?_) fun h'=>?_
  case refine_2=>exact res_d (congrArg (fun b=>AV.d (.bool b)) (show okB W c0=false from decide_eq_false fun z=>h' (decide_eq_true (by have:=z.1.2;omega))))
  have h':=of_decide_eq_true h'
  walk_at "vs"
  refine ev_starts ?_
  walk_at "vs"
  refine⟨tw (wof W c0),rfl,NR.av,?_⟩
  walk_at "vs"
  refine⟨t1 c0,rfl,NR.av,?_⟩
  rw[starts1]
  exact res_d (congrArg (fun b=>AV.d (.bool b)) (show okB W c0=_ from decide_eq_decide.mpr ⟨fun z=>z.2,fun z=>⟨⟨by omega,by omega⟩,z⟩⟩))
theorem use_ibg{Q:TV→Prop}{n:Nat}{W G:List (Nat×PyData)}{c0:Nat}(hg:Lo n W G c0)(hn:n≤20)(q:Q (.av (.d (.bool (okB W c0))))):Cl S_ibg [] Q [.av (.d (dW W)),.av (.d (kc c0))]:=call_of (by walk_at "nrs") ⟨n,W,G,c0,rfl,hg,hn,rfl⟩ (Got.own rfl) q
theorem all_W{E:FK}{X:Exc→Sl→Prop}{n:Nat}{W G:List (Nat×PyData)}{c0 k:Nat}(hg:Lo n W G c0)(hn:n≤20)(hk:(getA W k).isSome=true) :
  (tw (wof W k)).cps.all (· < 128)=true∧(tw (wof W k)).length=(wof W k).length∧((List.range (tw (wof W k)).length).map fun i=>(getA W ((tw (wof W k)).cps.getD i 0)).isSome).all id=(wof W k).all fun y=>(getA W y).isSome:=by
 obtain⟨h1,h2,h3⟩:=hg.at hk
 have hz:(tw (wof W k)).length=(wof W k).length:=List.size_toArray
 refine⟨?_,hz,?_⟩
 ·rw[Array.all_eq_true]
  intro i hi
  have:=h3 ((wof W k)[i]'(by simpa using hi)) (List.getElem_mem _)
  simp
  omega
 ·rw[hz]
  have key:(List.range (wof W k).length).map (fun i=>(getA W ((tw (wof W k)).cps.getD i 0)).isSome)=(wof W k).map fun y=>(getA W y).isSome:=by
   refine List.ext_getElem (by simp) fun i h1 h2=>?_
   have hi:i<(wof W k).length:=by simpa using h2
   rw[List.getElem_map,List.getElem_map,List.getElem_range]
   have e:(tw (wof W k)).cps.getD i 0=(wof W k)[i]:=by
    show (wof W k).toArray.getD i 0=_
    rw[Array.getD_eq_getD_getElem?,List.getElem?_toArray,List.getElem?_eq_getElem hi];rfl
   rw[e]
  rw[key,List.all_map]
  rfl
noncomputable def S_iwg(ds:List PyData)(c:AV):Prop:=∃ (n:Nat) (W G:List (Nat×PyData)) (c0 k:Nat),ds=[dW W,dW G,kc k]∧Lo n W G c0∧n≤20∧(getA W k).isSome=true∧c=.d (.bool (okW W G k))
theorem okg_is_whole(T:Txt K mg):Cal P w K mg base (CXE P w) 2 "is_whole" ["words", "signs", "letter"] [] (spV K S_iwg NX):=by
 have c_is_sign:Cal P w K mg base (CXE P w) 1 "is_sign" ["sign"] [] (spV K S_is NX):=ok_is_sign T
 refine val T.x_is_whole sc_is_whole (fun ds c ⟨n,W,G,c0,k,e,_⟩=>by rw[e];rfl) (fun f cdv A outer s H E hr=>?_) [] (by simp)
 refine⟨_,(pss_cons (ps_if (pt_not (pt_val (pe_callB (call_allB (K:=K) rfl rfl) rfl T.n_all PyProof.Rows.boot_all (pa_cons (pe_comp (N:=["other", "words"]) (cap:=[none,some 0]) rfl rfl rfl (by kernel_rfl) (pi_str (pe_ix (ix_any (K:=K) rfl hr.units) (pv 0) (pv 2) (fun _ _=>rfl))) (fun _ _ _ _=>(pg_name (i:=0) (show (["other", "words"]:List Str).Nodup from by decide +kernel) rfl (Or.inl rfl))) (fun _ _ _ _=>pifs_nil) (fun _ _ _ _=>(pe_cmpR (op_inA (K:=K) rfl hr.units) (pv 0) (pv 1) (by with_unfolding_all rfl)))) pa_nil))))
    (pss_one (ps_ret pe_bl))
    pss_nil)
   (pss_one (ps_ret (pe_and (pe_cmpR (op_inA (K:=K) rfl hr.units) (pv 2) (pv 1) (by with_unfolding_all rfl)) (pe_one (pe_cal (c_is_sign.mono (by decide)) hr rfl passE (pa_cons (pe_ix (ix_any (K:=K) rfl hr.units) (pv 1) (pv 2) (fun _ _=>rfl)) pa_nil))))))),?_⟩
 rintro ds c ⟨n,W,G,c0,k,rfl,hg,hn,hk,rfl⟩
 obtain⟨h1,h2,h3⟩:=hg.at hk
 obtain⟨a1,hz,a2⟩:=all_W (E:=toF E) (X:=NE) hg hn hk
 show Sv K _ _ _ [some (.d (dW W)),some (.d (dW G)),some (.d (kc k))] _
 walk_at "vs"
 refine comp_S ?_
 walk_at "vs"
 refine ix_dc kenc rfl rfl h1 Item.d ?_
 refine⟨tw (wof W k),fun i=>.d (.bool (getA W ((tw (wof W k)).cps.getD i 0)).isSome),rfl,NR.av,a1,by omega,fun i hi=>?_,_,Got.own (clean_map fun _=>rfl),?_⟩
 ·show Gv K _ _ [none,some (.d (dW W))] _
  walk_at "vs"
  refine⟨wk_0,?_⟩
  walk_at "vs"
  refine in_dc (c:=(tw (wof W k)).cps.getD i 0) kenc rfl rfl ?_
  rfl
 walk_at "vs"
 refine bi_all (cs:=(List.range (tw (wof W k)).length).map fun i=>(getA W ((tw (wof W k)).cps.getD i 0)).isSome) (by rw[TV.data,AV.data,datas_mapd,List.map_map];rfl) ?_
 rw[a2]
 unfold okW
 cases ha:(wof W k).all fun y=>(getA W y).isSome with
 | false =>
  walk_at "vs"
  exact res_d rfl
 | true =>
  walk_at "vs"
  refine in_dc (c:=k) kenc rfl rfl ?_
  cases hs0:(getA G k).isSome with
  | false =>
   have hs:getA G k=none:=by simpa using hs0
   walk_at "vs"
   refine res_d ?_
   unfold sgO
   rw[hs]
   rfl
  | true =>
   obtain⟨v,hs⟩:=Option.isSome_iff_exists.mp hs0
   obtain⟨s,e⟩:=hg.g _ (getA_mem hs)
   have e:v=.int s:=e
   subst e
   walk_at "vs"
   refine ix_dc kenc rfl rfl hs Item.d ?_
   walk_at "vs"
   refine call_of (by walk_at "nrs") ⟨s,rfl,rfl⟩ (Got.own rfl) ?_
   refine res_d ?_
   unfold sgO
   rw[hs]
   rfl
theorem use_iwg{Q:TV→Prop}{n:Nat}{W G:List (Nat×PyData)}{c0 k:Nat}(hg:Lo n W G c0)(hn:n≤20)(hk:(getA W k).isSome=true)(q:Q (.av (.d (.bool (okW W G k))))):Cl S_iwg [] Q [.av (.d (dW W)),.av (.d (dW G)),.av (.d (kc k))]:=call_of (by walk_at "nrs") ⟨n,W,G,c0,k,rfl,hg,hn,hk,rfl⟩ (Got.own rfl) q
noncomputable def exW(C:Addr)(k:Nat):Exc:=⟨C,[("letter",kc k)]⟩
noncomputable def Bad(W G:List (Nat×PyData))(c0 k:Nat):Prop:=∃ (n:Nat) (ks:List Nat),Lo n W G c0∧n≤20∧Srt W ks∧flt W G c0 ks=some k
noncomputable def X_ww(C:Addr)(ds:List PyData)(e:Exc):Prop:=∃ (W G:List (Nat×PyData)) (c0 k:Nat),ds=[dW W,kc c0,dW G]∧Bad W G c0 k∧e=exW C k
section
variable{C_WheelError C_NoBase C_TooGreat C_NoMachine C_NoText C_NoWords:Addr}
theorem ini(Z:Cs K mg C_WheelError C_NoBase C_TooGreat C_NoMachine C_NoText C_NoWords):∃ fI fd,ExcI K C_NoWords [.type "ValueError",.type "Exception",.type "BaseException",.type "object"] "ValueError.__new__" fI∧FnOk P w K mg base (CXE P w) 1 fI fd ["self", "letter"] (spInit C_NoWords ["letter"])∧Binds K fd ["self", "letter"] []:=by
 obtain⟨fI,fd,x,F,b⟩:=Z.ix_NoWords
 exact⟨fI,fd,x,init1 F sc_NoWords_init fun cdv A outer s H E=>(pss_one (ps_xset Z.es1 (pv 0) (pv 1) rfl)),b⟩
theorem okx_want_words(T:Txt K mg)(Z:Cs K mg C_WheelError C_NoBase C_TooGreat C_NoMachine C_NoText C_NoWords):Cal P w K mg base (CXE P w) 3 "want_words" ["words", "begin", "signs"] [] (spV K NS (X_ww C_NoWords)):=by
 obtain⟨fI,fdI,x_NoWords,i_NoWords,b_NoWords⟩:=ini (P:=P) (w:=w) (base:=base) Z
 have c_is_beginning:Cal P w K mg base (CXE P w) 1 "is_beginning" ["words", "begin"] [] (spV K S_ibg NX):=okg_is_beginning T
 have c_is_whole:Cal P w K mg base (CXE P w) 2 "is_whole" ["words", "signs", "letter"] [] (spV K S_iwg NX):=okg_is_whole T
 refine valX T.x_want_words sc_want_words (fun ds e ⟨W,G,c0,k,e,_⟩=>by rw[e];rfl) (fun f cdv A outer s H E hr=>?_) [] (by simp)
 refine⟨_,(pss_cons (ps_if (pt_not (pt_val (pe_cal (c_is_beginning.mono (by decide)) hr rfl passE (pa_cons (pv 0) (pa_cons (pv 1) pa_nil)))))
    (pss_one (ps_raiseI PySem.F.excBase_ValueError rfl PySem.F.excBase_ValueError x_NoWords rfl rfl Z.c_NoWords i_NoWords (hr.mono (by decide)) b_NoWords (pa_cons (pv 1) pa_nil)))
    pss_nil)
   (pss_cons (ps_set (i:=3) sc_want_words.nd rfl (Or.inl rfl) (pe_callB (call_sortD rfl) rfl T.n_sorted PyProof.Rows.boot_sorted (pa_cons (pv 0) pa_nil)))
   (pss_cons (ps_for (passes_XE rfl rfl) rfl (pi_seq (K:=K) rfl (pv 3)) (pg_name (i:=4) sc_want_words.nd rfl (Or.inl rfl))
    (pss_one (ps_if (pt_cmpR (op_neq (K:=K) rfl hr.units) (pe_callB (call_lenAny (K:=K) rfl) rfl T.n_len PySem.boot_len (pa_cons (pe_ix (ix_any (K:=K) rfl hr.units) (pv 0) (pv 4) (fun _ _=>rfl)) pa_nil)) (pe_callB (call_lenAny (K:=K) rfl) rfl T.n_len PySem.boot_len (pa_cons (pe_ix (ix_any (K:=K) rfl hr.units) (pv 0) (pv 1) (fun _ _=>rfl)) pa_nil)) (nomark _))
     (pss_one (ps_raiseI PySem.F.excBase_ValueError rfl PySem.F.excBase_ValueError x_NoWords rfl rfl Z.c_NoWords i_NoWords (hr.mono (by decide)) b_NoWords (pa_cons (pv 4) pa_nil)))
     pss_nil)))
   (pss_one (ps_for (passes_XE rfl rfl) rfl (pi_seq (K:=K) rfl (pv 3)) (pg_name (i:=4) sc_want_words.nd rfl (Or.inl rfl))
    (pss_one (ps_if (pt_not (pt_val (pe_cal (c_is_whole.mono (by decide)) hr rfl passE (pa_cons (pv 0) (pa_cons (pv 2) (pa_cons (pv 4) pa_nil))))))
     (pss_one (ps_raiseI PySem.F.excBase_ValueError rfl PySem.F.excBase_ValueError x_NoWords rfl rfl Z.c_NoWords i_NoWords (hr.mono (by decide)) b_NoWords (pa_cons (pv 4) pa_nil)))
     pss_nil))))))),?_⟩
 rintro ds e ⟨W,G,c0,k,rfl,⟨n,ks,hg,hn,hs,hf⟩,rfl⟩
 have hlw:=hg.lw
 show Sv K _ _ _ [some (.d (dW W)),some (.d (kc c0)),some (.d (dW G)),none,none] _
 walk_at "vs"
 refine use_ibg hg hn ?_
 cases hB:okB W c0 with
 | false =>
  rw[flt_B hB] at hf
  cases hf
  walk_at "vs"
  refine sv_raiseI ?_
  walk_at "vs"
  exact⟨by walk_at "nrs",rfl,by show 1≤1000;decide,rfl⟩
 | true =>
  walk_at "vs"
  refine bi_sortD (kvs:=W.map fun p=>(t1 p.1,p.2)) (congrArg PyData.dict (encD_t1 W)) (fun e=>hg.ne (List.map_eq_nil_iff.mp e)) (by rw[List.length_map];omega) fun zs hp hp2=>?_
  obtain⟨ls,rfl,hls⟩:=srt_of hp hp2
  cases hls.one hs
  have hmem:∀ j (hj:j<ks.length),(getA W ks[j]).isSome=true:=fun j hj=>(hg.key (hs.perm.mem_iff.mp (List.getElem_mem hj))).1
  have hB2:=(of_decide_eq_true hB).1
  have hc0:(getA W c0).isSome=true:=by
   cases hc:getA W c0 with
   | some v=>rfl
   | none=>rw[wof_none hc] at hB2;simp at hB2
  obtain⟨g1,g2,g3⟩:=hg.at hc0
  have hz:∀ c,(tw (wof W c)).length=(wof W c).length:=fun c=>List.size_toArray
  refine v_sD (x:=.list (ks.map kc)) (by rw[AV.data,datas_mapd,List.map_map];rfl) ?_
  walk_at "vs"
  refine for_L (α:=Nat) ?_
  walk_at "vs"
  refine⟨ks,kc,.inl rfl,⟨_,rfl⟩,fun i ρ=>∃ o,ρ=[some (.d (dW W)),some (.d (kc c0)),some (.d (dW G)),some (.d (.list (ks.map kc))),o]∧∀ j (hj:j<ks.length),j<i→okL W c0 ks[j]=true,⟨none,rfl,fun j _ hj=>by omega⟩,?_,?_⟩
  ·rintro i ρ hi ⟨o,rfl,hl⟩
   obtain⟨h1,h2,h3⟩:=hg.at (hmem i hi)
   walk_at "vs"
   refine ix_dc kenc rfl rfl h1 Item.d ?_
   walk_at "vs"
   refine len_S rfl (by rw[hz];omega) ?_
   walk_at "vs"
   refine ix_dc kenc rfl rfl g1 Item.d ?_
   walk_at "vs"
   refine len_S rfl (by rw[hz];omega) ?_
   walk_at "vs"
   rw[hz,hz]
   cases hL:okL W c0 ks[i] with
   | true =>
    have:=of_decide_eq_true hL
    rw[decide_eq_true (show ((wof W ks[i]).length:Int)=(wof W c0).length by omega)]
    walk_at "vs"
    refine⟨_,rfl,fun j hj hji=>?_⟩
    by_cases e:j=i
    ·subst e;exact hL
    ·exact hl j hj (by omega)
   | false =>
    have:=of_decide_eq_false hL
    rw[decide_eq_false (show ¬ ((wof W ks[i]).length:Int)=(wof W c0).length by omega)]
    rw[flt_L hB hi (fun j hj=>hl j (by omega) hj) hL] at hf
    cases hf
    walk_at "vs"
    refine sv_raiseI ?_
    walk_at "vs"
    exact⟨by walk_at "nrs",rfl,by show 1≤1000;decide,rfl⟩
  rintro ρ ⟨o,rfl,hl⟩
  have hl:∀ j (hj:j<ks.length),okL W c0 ks[j]=true:=fun j hj=>hl j hj hj
  walk_at "vs"
  refine for_L (α:=Nat) ?_
  walk_at "vs"
  refine⟨ks,kc,.inl rfl,⟨_,rfl⟩,fun i ρ=>∃ o,ρ=[some (.d (dW W)),some (.d (kc c0)),some (.d (dW G)),some (.d (.list (ks.map kc))),o]∧∀ j (hj:j<ks.length),j<i→okW W G ks[j]=true,⟨o,rfl,fun j _ hj=>by omega⟩,?_,?_⟩
  ·rintro i ρ hi ⟨o,rfl,hw⟩
   walk_at "vs"
   refine use_iwg hg hn (hmem i hi) ?_
   cases hW:okW W G ks[i] with
   | true =>
    walk_at "vs"
    refine⟨_,rfl,fun j hj hji=>?_⟩
    by_cases e:j=i
    ·subst e;exact hW
    ·exact hw j hj (by omega)
   | false =>
    rw[flt_W hB hl hi (fun j hj=>hw j (by omega) hj) hW] at hf
    cases hf
    walk_at "vs"
    refine sv_raiseI ?_
    walk_at "vs"
    exact⟨by walk_at "nrs",rfl,by show 1≤1000;decide,rfl⟩
  rintro ρ ⟨o,rfl,hw⟩
  rw[flt_0 hB hl fun j hj=>hw j hj hj] at hf
  cases hf
end
noncomputable def X_la(C:Addr)(ds:List PyData)(e:Exc):Prop:=∃ (W G:List (Nat×PyData)) (c0 k:Nat) (p:Int),ds=[dW W,kc c0,dW G,.int p]∧Bad W G c0 k∧e=exW C k
noncomputable def Pre_rx(cs:List AV):Prop:=∃ (W G:List (Nat×PyData)) (c0 k:Nat),cs=[.d (dW W),.d (kc c0),.d (dW G)]∧Bad W G c0 k
noncomputable def PX_rx(C:Addr)(cs:List AV)(e:Exc):Prop:=∃ (W G:List (Nat×PyData)) (c0 k:Nat),cs=[.d (dW W),.d (kc c0),.d (dW G)]∧Bad W G c0 k∧e=exW C k
noncomputable def X_ak(C:Addr)(ds:List PyData)(e:Exc):Prop:=∃ (y:Int) (W G:List (Nat×PyData)) (c0 k:Nat),ds=[.int y,dW W,kc c0,dW G]∧Bad W G c0 k∧e=exW C k
theorem Bad.one{W G:List (Nat×PyData)}{c0 k l:Nat}(h:Bad W G c0 k)(g:Bad W G c0 l):k=l:=by
 obtain⟨n,ks,_,_,h3,h4⟩:=h
 obtain⟨m,ls,_,_,g3,g4⟩:=g
 cases h3.one g3
 rw[h4] at g4
 exact Option.some.inj g4
theorem Bad.lo{W G:List (Nat×PyData)}{c0 k:Nat}(h:Bad W G c0 k):97≤k∧k≤122:=by
 obtain⟨n,ks,h1,h2,h3,h4⟩:=h
 have hk:∀ {p:Nat→Bool},ks.find? p=some k→97≤k∧k≤122:=fun h=>(h1.key (h3.perm.mem_iff.mp (List.mem_of_find?_eq_some h))).2
 unfold flt at h4
 split at h4
 ·cases hf:ks.find? (fun k=>!okL W c0 k) with
  | some x =>
   rw[hf] at h4
   cases h4
   exact hk hf
  | none =>
   rw[hf] at h4
   exact hk h4
 ·cases h4
  exact h1.hc
section
variable{C_WheelError C_NoBase C_TooGreat C_NoMachine C_NoText C_NoWords:Addr}
theorem okx_letter_at(T:Txt K mg)(Z:Cs K mg C_WheelError C_NoBase C_TooGreat C_NoMachine C_NoText C_NoWords):Cal P w K mg base (CXE P w) 4 "letter_at" ["words", "begin", "signs", "place"] [] (spV K NS (X_la C_NoWords)):=by
 have c_want_words_x:Cal P w K mg base (CXE P w) 3 "want_words" ["words", "begin", "signs"] [] (spV K NS (X_ww C_NoWords)):=okx_want_words T Z
 refine valX T.x_letter_at sc_letter_at (fun ds c ⟨W,G,c0,k,p,e,_⟩=>by rw[e];rfl) (fun f cdv A outer s H E hr=>?_) [] (by simp)
 refine⟨_,(pss_cons (ps_expr (pe_calX (c_want_words_x.mono (by decide)) hr rfl (pa_cons (pv 0) (pa_cons (pv 1) (pa_cons (pv 2) pa_nil)))))
   pss_never),?_⟩
 rintro ds e ⟨W,G,c0,k,p,rfl,hb,rfl⟩
 show Sv K _ _ _ [some (.d (dW W)),some (.d (kc c0)),some (.d (dW G)),some (.d (.int p)),none,none] _
 walk_at "vs"
 exact⟨by walk_at "nrs",_,⟨W,G,c0,k,rfl,hb,rfl⟩,rfl⟩
theorem okx_grown(T:Txt K mg)(Z:Cs K mg C_WheelError C_NoBase C_TooGreat C_NoMachine C_NoText C_NoWords):Cal P w K mg base (CXE P w) 4 "grown" ["words", "begin", "signs", "many"] [] (spV K NS (X_la C_NoWords)):=by
 have c_want_words_x:Cal P w K mg base (CXE P w) 3 "want_words" ["words", "begin", "signs"] [] (spV K NS (X_ww C_NoWords)):=okx_want_words T Z
 refine valX T.x_grown sc_grown (fun ds c ⟨W,G,c0,k,p,e,_⟩=>by rw[e];rfl) (fun f cdv A outer s H E hr=>?_) [] (by simp)
 refine⟨_,(pss_cons (ps_expr (pe_calX (c_want_words_x.mono (by decide)) hr rfl (pa_cons (pv 0) (pa_cons (pv 1) (pa_cons (pv 2) pa_nil)))))
   pss_never),?_⟩
 rintro ds e ⟨W,G,c0,k,p,rfl,hb,rfl⟩
 show Sv K _ _ _ [some (.d (dW W)),some (.d (kc c0)),some (.d (dW G)),some (.d (.int p)),none,none,none] _
 walk_at "vs"
 exact⟨by walk_at "nrs",_,⟨W,G,c0,k,rfl,hb,rfl⟩,rfl⟩
theorem okx_row_of_words(T:Txt K mg)(Z:Cs K mg C_WheelError C_NoBase C_TooGreat C_NoMachine C_NoText C_NoWords):Cal P w K mg base (CXE P w) 4 "row_of_words" ["words", "begin", "signs"] [] (spR K Pre_rx (fun _ _=>False) (PX_rx C_NoWords)):=by
 obtain⟨c0',T0⟩:=T.x_row_of_words
 have c_want_words_x:Cal P w K mg base (CXE P w) 3 "want_words" ["words", "begin", "signs"] [] (spV K NS (X_ww C_NoWords)):=okx_want_words T Z
 refine valRMX0 (k':=3) T0 sc_row_of_words (fun cs ⟨W,G,c0,k,e,_⟩=>by rw[e];rfl) (fun f A outer s H E hr=>?_)
 refine⟨_,(pss_cons (ps_expr (pe_calX (c_want_words_x.mono (by decide)) hr rfl (pa_cons (pv 0) (pa_cons (pv 1) (pa_cons (pv 2) pa_nil)))))
   pss_never),?_⟩
 rintro cs ⟨W,G,c0,k,rfl,hb⟩
 show Sv K _ _ _ [some (.d (dW W)),some (.d (kc c0)),some (.d (dW G)),none,none] _
 walk_at "vs"
 exact⟨by walk_at "nrs",_,⟨W,G,c0,k,rfl,hb,rfl⟩,W,G,c0,k,rfl,hb,rfl⟩
theorem okx_asked(T:Txt K mg)(Z:Cs K mg C_WheelError C_NoBase C_TooGreat C_NoMachine C_NoText C_NoWords):Cal P w K mg base (CXE P w) 5 "_law_asked" ["_law_way", "_law_words_here", "_law_begin", "_law_signs"] [] (spV K NS (X_ak C_NoWords)):=by
 have c_letter_at_x:Cal P w K mg base (CXE P w) 4 "letter_at" ["words", "begin", "signs", "place"] [] (spV K NS (X_la C_NoWords)):=okx_letter_at T Z
 have c_grown_x:Cal P w K mg base (CXE P w) 4 "grown" ["words", "begin", "signs", "many"] [] (spV K NS (X_la C_NoWords)):=okx_grown T Z
 have c_row_of_words_x:Cal P w K mg base (CXE P w) 4 "row_of_words" ["words", "begin", "signs"] [] (spR K Pre_rx (fun _ _=>False) (PX_rx C_NoWords)):=okx_row_of_words T Z
 refine valX T.x_law_asked sc_law_asked (fun ds c ⟨y,W,G,c0,k,e,_⟩=>by rw[e];rfl) (fun f cdv A outer s H E hr=>?_) [] (by simp)
 refine⟨_,(pss_cons (ps_if (pt_cmpR (op_equ (K:=K) rfl hr.units) (pv 0) pe_int (nomark _))
    (pss_one (ps_ret (pe_calX (c_row_of_words_x.mono (by decide)) hr rfl (pa_cons (pv 1) (pa_cons (pv 2) (pa_cons (pv 3) pa_nil))))))
    pss_nil)
   (pss_cons (ps_if (pt_cmpR op_lt (pv 0) pe_int (nomark _))
    (pss_one (ps_ret (pe_calX (c_grown_x.mono (by decide)) hr rfl (pa_cons (pv 1) (pa_cons (pv 2) (pa_cons (pv 3) (pa_cons (pe_op op_sub (pv 0) pe_int) pa_nil)))))))
    pss_nil)
   (pss_one (ps_ret (pe_calX (c_letter_at_x.mono (by decide)) hr rfl (pa_cons (pv 1) (pa_cons (pv 2) (pa_cons (pv 3) (pa_cons (pe_op op_sub (pv 0) pe_int) pa_nil))))))))),?_⟩
 rintro ds e ⟨y,W,G,c0,k,rfl,hb,rfl⟩
 show Sv K _ _ _ [some (.d (.int y)),some (.d (dW W)),some (.d (kc c0)),some (.d (dW G))] _
 walk_at "vs"
 refine ite2 (fun h=>?_) fun h=>?_
 ·walk_at "vs"
  refine⟨[.d (dW W),.d (kc c0),.d (dW G)],.cons (.d NR.av rfl) (.cons (.d NR.av rfl) (.cons (.d NR.av rfl) .nil)),⟨W,G,c0,k,rfl,hb⟩,fun _ z=>z.elim,?_⟩
  rintro e ⟨W',G',c0',k',ee,hb',rfl⟩
  simp only[List.append_nil,List.cons.injEq,AV.d.injEq,and_true] at ee
  have e1:=dW_inj ee.1
  have e3:=kc_inj ee.2.1
  have e4:=dW_inj ee.2.2
  subst e1 e3 e4
  rw[hb.one hb']
 walk_at "vs"
 refine ite2 (fun h=>?_) fun h=>?_
 ·walk_at "vs"
  exact⟨by walk_at "nrs",_,⟨W,G,c0,k,y-1,rfl,hb,rfl⟩,rfl⟩
 walk_at "vs"
 exact⟨by walk_at "nrs",_,⟨W,G,c0,k,y-4,rfl,hb,rfl⟩,rfl⟩
theorem bi_i3{E:FK}{X:Exc→Sl→Prop}{bs:List TV}{Q:TV→Prop}(h:Bi K E X (rIsi2 K) bs Q):Bi K E X (rIsi3 K) bs Q:=fun H0 σ ρ ts as H vs QV s hl x k=>.inl (h H0 σ ρ ts as H vs QV s hl x k)
theorem Enc.bool:Enc PyData.bool 0:=⟨fun a b=>by cases a<;>cases b<;>simp[PyData.eqv],fun _=>by simp[PyData.canLay0],fun _=>by simp[PyData.depth]⟩
noncomputable def S_rf(ds:List PyData)(c:AV):Prop:=∃ (y:Int) (W G:List (Nat×PyData)) (c0 k:Nat),ds=[.int y,dW W,kc c0,dW G,kc k]∧Bad W G c0 k∧c=.d (.bool true)
theorem ok_refused(T:Txt K mg)(Z:Cs K mg C_WheelError C_NoBase C_TooGreat C_NoMachine C_NoText C_NoWords):Cal P w K mg base (CXE P w) 6 "_law_refused" ["_law_way", "_law_words_here", "_law_begin", "_law_signs", "_law_due"] [] (spV K S_rf NX):=by
 have c_law_asked_x:Cal P w K mg base (CXE P w) 5 "_law_asked" ["_law_way", "_law_words_here", "_law_begin", "_law_signs"] [] (spV K NS (X_ak C_NoWords)):=okx_asked T Z
 refine val T.x_law_refused sc_law_refused (fun ds c ⟨y,W,G,c0,k,e,_⟩=>by rw[e];rfl) (fun f0 cdv A outer s0 H E hr=>?_) [] (by simp)
 refine⟨_,(pss_cons (ps_set (i:=5) sc_law_refused.nd rfl (Or.inl rfl) pe_non)
   (pss_cons (ps_set (i:=6) sc_law_refused.nd rfl (Or.inl rfl) (pe_lst pa_nil))
   (pss_cons (ps_tryAs (i:=7) rfl rfl sc_law_refused.nd rfl rfl rfl Z.c_WheelError
    (fun _ _=>(pss_one (ps_expr (pe_calX (c_law_asked_x.mono (by decide)) hr rfl (pa_cons (pv 0) (pa_cons (pv 1) (pa_cons (pv 2) (pa_cons (pv 3) pa_nil))))))))
    (fun _ _=>(pss_one (ps_set (i:=6) sc_law_refused.nd rfl (Or.inl rfl) (pe_lst (pa_cons (pe_callB (call_isi3K (K:=K) rfl) rfl T.n_isinstance PyProof.Rows.boot_isinstance (pa_cons (pv 7) (pa_cons (pe_bltn (v:=.ty "ValueError") rfl T.n_ValueError L2.boot_ValueError rfl) pa_nil))) (pa_cons (pe_callB (call_isi3K (K:=K) rfl) rfl T.n_isinstance PyProof.Rows.boot_isinstance (pa_cons (pv 7) (pa_cons (pe_glob (v:=.ref C_NoWords) rfl Z.c_NoWords rfl) pa_nil))) (pa_cons (pe_callB (call_isi3K (K:=K) rfl) rfl T.n_isinstance PyProof.Rows.boot_isinstance (pa_cons (pv 7) (pa_cons (pe_tup (pa_cons (pe_glob (v:=.ref C_NoText) rfl Z.c_NoText rfl) (pa_cons (pe_glob (v:=.ref C_NoMachine) rfl Z.c_NoMachine rfl) pa_nil))) pa_nil))) pa_nil))))))))
   (pss_cons (ps_tryAs (i:=7) rfl rfl sc_law_refused.nd rfl rfl rfl Z.c_NoWords
    (fun _ _=>(pss_one (ps_expr (pe_calX (c_law_asked_x.mono (by decide)) hr rfl (pa_cons (pv 0) (pa_cons (pv 1) (pa_cons (pv 2) (pa_cons (pv 3) pa_nil))))))))
    (fun _ _=>(pss_one (ps_set (i:=5) sc_law_refused.nd rfl (Or.inl rfl) (pe_xfldK (K:=K) rfl (pv 7))))))
   (pss_one (ps_ret (pe_and (pe_cmpR (op_equ (K:=K) rfl hr.units) (pv 6) (pe_lst (pa_cons pe_bl (pa_cons pe_bl (pa_cons pe_bl pa_nil)))) (nomark _)) (pe_and (pe_callB (call_isi3K (K:=K) rfl) rfl T.n_isinstance PyProof.Rows.boot_isinstance (pa_cons (pv 5) (pa_cons (pe_bltn (v:=.ty "str") rfl T.n_str PyProof.Rows.boot_str rfl) pa_nil))) (pe_one (pe_cmpR (op_equ (K:=K) rfl hr.units) (pv 5) (pv 4) (nomark _))))))))))),?_⟩
 rintro ds c ⟨y,W,G,c0,k,rfl,hb,rfl⟩
 show Sv K _ _ _ [some (.d (.int y)),some (.d (dW W)),some (.d (kc c0)),some (.d (dW G)),some (.d (kc k)),none,none,none] _
 walk_at "vs"
 refine sv_tryAs (X':=fun e ρ=>e=exW C_NoWords k∧ρ=[some (.d (.int y)),some (.d (dW W)),some (.d (kc c0)),some (.d (dW G)),some (.d (kc k)),some (.d .none),some (.own []),none]) (fun F'=>?_) ?_
 ·walk_at "vs"
  exact⟨by walk_at "nrs",_,⟨y,W,G,c0,k,rfl,hb,rfl⟩,rfl,rfl⟩
 rintro e ρ' ⟨rfl,rfl⟩
 refine⟨Z.m_We,rfl,by simp,?_⟩
 show Sv K _ _ _ [some (.d (.int y)),some (.d (dW W)),some (.d (kc c0)),some (.d (dW G)),some (.d (kc k)),some (.d .none),some (.own []),some (.d (dX (exW C_NoWords k)))] _
 walk_at "vs"
 refine ev_lst ?_
 walk_at "vs"
 refine bi_isiX (e:=exW C_NoWords k) Z.k_NoWords rfl Z.i_val ?_
 walk_at "vs"
 refine ev_ref ?_
 walk_at "vs"
 refine bi_isiX (e:=exW C_NoWords k) Z.k_NoWords rfl Z.i_own ?_
 refine ea_cons ?_
 refine ev_isiT (i:=7) (e:=exW C_NoWords k) (cs:=[.ref C_NoText,.ref C_NoMachine]) (cvs:=[.ref C_NoText,.ref C_NoMachine]) rfl (.cons (.cons .nil)) (.cons rfl (.cons rfl .nil)) (by simp) Z.k_NoWords Z.i_any ?_
 walk_at "vs"
 refine⟨[.d (.bool true),.d (.bool true),.d (.bool false)],.cons rfl (.cons rfl (.cons rfl .nil)),by decide,?_⟩
 walk_at "vs"
 simp only[List.set_cons_succ,List.set_cons_zero]
 walk_at "vs"
 refine sv_tryAs (X':=fun e ρ=>e=exW C_NoWords k∧ρ=[some (.d (.int y)),some (.d (dW W)),some (.d (kc c0)),some (.d (dW G)),some (.d (kc k)),some (.d .none),some (.own [.d (.bool true),.d (.bool true),.d (.bool false)]),none]) (fun F'=>?_) ?_
 ·walk_at "vs"
  exact⟨by walk_at "nrs",_,⟨y,W,G,c0,k,rfl,hb,rfl⟩,rfl,rfl⟩
 rintro e ρ' ⟨rfl,rfl⟩
 refine⟨Z.m_NoWords,rfl,by simp,?_⟩
 show Sv K _ _ _ [some (.d (.int y)),some (.d (dW W)),some (.d (kc c0)),some (.d (dW G)),some (.d (kc k)),some (.d .none),some (.own [.d (.bool true),.d (.bool true),.d (.bool false)]),some (.d (dX (exW C_NoWords k)))] _
 walk_at "vs"
 refine ev_xfld ?_
 walk_at "vs"
 refine⟨exW C_NoWords k,kc k,rfl,Z.ef1,rfl,?_⟩
 walk_at "vs"
 simp only[List.set_cons_succ,List.set_cons_zero]
 walk_at "vs"
 refine ev_lst ?_
 walk_at "vs"
 refine⟨[.d (.bool true),.d (.bool true),.d (.bool false)],.cons rfl (.cons rfl (.cons rfl .nil)),by decide,?_⟩
 refine eq_d (f:=fun bs:List Bool=>PyData.list (bs.map .bool)) (c:=[true,true,false]) (d:=[true,true,false]) Enc.bool.list rfl rfl ?_
 rw[decide_eq_true rfl]
 walk_at "vm"
 refine bi_i3 (isi_str rfl ?_)
 walk_at "vm"
 have ok1:PyData.strOk (t1 k)=true:=ok_tw (w:=[k]) fun y hy=>by rw[List.mem_singleton.mp hy];exact hb.lo
 refine eq_d (f:=dS) (c:=⟨t1 k,ok1⟩) (d:=⟨t1 k,ok1⟩) Enc.str rfl rfl ?_
 rw[decide_eq_true rfl]
 exact res_d rfl
end
theorem use_refused{Q:TV→Prop}{y:Int}{W G:List (Nat×PyData)}{c0 k:Nat}(hb:Bad W G c0 k)(q:Q (.av (.d (.bool true)))):Cl S_rf [] Q [.av (.d (.int y)),.av (.d (dW W)),.av (.d (kc c0)),.av (.d (dW G)),.av (.d (kc k))] :=
 call_of (by walk_at "nrs") ⟨y,W,G,c0,k,rfl,hb,rfl⟩ (Got.own rfl) q
noncomputable def Pre_ak(cs:List AV):Prop:=∃ (y b:Int) (L:List Nat) (W G:List (Nat×PyData)) (c0:Nat),cs=[.d (.int y),.d (dW W),.d (kc c0),.d (dW G)]∧Gd b L W G c0∧0≤y∧y<7
noncomputable def Post_ak(_:List AV)(c:AV):Prop:=∃ x,c=.d x∧noLst x=true
theorem ok_asked(T:Txt K mg)(B:base.BuiltinsAt mg mainGlobals)(hTs:∀ p∈ts0,p∈Tabs.ts):Cal P w K mg base (CXE P w) 5 "_law_asked" ["_law_way", "_law_words_here", "_law_begin", "_law_signs"] [] (spR K Pre_ak Post_ak NP):=by
 have c_letter_at:Cal P w K mg base (CXE P w) 4 "letter_at" ["words", "begin", "signs", "place"] [] (spV K S_la NX):=ok_letter_at T
 have c_grown:Cal P w K mg base (CXE P w) 4 "grown" ["words", "begin", "signs", "many"] [] (spV K S_gr NX):=ok_grown T
 have c_row_of_words:Cal P w K mg base (CXE P w) 4 "row_of_words" ["words", "begin", "signs"] [] (spR K Pre_rw Post_rw NP):=ok_row_of_words T B hTs
 refine valR T.x_law_asked sc_law_asked (fun cs ⟨y,b,L,W,G,c0,e,_⟩=>by rw[e];rfl) (fun f cdv A outer s H E hr=>?_) [] (by simp)
 refine⟨_,(pss_cons (ps_if (pt_cmpR (op_equ (K:=K) rfl hr.units) (pv 0) pe_int (nomark _))
    (pss_one (ps_ret (pe_cal (c_row_of_words.mono (by decide)) hr rfl passE (pa_cons (pv 1) (pa_cons (pv 2) (pa_cons (pv 3) pa_nil))))))
    pss_nil)
   (pss_cons (ps_if (pt_cmpR op_lt (pv 0) pe_int (nomark _))
    (pss_one (ps_ret (pe_cal (c_grown.mono (by decide)) hr rfl passE (pa_cons (pv 1) (pa_cons (pv 2) (pa_cons (pv 3) (pa_cons (pe_op op_sub (pv 0) pe_int) pa_nil)))))))
    pss_nil)
   (pss_one (ps_ret (pe_cal (c_letter_at.mono (by decide)) hr rfl passE (pa_cons (pv 1) (pa_cons (pv 2) (pa_cons (pv 3) (pa_cons (pe_op op_sub (pv 0) pe_int) pa_nil))))))))),?_⟩
 rintro cs ⟨y,b,L,W,G,c0,rfl,hg,hy⟩
 show Sv K _ _ _ [some (.d (.int y)),some (.d (dW W)),some (.d (kc c0)),some (.d (dW G))] _
 walk_at "vs"
 refine ite2 (fun h=>?_) fun h=>?_
 ·walk_at "vs"
  refine use_rw hg fun F _ _ _=>?_
  exact⟨_,res_d rfl,_,rfl,dM_flat _⟩
 have h:¬ y=0:=fun z=>h (decide_eq_true z)
 walk_at "vs"
 refine ite2 (fun h1=>?_) fun h1=>?_
 ·walk_at "vs"
  refine use_gr NR.av NR.av NR.av NR.av rfl rfl rfl rfl hg ⟨by omega,by omega⟩ ?_
  exact⟨_,res_d rfl,_,rfl,rfl⟩
 have h1:¬ y<4:=fun z=>h1 (decide_eq_true z)
 walk_at "vs"
 refine use_la NR.av NR.av NR.av NR.av rfl rfl rfl rfl hg ⟨by omega,?_⟩ ?_
 ·have:(y-4).toNat<3:=by omega
  exact Nat.lt_of_lt_of_le this (by decide)
 exact⟨_,res_d rfl,_,rfl,rfl⟩
theorem use_asked{Q:TV→Prop}{X:Exc→Prop}{y b:Int}{L:List Nat}{W G:List (Nat×PyData)}{c0:Nat}(hg:Gd b L W G c0)(hy:0≤y∧y<7)(q:∀ x,Q (.av (.d x))):ClR Pre_ak Post_ak NP [] Q X [.av (.d (.int y)),.av (.d (dW W)),.av (.d (kc c0)),.av (.d (dW G))] :=
 ⟨_,.cons (.d NR.av rfl) (.cons (.d NR.av rfl) (.cons (.d NR.av rfl) (.cons (.d NR.av rfl) .nil))),⟨y,b,L,W,G,c0,rfl,hg,hy⟩,fun _ ⟨x,e,hx⟩=>e▸⟨_,Got.own hx,q x⟩,fun _ z=>z.elim⟩
theorem tv_eq{E:FK}{X:Exc→Sl→Prop}{ρ:Sl}{c:TT}{v:Bool}{Pb:Bool→Prop}(h:Tv K E X c ρ fun b=>b=v)(q:Pb v):Tv K E X c ρ Pb:=fun H0 σ ts as H QV s x k=>h H0 σ ts as H QV s x fun b e=>k b (e▸q)
noncomputable def Pre_ft(cs:List AV):Prop:=∃ (n:Nat) (W G:List (Nat×PyData)) (c0:Nat),cs=[.d (dW W),.d (kc c0),.d (dW G)]∧Lo n W G c0∧n≤20
noncomputable def fD:Option Nat→PyData
 | none=>.none
 | some k=>kc k
noncomputable def Post_ft(cs:List AV)(c:AV):Prop:=∃ (W G:List (Nat×PyData)) (c0:Nat) (ks:List Nat),cs=[.d (dW W),.d (kc c0),.d (dW G)]∧Srt W ks∧c=.d (fD (flt W G c0 ks))
theorem kf(c:Nat):kc c=keyD (.inr (t1 c)):=rfl
theorem kj(a b:Nat)(e:(Sum.inr (t1 a):Key)=.inr (t1 b)):a=b:=t1_inj (Sum.inr.inj e)
theorem sg_get{n:Nat}{W G:List (Nat×PyData)}{c0:Nat}(h:Lo n W G c0)(k:Nat):∃ s:Int,(getA G k).getD (.int (-1))=.int s∧sgO G k=decide (0≤s∧s≤9):=by
 cases hs:getA G k with
 | none=>exact⟨-1,rfl,by unfold sgO;rw[hs];rfl⟩
 | some v =>
  obtain⟨s,e⟩:=h.g _ (getA_mem hs)
  have e:v=.int s:=e
  subst e
  exact⟨s,rfl,by unfold sgO;rw[hs]⟩
theorem pw_srt:∀ {ks:List Nat},ks.Pairwise (·≤·)→PyProof.Rows.sortedS (ks.map t1)=true
 | [],_=>rfl
 | k::ks,h=>by
  have key:∀ (ks:List Nat) (p:Nat),(p::ks).Pairwise (·≤·)→PyProof.Rows.risingS (t1 p) (ks.map t1)=true:=by
   intro ks
   induction ks with
   | nil=>intro p _;rfl
   | cons x ks ih =>
    intro p h
    have h1:=List.pairwise_cons.mp h
    show (!PySem.Spec.ltCps [x] [p] && PyProof.Rows.risingS (t1 x) (ks.map t1))=true
    rw[ih x h1.2,Bool.and_true]
    have:=h1.1 x (.head _)
    simp[PySem.Spec.ltCps]
    omega
  exact key ks k h
theorem srt_ex(W:List (Nat×PyData)):∃ ks,Srt W ks:=by
 refine⟨(W.map Prod.fst).mergeSort (fun a b=>decide (a≤b)),?_,pw_srt ?_⟩
 ·have:=((W.map Prod.fst).mergeSort_perm (fun a b=>decide (a≤b))).map t1
  rwa [List.map_map] at this
 ·have:=List.pairwise_mergeSort (le:=fun a b:Nat=>decide (a≤b)) (fun a b c h1 h2=>decide_eq_true (Nat.le_trans (of_decide_eq_true h1) (of_decide_eq_true h2))) (fun a b=>by simp;omega) (W.map Prod.fst)
  exact this.imp fun h=>of_decide_eq_true h
theorem ok_fault(T:Txt K mg):Cal P w K mg base (CXE P w) 1 "_law_fault" ["_law_words_here", "_law_begin", "_law_signs"] [] (spR K Pre_ft Post_ft NP):=by
 refine valR T.x_law_fault sc_law_fault (fun cs ⟨n,W,G,c0,e,_⟩=>by rw[e];rfl) (fun f cdv A outer s H E hr=>?_) [] (by simp)
 refine⟨_,(pss_cons (ps_set (i:=3) sc_law_fault.nd rfl (Or.inl rfl) (pe_dgetE hr.units (pv 0) (pv 1) pe_str ⟨rfl,rfl,rfl,rfl⟩))
   (pss_cons (ps_if (PW.pt (pw_or (pt_not (pt_chain op_le op_le pe_int (pe_callB (call_lenAny (K:=K) rfl) rfl T.n_len PySem.boot_len (pa_cons (pv 3) pa_nil)) pe_int)) (pw_or1 (pt_cmpR (op_neq (K:=K) rfl hr.units) (pe_slice (sl_anyS (K:=K) rfl) (pv 3) po_none (po_some pe_int)) (pv 1) (nomark _)))))
    (pss_one (ps_ret (pv 1)))
    pss_nil)
   (pss_cons (ps_for PassesOwn.never rfl (pi_seq (K:=K) rfl (pe_callB (call_sortD rfl) rfl T.n_sorted PyProof.Rows.boot_sorted (pa_cons (pv 0) pa_nil))) (pg_name (i:=4) sc_law_fault.nd rfl (Or.inl rfl))
    (pss_one (ps_if (pt_cmpR (op_neq (K:=K) rfl hr.units) (pe_callB (call_lenAny (K:=K) rfl) rfl T.n_len PySem.boot_len (pa_cons (pe_ix (ix_any (K:=K) rfl hr.units) (pv 0) (pv 4) (fun _ _=>rfl)) pa_nil)) (pe_callB (call_lenAny (K:=K) rfl) rfl T.n_len PySem.boot_len (pa_cons (pv 3) pa_nil)) (nomark _))
     (pss_one (ps_ret (pv 4)))
     pss_nil)))
   (pss_cons (ps_for PassesOwn.never rfl (pi_seq (K:=K) rfl (pe_callB (call_sortD rfl) rfl T.n_sorted PyProof.Rows.boot_sorted (pa_cons (pv 0) pa_nil))) (pg_name (i:=4) sc_law_fault.nd rfl (Or.inl rfl))
    (pss_one (ps_if (PW.pt (pw_or (pt_not (pt_val (pe_callB (call_allB (K:=K) rfl rfl) rfl T.n_all PyProof.Rows.boot_all (pa_cons (pe_comp (N:=["_law_one", "_law_words_here"]) (cap:=[none,some 0]) rfl rfl rfl (by kernel_rfl) (pi_str (pe_ix (ix_any (K:=K) rfl hr.units) (pv 0) (pv 4) (fun _ _=>rfl))) (fun _ _ _ _=>(pg_name (i:=0) (show (["_law_one", "_law_words_here"]:List Str).Nodup from by decide +kernel) rfl (Or.inl rfl))) (fun _ _ _ _=>pifs_nil) (fun _ _ _ _=>(pe_cmpR (op_inA (K:=K) rfl hr.units) (pv 0) (pv 1) (by with_unfolding_all rfl)))) pa_nil)))) (pw_or1 (pt_not (pt_chain op_le op_le pe_int (pe_dgetE hr.units (pv 2) (pv 4) (pe_un un_neg pe_int) ⟨rfl,rfl,rfl,rfl⟩) pe_int)))))
     (pss_one (ps_ret (pv 4)))
     pss_nil)))
   (pss_one (ps_ret pe_non)))))),?_⟩
 rintro cs ⟨n,W,G,c0,rfl,hg,hn⟩
 have hlw:=hg.lw
 have hle:=hg.le
 have hz:∀ c,(tw (wof W c)).length=(wof W c).length:=fun c=>List.size_toArray
 show Sv K _ _ _ [some (.d (dW W)),some (.d (kc c0)),some (.d (dW G)),none,none] _
 walk_at "vi"
 refine ev_getE kf kj ?_
 walk_at "vi"
 refine⟨W,rfl,NR.av,?_⟩
 walk_at "vi"
 refine⟨c0,rfl,NR.av,?_⟩
 walk_at "vi"
 refine⟨.str (tw []),rfl,NR.av,by rw[hg.getD];rfl,?_⟩
 rw[hg.getD]
 walk_at "vi"
 refine s_if (tv_eq (v:=!okB W c0) ?_ ?_)
 ·walk_at "vi"
  refine ev_chain ?_
  walk_at "vi"
  refine len_S rfl (by rw[hz];have:=(hle c0).1;omega) ?_
  rw[hz]
  refine⟨2,((wof W c0).length:Nat),rfl,rfl,fun h=>?_,fun h=>?_⟩
  case refine_2 =>
   have h:=of_decide_eq_false h
   refine⟨false,rfl,?_⟩
   have:okB W c0=false:=decide_eq_false fun z=>h (by have:=z.1.1;omega)
   rw[this]
   rfl
  have h:=of_decide_eq_true h
  walk_at "vi"
  by_cases h5:(wof W c0).length≤5
  case neg =>
   have:okB W c0=false:=decide_eq_false fun z=>h5 z.1.2
   rw[this,decide_eq_false (show ¬ ((wof W c0).length:Int)≤5 by omega)]
   rfl
  rw[decide_eq_true (show ((wof W c0).length:Int)≤5 by omega)]
  walk_at "vi"
  refine sl_S ?_
  walk_at "vi"
  refine⟨tw (wof W c0),rfl,NR.av,by rw[hz];omega,?_⟩
  rw[slice_one (by omega)]
  walk_at "vi"
  refine ne_d (f:=dS) (c:=⟨tw ((wof W c0).take 1),ok_tw fun y hy=>(hle c0).2 y (List.mem_of_mem_take hy)⟩) (d:=⟨t1 c0,ok_tw (w:=[c0]) fun y hy=>by rw[List.mem_singleton.mp hy];exact hg.hc⟩) Enc.str rfl rfl ?_
  refine⟨_,rfl,congrArg (!·) (decide_eq_decide.mpr ⟨fun e=>⟨⟨by omega,h5⟩,?_⟩,fun e=>?_⟩)⟩
  ·have e:=Subtype.mk.inj e
   have:=congrArg (fun z:Str=>z.cps.toList) e
   simpa using this
  ·refine Subtype.ext ?_
   show tw ((wof W c0).take 1)=t1 c0
   rw[e.2]
 obtain⟨ks,hs⟩:=srt_ex W
 cases hB:okB W c0 with
 | false =>
  walk_at "vi"
  exact⟨_,res_d rfl,W,G,c0,ks,rfl,hs,by rw[flt_B hB];rfl⟩
 | true =>
  have hmem:∀ j (hj:j<ks.length),(getA W ks[j]).isSome=true:=fun j hj=>(hg.key (hs.perm.mem_iff.mp (List.getElem_mem hj))).1
  have sorted:∀ {Q:TV→Prop} {E':FK} {X':Exc→Sl→Prop},Q (.av (.own (ks.map fun k=>.d (kc k))))→Bi K E' X' rSortD [.av (.d (dW W))] Q:=fun q=>by
   refine bi_sortD (kvs:=W.map fun p=>(t1 p.1,p.2)) (congrArg PyData.dict (encD_t1 W)) (fun e=>hg.ne (List.map_eq_nil_iff.mp e)) (by rw[List.length_map];omega) fun zs hp hp2=>?_
   obtain⟨ls,rfl,hls⟩:=srt_of hp hp2
   cases hls.one hs
   rw[List.map_map]
   exact q
  walk_at "vi"
  refine for_L (α:=Nat) ?_
  walk_at "vi"
  refine sorted ?_
  refine⟨ks,kc,.inl (oC_data ks),⟨_,rfl⟩,fun i ρ=>∃ o,ρ=[some (.d (dW W)),some (.d (kc c0)),some (.d (dW G)),some (.d (.str (tw (wof W c0)))),o]∧∀ j (hj:j<ks.length),j<i→okL W c0 ks[j]=true,⟨none,rfl,fun j _ hj=>by omega⟩,?_,?_⟩
  ·rintro i ρ hi ⟨o,rfl,hl⟩
   obtain⟨h1,h2,h3⟩:=hg.at (hmem i hi)
   walk_at "vi"
   refine s_if ?_
   walk_at "vi"
   refine ix_dc kenc rfl rfl h1 Item.d ?_
   walk_at "vi"
   refine len_S rfl (by rw[hz];omega) ?_
   walk_at "vi"
   refine len_S rfl (by rw[hz];have:=(hle c0).1;omega) ?_
   walk_at "vi"
   rw[hz,hz]
   cases hL:okL W c0 ks[i] with
   | true =>
    have:=of_decide_eq_true hL
    rw[decide_eq_true (show ((wof W ks[i]).length:Int)=(wof W c0).length by omega)]
    walk_at "vi"
    refine⟨_,rfl,fun j hj hji=>?_⟩
    by_cases e:j=i
    ·subst e;exact hL
    ·exact hl j hj (by omega)
   | false =>
    have:=of_decide_eq_false hL
    rw[decide_eq_false (show ¬ ((wof W ks[i]).length:Int)=(wof W c0).length by omega)]
    walk_at "vi"
    exact⟨_,res_d rfl,W,G,c0,ks,rfl,hs,by rw[flt_L hB hi (fun j hj=>hl j (by omega) hj) hL];rfl⟩
  rintro ρ ⟨o,rfl,hl⟩
  have hl:∀ j (hj:j<ks.length),okL W c0 ks[j]=true:=fun j hj=>hl j hj hj
  walk_at "vi"
  refine for_L (α:=Nat) ?_
  walk_at "vi"
  refine sorted ?_
  refine⟨ks,kc,.inl (oC_data ks),⟨_,rfl⟩,fun i ρ=>∃ o,ρ=[some (.d (dW W)),some (.d (kc c0)),some (.d (dW G)),some (.d (.str (tw (wof W c0)))),o]∧∀ j (hj:j<ks.length),j<i→okW W G ks[j]=true,⟨o,rfl,fun j _ hj=>by omega⟩,?_,?_⟩
  ·rintro i ρ hi ⟨o,rfl,hw⟩
   obtain⟨h1,h2,h3⟩:=hg.at (hmem i hi)
   obtain⟨a1,_,a2⟩:=all_W (E:=toF E) (X:=NE) hg hn (hmem i hi)
   obtain⟨sg,es,ss⟩:=sg_get hg ks[i]
   generalize hk:ks[i]=k at h1 h2 h3 a1 a2 es ss
   walk_at "vi"
   refine s_if (tv_eq (v:=!okW W G k) ?_ ?_)
   ·walk_at "vi"
    refine comp_S ?_
    walk_at "vi"
    refine ix_dc kenc rfl rfl h1 Item.d ?_
    refine⟨tw (wof W k),fun i=>.d (.bool (getA W ((tw (wof W k)).cps.getD i 0)).isSome),rfl,NR.av,a1,by rw[hz];omega,fun i hi=>?_,_,Got.own (clean_map fun _=>rfl),?_⟩
    ·show Gv K _ _ [none,some (.d (dW W))] _
     walk_at "vi"
     refine⟨wk_0,?_⟩
     walk_at "vi"
     refine in_dc (c:=(tw (wof W k)).cps.getD i 0) kenc rfl rfl ?_
     rfl
    walk_at "vi"
    refine bi_all (cs:=(List.range (tw (wof W k)).length).map fun i=>(getA W ((tw (wof W k)).cps.getD i 0)).isSome) (by rw[TV.data,AV.data,datas_mapd,List.map_map];rfl) ?_
    rw[a2]
    unfold okW
    cases ha:(wof W k).all fun y=>(getA W y).isSome with
    | false =>
     walk_at "vi"
     rfl
    | true =>
     walk_at "vi"
     refine ev_chain ?_
     walk_at "vi"
     refine ev_getE kf kj ?_
     walk_at "vi"
     refine⟨G,rfl,NR.av,?_⟩
     walk_at "vi"
     refine⟨k,rfl,NR.av,?_⟩
     walk_at "vi"
     refine⟨.int (-1),rfl,NR.av,by rw[es];rfl,?_⟩
     rw[es,ss]
     refine⟨0,sg,rfl,rfl,fun h=>?_,fun h=>?_⟩
     ·have h:=of_decide_eq_true h
      walk_at "vi"
      refine congrArg (!·) ?_
      rw[Bool.true_and]
      exact decide_eq_decide.mpr ⟨fun z=>⟨h,z⟩,fun z=>z.2⟩
     ·have h:=of_decide_eq_false h
      exact⟨false,rfl,by rw[decide_eq_false (fun z=>h z.1)];rfl⟩
   cases hW:okW W G k with
   | true =>
    walk_at "vi"
    refine⟨_,rfl,fun j hj hji=>?_⟩
    by_cases e:j=i
    ·subst e;rw[hk];exact hW
    ·exact hw j hj (by omega)
   | false =>
    walk_at "vi"
    exact⟨_,res_d rfl,W,G,c0,ks,rfl,hs,by rw[flt_W hB hl hi (fun j hj=>hw j (by omega) hj) (by rw[hk];exact hW),hk];rfl⟩
  rintro ρ ⟨o,rfl,hw⟩
  walk_at "vi"
  exact⟨_,res_d rfl,W,G,c0,ks,rfl,hs,by rw[flt_0 hB hl fun j hj=>hw j hj hj];rfl⟩
theorem use_fault{Q:TV→Prop}{X:Exc→Prop}{n:Nat}{W G:List (Nat×PyData)}{c0:Nat}{a b c:TV}(na:NR a)(nb:NR b)(nc:NR c)(ha:a.data=dW W)(hb:b.data=kc c0)(hc:c.data=dW G)(hg:Lo n W G c0)(hn:n≤20)(q:∀ ks,Srt W ks→Q (.av (.d (fD (flt W G c0 ks))))):ClR Pre_ft Post_ft NP [] Q X [a,b,c] :=
 ⟨[.d (dW W),.d (kc c0),.d (dW G)],.cons (.d na ha) (.cons (.d nb hb) (.cons (.d nc hc) .nil)),⟨n,W,G,c0,rfl,hg,hn⟩,fun d ⟨W',G',c0',ks,e,hs,ed⟩=>by
  simp only[List.append_nil,List.cons.injEq,AV.d.injEq,and_true] at e
  have e1:=dW_inj e.1
  have e3:=kc_inj e.2.1
  have e4:=dW_inj e.2.2
  subst e1 e3 e4 ed
  exact⟨_,Got.own (by cases flt W G c0 ks<;>rfl),q ks hs⟩,fun _ z=>z.elim⟩
theorem putA_ne{l:List (Nat×PyData)}{k:Nat}{v:PyData}:putA l k v≠[]:=fun e=>by
 unfold putA at e
 split at e
 ·rename_i h
  rw[List.map_eq_nil_iff.mp e] at h
  cases h
 ·simp at e
theorem Lo.put{n:Nat}{W W1 G:List (Nat×PyData)}{c0 k:Nat}{w:List Nat}(h:Lo n W G c0)(hs:∀ p∈W1,p∈W)(hd:(W1.map Prod.fst).Nodup)(hl:W1.length≤W.length)(hk:97≤k∧k≤122)(hw:w.length≤n+1)(ha:∀ y∈w,97≤y∧y≤122):Lo (n+1) (putA W1 k (.str (tw w))) G c0:=by
 refine⟨fun p hp=>?_,h.g,putA_ne,nd_put hd,?_,by have:=h.lg;omega,h.hc⟩
 ·rcases mem_putA hp with hp|rfl
  ·obtain⟨h1,w',e,h2,h3⟩:=h.w p (hs p hp)
   exact⟨h1,w',e,by omega,h3⟩
  ·exact⟨hk,w,rfl,hw,ha⟩
 ·have:=putA_len W1 k (.str (tw w));have:=h.lw;omega
theorem Lo.putW{n:Nat}{W G:List (Nat×PyData)}{c0 k:Nat}{w:List Nat}(h:Lo n W G c0)(hk:97≤k∧k≤122)(hw:w.length≤n+1)(ha:∀ y∈w,97≤y∧y≤122):Lo (n+1) (putA W k (.str (tw w))) G c0:=h.put (fun _ z=>z) h.nd (Nat.le_refl _) hk hw ha
theorem Lo.putG{n:Nat}{W G:List (Nat×PyData)}{c0 k:Nat}{s:Int}(h:Lo n W G c0)(hl:G.length≤n):Lo (n+1) W (putA G k (.int s)) c0:=by
 refine⟨fun p hp=>?_,fun p hp=>?_,h.ne,h.nd,by have:=h.lw;omega,by have:=putA_len G k (.int s);omega,h.hc⟩
 ·obtain⟨h1,w',e,h2,h3⟩:=h.w p hp
  exact⟨h1,w',e,by omega,h3⟩
 ·rcases mem_putA hp with hp|rfl
  ·exact h.g p hp
  ·exact⟨s,rfl⟩
theorem Lo.up{n:Nat}{W G:List (Nat×PyData)}{c0:Nat}(h:Lo n W G c0):Lo (n+1) W G c0:=by
 refine⟨fun p hp=>?_,h.g,h.ne,h.nd,by have:=h.lw;omega,by have:=h.lg;omega,h.hc⟩
 obtain⟨h1,w',e,h2,h3⟩:=h.w p hp
 exact⟨h1,w',e,by omega,h3⟩
theorem dropA_mem{l:List (Nat×PyData)}{k:Nat}{p:Nat×PyData}(h:p∈dropA l k):p∈l:=(List.mem_filter.mp h).1
theorem Lo.dropG{n:Nat}{W G:List (Nat×PyData)}{c0 k:Nat}(h:Lo n W G c0):Lo (n+1) W (dropA G k) c0:=by
 have h1:=h.up
 exact⟨h1.w,fun p hp=>h.g p (dropA_mem hp),h.ne,h.nd,h1.lw,Nat.le_trans (List.length_filter_le _ _) h1.lg,h.hc⟩
theorem dW_clean{W:List (Nat×PyData)}(h:noLsts (W.map Prod.snd)=true):noLsts ((encD kc W).map Prod.snd)=true:=by
 have e:(encD kc W).map Prod.snd=W.map Prod.snd:=by unfold encD;rw[List.map_map];rfl
 rw[e];exact h
noncomputable def Pre_so(cs:List AV):Prop:=∃ (n:Nat) (W G:List (Nat×PyData)) (c0:Nat) (d:Int),cs=[.dic (encD kc W),.d (kc c0),.dic (encD kc G),.d (.int d)]∧Lo n W G c0∧6≤n∧n≤20
noncomputable def Post_so(cs cs':List AV):Prop:=∃ (W G:List (Nat×PyData)) (c0:Nat) (d:Int),cs=[.dic (encD kc W),.d (kc c0),.dic (encD kc G),.d (.int d)]∧∃ W' G',cs'=[.dic (encD kc W'),.d (kc c0),.dic (encD kc G'),.d (.int d)]∧∀ n,6≤n→Lo n W G c0→Lo (n+1) W' G' c0
theorem ok_spoilt(T:Txt K mg):Cal P w K mg base (CXE P w) 1 "_law_spoilt" ["_law_words_here", "_law_begin", "_law_signs", "_law_cell"] [] (spW K Pre_so Post_so):=by
 refine valW T.x_law_spoilt sc_law_spoilt (fun cs ⟨n,W,G,c0,d,e,_⟩=>by rw[e];rfl) (fun f cdv A outer s H E hr=>?_) [] (by simp)
 refine⟨_,(pss_cons (ps_set (i:=4) sc_law_spoilt.nd rfl (Or.inl rfl) (pe_ix (ix_any (K:=K) rfl hr.units) (pe_callB (call_sortD rfl) rfl T.n_sorted PyProof.Rows.boot_sorted (pa_cons (pv 0) pa_nil)) (pe_op op_mod (pe_op op_fdiv (pv 3) pe_int) (pe_callB call_lenD rfl T.n_len PySem.boot_len (pa_cons (pv 0) pa_nil))) (fun _ _=>rfl)))
   (pss_one (ps_ifJ (pt_cmpR (op_equ (K:=K) rfl hr.units) (pe_op op_mod (pv 3) pe_int) pe_int (nomark _))
    (pss_cons (ps_expr (pe_dpopE (pv 0) (pv 1) pe_non ⟨rfl,rfl,rfl,rfl⟩))
    (pss_cons (ps_asg pe_str (pg_sub (pv 0) pe_str (set_any hr.units)))
    (pss_one (ps_asg pe_int (pg_sub (pv 2) pe_str (set_any hr.units))))))
    (pss_one (ps_ifJ (PW.pt (pw_and (pt_cmpR (op_equ (K:=K) rfl hr.units) (pe_op op_mod (pv 3) pe_int) pe_int (nomark _)) (pw_and1 (pt_cmpR (op_inA (K:=K) rfl hr.units) (pv 1) (pv 0) (by with_unfolding_all rfl)))))
     (pss_one (ps_asg (pe_ix (ix_any (K:=K) rfl hr.units) (pe_lst (pa_cons (pv 1) (pa_cons pe_str (pa_cons (pe_op op_repS (pv 1) pe_int) (pa_cons (pe_op (op_plus (K:=K) rfl) pe_str (pv 1)) (pa_cons (pe_op op_repS (pv 1) pe_int) pa_nil)))))) (pe_op op_mod (pe_op op_fdiv (pv 3) pe_int) pe_int) (fun _ _=>rfl)) (pg_sub (pv 0) (pv 1) (set_any hr.units))))
     (pss_one (ps_ifJ (pt_cmpR (op_equ (K:=K) rfl hr.units) (pe_op op_mod (pv 3) pe_int) pe_int (nomark _))
      (pss_one (ps_asg (pe_op (op_plus (K:=K) rfl) (pe_ix (ix_any (K:=K) rfl hr.units) (pv 0) (pv 4) (fun _ _=>rfl)) (pv 4)) (pg_sub (pv 0) (pv 4) (set_any hr.units))))
      (pss_one (ps_ifJ (pt_cmpR (op_equ (K:=K) rfl hr.units) (pe_op op_mod (pv 3) pe_int) pe_int (nomark _))
       (pss_one (ps_asg (pe_slice (sl_anyS (K:=K) rfl) (pe_ix (ix_any (K:=K) rfl hr.units) (pv 0) (pv 4) (fun _ _=>rfl)) po_none (po_some (pe_un un_neg pe_int))) (pg_sub (pv 0) (pv 4) (set_any hr.units))))
       (pss_one (ps_ifJ (pt_cmpR (op_equ (K:=K) rfl hr.units) (pe_op op_mod (pv 3) pe_int) pe_int (nomark _))
        (pss_one (ps_asg (pe_op (op_plus (K:=K) rfl) (pe_slice (sl_anyS (K:=K) rfl) (pe_ix (ix_any (K:=K) rfl hr.units) (pv 0) (pv 4) (fun _ _=>rfl)) po_none (po_some (pe_un un_neg pe_int))) (pe_ix (ix_any (K:=K) rfl hr.units) pe_str (pe_op op_mod (pe_op op_fdiv (pv 3) pe_int) pe_int) (fun _ _=>rfl))) (pg_sub (pv 0) (pv 4) (set_any hr.units))))
        (pss_one (ps_ifJ (pt_cmpR (op_equ (K:=K) rfl hr.units) (pe_op op_mod (pv 3) pe_int) pe_int (nomark _))
         (pss_one (ps_expr (pe_dpopE (pv 2) (pv 4) pe_non ⟨rfl,rfl,rfl,rfl⟩)))
         (pss_one (ps_ifJ (pt_cmpR (op_equ (K:=K) rfl hr.units) (pe_op op_mod (pv 3) pe_int) pe_int (nomark _))
          (pss_one (ps_asg (pe_ix (ix_any (K:=K) rfl hr.units) (pe_lst (pa_cons pe_int (pa_cons (pe_un un_neg pe_int) (pa_cons (pe_op op_pow pe_int pe_int) (pa_cons pe_int pa_nil))))) (pe_op op_mod (pe_op op_fdiv (pv 3) pe_int) pe_int) (fun _ _=>rfl)) (pg_sub (pv 2) (pv 4) (set_any hr.units))))
          pss_nil))))))))))))))),?_⟩
 rintro cs ⟨n,W,G,c0,d,rfl,hg,hn6,hn⟩
 have hlw:=hg.lw
 have hlg:=hg.lg
 have hle:=hg.le
 have hz:∀ c,(tw (wof W c)).length=(wof W c).length:=fun c=>List.size_toArray
 have fin:∀ (W' G':List (Nat×PyData)) (o:Option AV),(∀ n,6≤n→Lo n W G c0→Lo (n+1) W' G' c0)→∃ cs' rest,cs'.length=4∧Post_so [.dic (encD kc W),.d (kc c0),.dic (encD kc G),.d (.int d)] cs'∧[some (.dic (encD kc W')),some (.d (kc c0)),some (.dic (encD kc G')),some (.d (.int d)),o]=cs'.map some++rest:=fun W' G' o h=>⟨[.dic (encD kc W'),.d (kc c0),.dic (encD kc G'),.d (.int d)],[o],rfl,⟨W,G,c0,d,rfl,W',G',rfl,h⟩,rfl⟩
 show Sw K _ _ [0,1,2,3] _ [some (.dic (encD kc W)),some (.d (kc c0)),some (.dic (encD kc G)),some (.d (.int d)),none] _
 refine sw_seq (sw_a (nx_asg (by decide)) ?_)
 walk_at "vi"
 refine bi_sortD (kvs:=W.map fun p=>(t1 p.1,p.2)) (congrArg PyData.dict (encD_t1 W)) (fun e=>hg.ne (List.map_eq_nil_iff.mp e)) (by rw[List.length_map];omega) fun zs hp hp2=>?_
 obtain⟨ks,rfl,hks⟩:=srt_of hp hp2
 have hkl:ks.length=W.length:=by have:=hks.perm.length_eq;rwa [List.length_map] at this
 have hw0:(0:Int)<W.length:=by
  have:0<W.length:=List.length_pos_iff.mpr hg.ne
  omega
 walk_at "vi"
 refine bi_lenDS (kvs:=W.map fun p=>(t1 p.1,p.2)) (congrArg PyData.dict (encD_t1 W)) (fun e=>hg.ne (List.map_eq_nil_iff.mp e)) ?_
 rw[List.length_map]
 refine op_i hw0 ?_
 have j0:0≤d / 8%(W.length:Int):=Int.emod_nonneg _ (by omega)
 have j1:d / 8%(W.length:Int)<W.length:=Int.emod_lt_of_pos _ hw0
 generalize d / 8%(W.length:Int)=j at j0 j1
 obtain⟨e1,e2⟩:=atI_kc (L:=ks) (k:=j) ⟨j0,by omega⟩
 generalize ks.getD j.toNat 0=a at e1 e2
 obtain⟨ha,hak⟩:=hg.key (hks.perm.mem_iff.mp e2)
 obtain⟨hw1,hw2,hw3⟩:=hg.at ha
 refine ix_L (by rw[List.map_map];exact oC_data ks) e1 (Item.flat rfl) ?_
 walk_at "vi"
 refine sw_ifJ ?_
 walk_at "vi"
 refine ite2 (fun _=>?_) fun _=>?_
 ·refine sw_seq (sw_a nx_drop (sv_popE (n:=0) kf kj rfl ?_))
  walk_at "vi"
  refine⟨c0,_,rfl,NR.av,rfl,?_⟩
  have hdl:(dropA W c0).length≤W.length:=List.length_filter_le _ _
  dsimp only[List.set]
  refine sw_seq (sw_a nx_sub (sv_dput (n:=0) (kvs:=dropA W c0) kenc rfl (by omega) ?_))
  walk_at "vi"
  refine⟨.str (tw [122,122]),122,rfl,rfl,NR.av,?_⟩
  dsimp only[List.set]
  refine sw_a nx_sub (sv_dput (n:=2) (kvs:=G) kenc rfl (by omega) ?_)
  walk_at "vi"
  refine⟨.int 1,122,rfl,rfl,NR.av,?_⟩
  dsimp only[List.set]
  refine fin _ _ _ fun n h6 h=>?_
  have h1:=h.put (W1:=dropA W c0) (k:=122) (w:=[122,122]) (fun p hp=>dropA_mem hp) (List.Nodup.sublist ((List.filter_sublist).map _) h.nd) hdl ⟨by decide,by decide⟩ (by show 2≤_;omega) (fun y hy=>by simp at hy;omega)
  have h2:=h.lg
  refine⟨h1.w,fun p hp=>?_,h1.ne,h1.nd,h1.lw,by have:=putA_len G 122 (.int 1);omega,h.hc⟩
  rcases mem_putA hp with hp|rfl
  ·exact h.g p hp
  ·exact⟨1,rfl⟩
 refine sw_ifJ (tv_eq (v:=decide (d%8=1) && (getA W c0).isSome) ?_ ?_)
 ·walk_at "vi"
  refine ite2 (fun h=>?_) fun h=>?_
  ·walk_at "vi"
   refine in_dc (c:=c0) kenc rfl rfl ?_
   rw[h,Bool.true_and]
   walk_at "vi"
   rfl
  ·rw[Bool.eq_false_iff.mpr h]
   rfl
 refine ite2 (fun h=>?_) fun _=>?_
 ·refine sw_a nx_sub (sv_dput (n:=0) (kvs:=W) kenc rfl (by omega) ?_)
  walk_at "vi"
  refine ev_lst ?_
  walk_at "vi"
  refine rep_S (z:=t1 c0) (k:=6) rfl rfl ⟨by decide,by decide⟩ ⟨by show 0<1;decide,by show 1≤1000;decide⟩ ?_
  walk_at "vi"
  refine add_s (z:=t1 c0) rfl rfl (by show 1+1≤_;decide) ?_
  walk_at "vi"
  refine rep_S (z:=t1 c0) (k:=5) rfl rfl ⟨by decide,by decide⟩ ⟨by show 0<1;decide,by show 1≤1000;decide⟩ ?_
  walk_at "vi"
  refine⟨[.d (.str (tw [c0])),.d (.str (tw [])),.d (.str (tw [c0,c0,c0,c0,c0,c0])),.d (.str (tw [113,c0])),.d (.str (tw [c0,c0,c0,c0,c0]))],.cons rfl (.cons rfl (.cons rfl (.cons rfl (.cons rfl .nil)))),by show 5≤1000;decide,?_⟩
  walk_at "vi"
  have h5:0≤d / 8%5∧d / 8%5<5:=by omega
  generalize d / 8%5=k5 at h5
  obtain⟨w5,hq,hl5,ha5⟩:∃ w5,atI [PyData.str (tw [c0]),.str (tw []),.str (tw [c0,c0,c0,c0,c0,c0]),.str (tw [113,c0]),.str (tw [c0,c0,c0,c0,c0])] k5=some (.str (tw w5))∧w5.length≤6∧∀ y∈w5,97≤y∧y≤122:=by
   have hc:=hg.hc
   have:k5=0∨k5=1∨k5=2∨k5=3∨k5=4:=by omega
   rcases this with e|e|e|e|e<;>subst e<;>refine⟨_,rfl,by simp,fun y hy=>?_⟩<;>simp at hy<;>omega
  refine ix_L rfl hq (Item.flat rfl) ?_
  walk_at "vi"
  refine⟨_,c0,rfl,rfl,NR.av,?_⟩
  dsimp only[List.set]
  exact fin _ _ _ fun n h6 h=>h.putW h.hc (by omega) ha5
 have ixa:∀ {Q:TV→Prop} {E':FK} {X':Exc→Sl→Prop},Q (.av (.d (.str (tw (wof W a)))))→Op K E' X' (rIdx K) (.bor (.dict (encD kc W))) (.av (.d (kc a))) Q:=fun q=>ix_dc kenc rfl rfl hw1 (Item.flat rfl) q
 refine sw_ifJ ?_
 walk_at "vi"
 refine ite2 (fun _=>?_) fun _=>?_
 ·refine sw_a nx_sub (sv_dput (n:=0) (kvs:=W) kenc rfl (by omega) ?_)
  walk_at "vi"
  refine ixa ?_
  walk_at "vi"
  refine add_s (y:=tw (wof W a)) (z:=t1 a) rfl rfl (by rw[hz];show _+1≤_;omega) ?_
  walk_at "vi"
  rw[show tw (wof W a)++t1 a=tw (wof W a++[a]) from tw_app _ [a]]
  refine⟨_,a,rfl,rfl,NR.av,?_⟩
  dsimp only[List.set]
  refine fin _ _ _ fun n h6 h=>h.putW hak (by rw[List.length_append];have:=(h.at ha).2.1;show _+1≤_;omega) fun y hy=>?_
  rcases List.mem_append.mp hy with hy|hy
  ·exact hw3 y hy
  ·rw[List.mem_singleton.mp hy];exact hak
 obtain⟨ws,es,ls,ms⟩:=slice_in (wof W a) (some (-1))
 have hws:∀ y∈ws,97≤y∧y≤122:=fun y hy=>hw3 y (ms y hy)
 refine sw_ifJ ?_
 walk_at "vi"
 refine ite2 (fun _=>?_) fun _=>?_
 ·refine sw_a nx_sub (sv_dput (n:=0) (kvs:=W) kenc rfl (by omega) ?_)
  walk_at "vi"
  refine sl_S ?_
  walk_at "vi"
  refine ixa ?_
  walk_at "vi"
  refine⟨tw (wof W a),rfl,NR.av,by rw[hz];omega,?_⟩
  rw[es]
  walk_at "vi"
  refine⟨_,a,rfl,rfl,NR.av,?_⟩
  dsimp only[List.set]
  exact fin _ _ _ fun n h6 h=>h.putW hak (by have:=(h.at ha).2.1;omega) hws
 refine sw_ifJ ?_
 walk_at "vi"
 refine ite2 (fun _=>?_) fun _=>?_
 ·refine sw_a nx_sub (sv_dput (n:=0) (kvs:=W) kenc rfl (by omega) ?_)
  walk_at "vi"
  refine sl_S ?_
  walk_at "vi"
  refine ixa ?_
  walk_at "vi"
  refine⟨tw (wof W a),rfl,NR.av,by rw[hz];omega,?_⟩
  rw[es]
  walk_at "vi"
  obtain⟨x,hx1,hx2⟩:=alf_at (k:=d / 64%26) ⟨by omega,by omega⟩
  refine ix_S rfl alf_len hx1 ?_
  walk_at "vi"
  have hzs:(tw ws).length=ws.length:=List.size_toArray
  refine add_s (y:=tw ws) (z:=t1 x) rfl rfl (by rw[hzs];show _+1≤_;omega) ?_
  walk_at "vi"
  rw[show tw ws++t1 x=tw (ws++[x]) from tw_app _ [x]]
  refine⟨_,a,rfl,rfl,NR.av,?_⟩
  dsimp only[List.set]
  refine fin _ _ _ fun n h6 h=>h.putW hak (by rw[List.length_append];have:=(h.at ha).2.1;show _+1≤_;omega) fun y hy=>?_
  rcases List.mem_append.mp hy with hy|hy
  ·exact hws y hy
  ·rw[List.mem_singleton.mp hy];exact hx2
 refine sw_ifJ ?_
 walk_at "vi"
 refine ite2 (fun _=>?_) fun _=>?_
 ·refine sw_a nx_drop (sv_popE (n:=2) kf kj rfl ?_)
  walk_at "vi"
  refine⟨a,_,rfl,NR.av,rfl,?_⟩
  dsimp only[List.set]
  exact fin _ _ _ fun n h6 h=>h.dropG
 refine sw_ifJ ?_
 walk_at "vi"
 refine ite2 (fun _=>?_) fun _=>?_
 case refine_2=>exact sw_nx (fin W G _ fun n h6 h=>h.up)
 refine sw_a nx_sub (sv_dput (n:=2) (kvs:=G) kenc rfl (by omega) ?_)
 walk_at "vi"
 refine ev_lst ?_
 walk_at "vi"
 refine⟨[.d (.int 10),.d (.int (-1)),.d (.int (10 ^ Int.toNat 20)),.d (.int 9)],.cons rfl (.cons rfl (.cons rfl (.cons rfl .nil))),by show 4≤1000;decide,?_⟩
 walk_at "vi"
 have h4:0≤d / 64%4∧d / 64%4<4:=by omega
 generalize d / 64%4=k4 at h4
 obtain⟨q,hq⟩:∃ q:Int,atI [PyData.int 10,.int (-1),.int (10 ^ Int.toNat 20),.int 9] k4=some (.int q):=by
  have:k4=0∨k4=1∨k4=2∨k4=3:=by omega
  rcases this with e|e|e|e<;>subst e<;>exact⟨_,rfl⟩
 refine ix_L rfl hq (Item.flat rfl) ?_
 walk_at "vi"
 refine⟨_,a,rfl,rfl,NR.av,?_⟩
 dsimp only[List.set]
 exact fin _ _ _ fun n h6 h=>h.putG h.lg
theorem gd_lo{b:Int}{L:List Nat}{W G:List (Nat×PyData)}{c0:Nat}(h:Gd b L W G c0)(h1:W.length≤7)(h2:G.length≤6)(h3:(W.map Prod.fst).Nodup):Lo 7 W G c0:=by
 have hb:=h.hb
 refine⟨fun p hp=>?_,h.g,h.wne,h3,h1,by omega,h.hL _ h.hc⟩
 obtain⟨h4,w,e,h5,h6⟩:=h.w p hp
 exact⟨h.hL _ h4,w,e,by omega,fun y hy=>h.hL _ (h6 y hy)⟩
theorem lo_clean{n:Nat}{W G:List (Nat×PyData)}{c0:Nat}{d:Int}(h:Lo n W G c0):AV.cleans [.dic (encD kc W),.d (kc c0),.dic (encD kc G),.d (.int d)]=true:=by
 simp only[AV.clean,AV.cleans,dW_clean h.wfl,dW_clean h.gfl]
 rfl
theorem free_one{W:List (Nat×PyData)}(h:W.length≤20):∃ c,97≤c∧c≤122∧getA W c=none:=by
 refine Classical.byContradiction fun hn=>?_
 have key:∀ c,97≤c→c≤122→c∈W.map Prod.fst:=fun c h1 h2=>by
  cases hc:getA W c with
  | none=>exact absurd ⟨c,h1,h2,hc⟩ hn
  | some v=>exact List.mem_map.mpr ⟨_,getA_mem hc,rfl⟩
 have hs:(List.range' 97 26) ⊆ W.map Prod.fst:=fun c hc=>by
  have:=List.mem_range'_1.mp hc
  exact key c this.1 (by omega)
 have hl:(List.range' 97 26).length≤(W.map Prod.fst).length:=nodup_len (List.nodup_range' (step:=1)) hs
 rw[List.length_range',List.length_map] at hl
 omega
theorem ok_law(T:Txt K mg)(B:base.BuiltinsAt mg mainGlobals)(hTs:∀ p∈ts0,p∈Tabs.ts){f:Addr}{fd:FuncData}(F:FunD K "law" "law" s_law .none f fd):FnOk P w K mg base (CXE P w) 7 f fd ["_law_script"] (sp_lawT K):=by
 obtain⟨C_WheelError,C_NoBase,C_TooGreat,C_NoMachine,C_NoText,C_NoWords,Z⟩:=T.cs
 have c_law_spread:Cal P w K mg base (CXE P w) 2 "_law_spread" ["_law_script", "_law_k"] [] (spV K S_spread NX):=ok_spread T
 have c_law_words:Cal P w K mg base (CXE P w) 3 "_law_words" ["_law_script", "_law_most"] [] (spR K Pre_wd Post_wd NP):=ok_words T
 have c_law_spoilt:Cal P w K mg base (CXE P w) 1 "_law_spoilt" ["_law_words_here", "_law_begin", "_law_signs", "_law_cell"] [] (spW K Pre_so Post_so):=ok_spoilt T
 have c_law_fault:Cal P w K mg base (CXE P w) 1 "_law_fault" ["_law_words_here", "_law_begin", "_law_signs"] [] (spR K Pre_ft Post_ft NP):=ok_fault T
 have c_law_refused:Cal P w K mg base (CXE P w) 6 "_law_refused" ["_law_way", "_law_words_here", "_law_begin", "_law_signs", "_law_due"] [] (spV K S_rf NX):=ok_refused T Z
 have c_law_asked:Cal P w K mg base (CXE P w) 5 "_law_asked" ["_law_way", "_law_words_here", "_law_begin", "_law_signs"] [] (spR K Pre_ak Post_ak NP):=ok_asked T B hTs
 refine val_lawT (k:=6) F sc_law rfl fun cdv A outer s H E hr=>?_
 refine⟨_,(pss_cons (ps_asg (pe_cal (c_law_words.mono (by decide)) hr rfl passE (pa_cons (pv 0) (pa_cons pe_int pa_nil))) (pg_tupK (K:=K) (n:=3) rfl rfl (pgs_cons (pg_name (i:=1) sc_law.nd rfl (Or.inr rfl)) (pgs_cons (pg_name (i:=2) sc_law.nd rfl (Or.inl rfl)) (pgs_cons (pg_name (i:=3) sc_law.nd rfl (Or.inl rfl)) pgs_nil)))))
   (pss_cons (ps_for PassesOwn.never rfl (pi_range1 rfl T.n_range (pa_cons (pe_op op_mod (pe_cal (c_law_spread.mono (by decide)) hr rfl passE (pa_cons (pv 0) (pa_cons pe_int pa_nil))) pe_int) pa_nil)) (pg_name (i:=4) sc_law.nd rfl (Or.inl rfl))
    (pss_one (ps_expr (pe_cal (c_law_spoilt.mono (by decide)) hr rfl passE (pa_cons (pv 1) (pa_cons (pv 2) (pa_cons (pv 3) (pa_cons (pe_cal (c_law_spread.mono (by decide)) hr rfl passE (pa_cons (pv 0) (pa_cons (pe_op (op_plus (K:=K) rfl) pe_int (pv 4)) pa_nil))) pa_nil))))))))
   (pss_cons (ps_ifJ (pt_cmpR (op_equ (K:=K) rfl hr.units) (pe_op op_mod (pe_cal (c_law_spread.mono (by decide)) hr rfl passE (pa_cons (pv 0) (pa_cons pe_int pa_nil))) pe_int) pe_int (nomark _))
    (pss_cons (ps_setC (i:=5) sc_law.nd rfl rfl (N:=["_law_letter", "_law_words_here"]) (cap:=[none,some 1]) rfl rfl rfl (by kernel_rfl) (pi_str pe_str) (fun _ _ _ _=>(pg_name (i:=0) (show (["_law_letter", "_law_words_here"]:List Str).Nodup from by decide +kernel) rfl (Or.inl rfl))) (fun _ _ _ _=>(pifs_one (pt_cmpR (op_notInA (K:=K) rfl hr.units) (pv 0) (pv 1) (by with_unfolding_all rfl)))) (fun _ _ _ _=>(pv 0)))
    (pss_one (ps_asg (pe_ix (ix_any (K:=K) rfl hr.units) (pe_lst (pa_cons pe_int (pa_cons (pe_un un_neg pe_int) (pa_cons pe_int pa_nil)))) (pe_op op_mod (pe_op op_fdiv (pe_cal (c_law_spread.mono (by decide)) hr rfl passE (pa_cons (pv 0) (pa_cons pe_int pa_nil))) pe_int) pe_int) (fun _ _=>rfl)) (pg_sub (pv 3) (pe_ix (ix_any (K:=K) rfl hr.units) (pv 5) pe_int (fun _ _=>rfl)) (set_any hr.units)))))
    pss_nil)
   (pss_cons (ps_set (i:=6) sc_law.nd rfl (Or.inl rfl) (pe_cal (c_law_fault.mono (by decide)) hr rfl passE (pa_cons (pv 1) (pa_cons (pv 2) (pa_cons (pv 3) pa_nil)))))
   (pss_cons (ps_set (i:=7) sc_law.nd rfl (Or.inl rfl) (pe_tup (pa_cons (pe_callTy call_dictE rfl T.n_dict PyProof.Rows.boot_dict (pa_cons (pv 1) pa_nil)) (pa_cons (pe_callTy call_dictE rfl T.n_dict PyProof.Rows.boot_dict (pa_cons (pv 3) pa_nil)) pa_nil))))
   (pss_cons (ps_for PassesOwn.never rfl (pi_range1 rfl T.n_range (pa_cons pe_int pa_nil)) (pg_name (i:=8) sc_law.nd rfl (Or.inl rfl))
    (pss_one (ps_ifJ (pt_cmpR op_notN (pv 6) pe_non (nomark _))
     (pss_one (ps_if (pt_not (pt_val (pe_cal (c_law_refused.mono (by decide)) hr rfl passE (pa_cons (pv 8) (pa_cons (pe_ix (ix_any (K:=K) rfl hr.units) (pv 7) pe_int (fun _ _=>rfl)) (pa_cons (pv 2) (pa_cons (pe_ix (ix_any (K:=K) rfl hr.units) (pv 7) pe_int (fun _ _=>rfl)) (pa_cons (pv 6) pa_nil))))))))
      (pss_one (ps_ret pe_bl))
      pss_nil))
     (pss_one (ps_expr (pe_cal (c_law_asked.mono (by decide)) hr rfl passE (pa_cons (pv 8) (pa_cons (pe_ix (ix_any (K:=K) rfl hr.units) (pv 7) pe_int (fun _ _=>rfl)) (pa_cons (pv 2) (pa_cons (pe_ix (ix_any (K:=K) rfl hr.units) (pv 7) pe_int (fun _ _=>rfl)) pa_nil))))))))))
   (pss_one (ps_ret (pe_and (pe_cmpR (op_eqDE (K:=K) rfl hr.units) (pe_ix (ix_any (K:=K) rfl hr.units) (pv 7) pe_int (fun _ _=>rfl)) (pv 1) (nomark _)) (pe_one (pe_cmpR (op_eqDE (K:=K) rfl hr.units) (pe_ix (ix_any (K:=K) rfl hr.units) (pv 7) pe_int (fun _ _=>rfl)) (pv 3) (nomark _)))))))))))),?_⟩
 intro ns hn hbits
 show Sv K _ _ _ [some (.d (dI ns)),none,none,none,none,none,none,none,none] _
 walk_at "v"
 refine sv_un3 ?_
 walk_at "vi"
 refine use_words ⟨by decide,by decide⟩ fun b L W G c0 hg h1 h2 h3=>?_
 have hlo:=gd_lo hg h1 h2 h3
 clear hg h1 h2 h3
 refine⟨_,_,_,rfl,?_⟩
 show Sv K _ _ _ [some (.d (dI ns)),some (.dic (encD kc W)),some (.d (kc c0)),some (.dic (encD kc G)),none,none,none,none,none] _
 walk_at "vi"
 refine for_R ?_
 walk_at "vi"
 refine use_spread (by decide) ?_
 have hs4:=sprd_range ns 4
 generalize sprd ns 4=c4 at hs4
 walk_at "vi"
 refine⟨c4%3,rfl,⟨by omega,by omega⟩,fun i ρ=>∃ (W G:List (Nat×PyData)) (o:Option AV),ρ=[some (.d (dI ns)),some (.dic (encD kc W)),some (.d (kc c0)),some (.dic (encD kc G)),o,none,none,none,none]∧Lo (7+i) W G c0,⟨W,G,none,rfl,hlo⟩,?_,?_⟩
 ·rintro i ρ hi ⟨W,G,o,rfl,hI⟩
  walk_at "v"
  refine sv_callW (wa_slot (i:=1) rfl (wa_slot (i:=2) rfl (wa_slot (i:=3) rfl (wa_int ?_))))
  walk_at "vi"
  refine use_spread (by omega) ?_
  refine⟨_,NR.av,rfl,wa_nil ⟨[.dic (encD kc W),.d (kc c0),.dic (encD kc G),.d (.int _)],.slot rfl (.slot rfl (.slot rfl (.val rfl .nil))),⟨_,W,G,c0,_,rfl,hI,by omega,by omega⟩,?_⟩⟩
  rintro cs' ⟨W0,G0,c1,d0,e0,W',G',rfl,h⟩
  simp only[List.cons.injEq,AV.dic.injEq,AV.d.injEq,PyData.int.injEq,and_true] at e0
  have e1:=encD_inj e0.1
  have e2:=kc_inj e0.2.1
  have e3:=encD_inj e0.2.2.1
  subst e1 e2 e3
  have h9:=h _ (by omega) hI
  refine⟨lo_clean h9,W',G',_,rfl,?_⟩
  rw[show 7+(i+1)=7+i+1 by omega]
  exact h9
 rintro ρ ⟨W,G,o,rfl,hI⟩
 have hi4:(c4%3).toNat≤2:=by omega
 generalize (c4%3).toNat=kk at hI hi4
 walk_at "vi"
 refine s_ifJ (fun ρ=>∃ (n:Nat) (G:List (Nat×PyData)) (o1 o2:Option AV),ρ=[some (.d (dI ns)),some (.dic (encD kc W)),some (.d (kc c0)),some (.dic (encD kc G)),o1,o2,none,none,none]∧Lo n W G c0∧n≤20) ?_ ?_
 case refine_2 =>
  have hlw:=hI.lw
  have hlg:=hI.lg
  walk_at "vi"
  refine use_spread (by decide) ?_
  generalize sprd ns 7=c7
  walk_at "vi"
  refine ite2 (fun _=>?_) fun _=>?_
  case refine_2 =>
   walk_at "vi"
   exact⟨_,G,_,_,rfl,hI,by omega⟩
  walk_at "vi"
  refine ev_compR (iv_str ?_)
  walk_at "vi"
  refine⟨alf,rfl,NR.av,by decide +kernel,by decide +kernel,fun i ys=>∃ cs:List Nat,ys=cs.map (fun c=>.d (kc c))∧∀ j,j<i→getA W (97+j)=none→cs≠[],⟨[],rfl,fun j hj=>by omega⟩,fun i ys hi hy=>?_,fun ys hy=>?_⟩
  ·have hi:i<26:=hi
   have ea:alf.cps.getD i 0=97+i:=(by decide +kernel:∀ i,i<26→alf.cps.getD i 0=97+i) i hi
   obtain⟨cs,rfl,hcs⟩:=hy
   show Gv K _ _ [none,some (.d (dW W))] _
   walk_at "vi"
   refine⟨wk_0,?_⟩
   walk_at "vi"
   refine nin_dc (c:=alf.cps.getD i 0) kenc rfl rfl ?_
   rw[ea]
   cases hc:(getA W (97+i)).isSome with
   | true =>
    refine⟨false,rfl,?_⟩
    rw[if_neg Bool.false_ne_true]
    refine⟨cs,rfl,fun j hj hn=>?_⟩
    by_cases e:j=i
    ·subst e;rw[hn] at hc;cases hc
    ·exact hcs j (by omega) hn
   | false =>
    refine⟨true,rfl,?_⟩
    rw[if_pos rfl]
    walk_at "vi"
    exact⟨_,rfl,cs++[alf.cps.getD i 0],by rw[List.map_append];rfl,fun j hj hn=>by simp⟩
  obtain⟨cs,rfl,hcs⟩:=hy
  have hne:cs≠[]:=by
   obtain⟨c,h1,h2,h3⟩:=free_one (W:=W) (by omega)
   refine hcs (c-97) ?_ (by rw[show 97+(c-97)=c by omega];exact h3)
   show c-97<alf.length
   rw[show alf.length=26 by decide +kernel]
   omega
  refine⟨_,Got.own (oC_clean cs),?_⟩
  refine v_sD (oC_data cs) ?_
  obtain⟨x,cs,rfl⟩:∃ x r,cs=x::r:=by
   cases cs with
   | nil=>exact absurd rfl hne
   | cons x r=>exact⟨x,r,rfl⟩
  refine sv_dput (n:=3) (kvs:=G) kenc rfl (by omega) ?_
  walk_at "vi"
  refine ev_lst ?_
  walk_at "vi"
  refine⟨[.d (.int 10),.d (.int (-1)),.d (.int 3)],.cons rfl (.cons rfl (.cons rfl .nil)),by show 3≤1000;decide,?_⟩
  walk_at "vi"
  refine use_spread (by decide) ?_
  generalize sprd ns 7=c7'
  walk_at "vi"
  have h3:0≤c7' / 3%3∧c7' / 3%3<3:=by omega
  generalize c7' / 3%3=k3 at h3
  obtain⟨q,hq⟩:∃ q:Int,atI [PyData.int 10,.int (-1),.int 3] k3=some (.int q):=by
   have:k3=0∨k3=1∨k3=2:=by omega
   rcases this with e|e|e<;>subst e<;>exact⟨_,rfl⟩
  refine ix_L rfl hq (Item.flat rfl) ?_
  walk_at "vi"
  refine ix_L rfl (show atI ((x::cs).map kc) 0=some (kc x) from atI_of (by decide) rfl) Item.d ?_
  refine⟨_,x,rfl,rfl,NR.av,?_⟩
  dsimp only[List.set]
  exact⟨_,_,_,_,rfl,hI.putG hlg,by omega⟩
 clear hlo hI G
 rintro ρ ⟨n,G,o1,o2,rfl,hI,hn20⟩
 walk_at "vi"
 refine use_fault NR.bor NR.av NR.bor rfl rfl rfl hI hn20 fun ks hks=>?_
 walk_at "vi"
 refine ev_tup ?_
 walk_at "vi"
 refine bi_dictE kf kj rfl hI.wfl ?_
 walk_at "vi"
 refine bi_dictE kf kj rfl hI.gfl ?_
 walk_at "vi"
 refine⟨[.dic (encD kc W),.dic (encD kc G)],.cons rfl (.cons rfl .nil),by show 2≤1000;decide,?_⟩
 show ∃ a',Sto _ (.av (.d (.tuple [dW W,dW G]))) a'∧_
 walk_at "vi"
 refine for_R ?_
 walk_at "vi"
 refine⟨7,rfl,⟨by decide,by decide⟩,fun i ρ=>∃ o,ρ=[some (.d (dI ns)),some (.dic (encD kc W)),some (.d (kc c0)),some (.dic (encD kc G)),o1,o2,some (.d (fD (flt W G c0 ks))),some (.d (.tuple [dW W,dW G])),o],⟨none,rfl⟩,?_,?_⟩
 ·rintro i ρ hi ⟨o,rfl⟩
  have hi:i<7:=hi
  walk_at "vi"
  refine s_ifJ (fun ρ=>ρ=[some (.d (dI ns)),some (.dic (encD kc W)),some (.d (kc c0)),some (.dic (encD kc G)),o1,o2,some (.d (fD (flt W G c0 ks))),some (.d (.tuple [dW W,dW G])),some (.d (.int i))]) ?_ ?_
  ·rintro ρ rfl
   exact⟨_,rfl⟩
  cases hf:flt W G c0 ks with
  | some k =>
   walk_at "vi"
   refine isnt_S (by rfl) ?_
   walk_at "vi"
   refine s_if ?_
   walk_at "vi"
   refine use_refused ⟨n,ks,hI,hn20,hks,hf⟩ ?_
   walk_at "vi"
   rfl
  | none =>
   obtain⟨b,hg⟩:=flt_gd hI hn20 hks hf
   walk_at "vi"
   refine isnt_N (by rfl) ?_
   walk_at "vi"
   refine use_asked hg ⟨by omega,by omega⟩ fun x=>?_
   walk_at "vi"
   rfl
 rintro ρ ⟨o,rfl⟩
 walk_at "vi"
 refine eq_dE kf kj rfl rfl hI.wsc ?_
 walk_at "vi"
 refine eq_dE kf kj rfl rfl hI.gsc ?_
 exact res_d rfl
end
noncomputable instance tabs0:Tabs:=⟨ts0⟩
theorem len_0{P:List Value→Prop}(h:P []):∀ us,us.length=0→P us:=fun us e=>(List.eq_nil_of_length_eq_zero e).symm▸h
theorem len_s{P:List Value→Prop}{n:Nat}(h:∀ a us,us.length=n→P (a::us))(us:List Value)(e:us.length=n+1):P us:=by
  cases us with
  | nil=>cases e
  | cons a us=>exact h a us (Nat.succ.inj e)
theorem len_1{P:List Value→Prop}(h:∀ a0,P [a0]):∀ us,us.length=1→P us:=len_s fun a0=>len_0 (P:=fun us=>P (a0::us)) (h a0)
theorem len_2{P:List Value→Prop}(h:∀ a0 a1,P [a0,a1]):∀ us,us.length=2→P us:=len_s fun a0=>len_1 (P:=fun us=>P (a0::us)) (h a0)
theorem len_3{P:List Value→Prop}(h:∀ a0 a1 a2,P [a0,a1,a2]):∀ us,us.length=3→P us:=len_s fun a0=>len_2 (P:=fun us=>P (a0::us)) (h a0)
theorem len_4{P:List Value→Prop}(h:∀ a0 a1 a2 a3,P [a0,a1,a2,a3]):∀ us,us.length=4→P us:=len_s fun a0=>len_3 (P:=fun us=>P (a0::us)) (h a0)
theorem len_5{P:List Value→Prop}(h:∀ a0 a1 a2 a3 a4,P [a0,a1,a2,a3,a4]):∀ us,us.length=5→P us:=len_s fun a0=>len_4 (P:=fun us=>P (a0::us)) (h a0)
theorem lenD_1:∀ (us:List Value),us.length=1→∃ a0,us=[a0]:=len_1 fun a0=>⟨a0,rfl⟩
theorem lenD_2:∀ (us:List Value),us.length=2→∃ a0 a1,us=[a0,a1]:=len_2 fun a0 a1=>⟨a0,a1,rfl⟩
theorem all_mk{l:PySem.W.OpenLaw}{w:World}{K:W.Frag}{h:Heap}{mg:Str→Option Value}{fa:Addr}(X:K.In h)(G:h.Ns mainGlobals mg)(hfa:mg "law" = some (.ref fa))
  {t_LEAST_BASE:Tok} (g_LEAST_BASE:PySem.W.nsIn K mainGlobals "LEAST_BASE" = some (some (.int 2 t_LEAST_BASE)))
  {t_GREATEST_BASE:Tok} (g_GREATEST_BASE:PySem.W.nsIn K mainGlobals "GREATEST_BASE" = some (some (.int 5 t_GREATEST_BASE)))
  {t_GREATEST_SIGN:Tok} (g_GREATEST_SIGN:PySem.W.nsIn K mainGlobals "GREATEST_SIGN" = some (some (.int 9 t_GREATEST_SIGN)))
  {t_SHORTEST_WORD:Tok} (g_SHORTEST_WORD:PySem.W.nsIn K mainGlobals "SHORTEST_WORD" = some (some (.int 2 t_SHORTEST_WORD)))
  {t_LONGEST_WORD:Tok} (g_LONGEST_WORD:PySem.W.nsIn K mainGlobals "LONGEST_WORD" = some (some (.int 5 t_LONGEST_WORD)))
  (z_ValueError:PySem.W.nsIn K mainGlobals "ValueError" = some none)
  (z_all:PySem.W.nsIn K mainGlobals "all" = some none)
  (z_dict:PySem.W.nsIn K mainGlobals "dict" = some none)
  (z_enumerate:PySem.W.nsIn K mainGlobals "enumerate" = some none)
  (z_isinstance:PySem.W.nsIn K mainGlobals "isinstance" = some none)
  (z_len:PySem.W.nsIn K mainGlobals "len" = some none)
  (z_range:PySem.W.nsIn K mainGlobals "range" = some none)
  (z_sorted:PySem.W.nsIn K mainGlobals "sorted" = some none)
  (z_str:PySem.W.nsIn K mainGlobals "str" = some none)
  (z_tuple:PySem.W.nsIn K mainGlobals "tuple" = some none)
  {f0:Addr} {oc0 kV0 dc0 pm0 cd0 ct0:Value} {od0 an0:Option Addr} {sl0:Array (Option Value)}
  (a0:PySem.W.nsIn K mainGlobals "want_base" = some (some (.ref f0))) (l0:K.lookup f0=some ⟨oc0,od0,.func (PySem.W.fnOf "want_base" "want_base" (defArgs s_want_base) (defBody s_want_base) (defScope s_want_base) .none kV0 dc0 pm0 an0 cd0 ct0),sl0⟩) (c0:PySem.W.codeIn K cd0 "want_base" = true) (k0:PySem.W.keepIn K (.ref f0)=true)
  {f1:Addr} {oc1 kV1 dc1 pm1 cd1 ct1:Value} {od1 an1:Option Addr} {sl1:Array (Option Value)}
  {T1:Addr} {oq1:Value} {oe1:Option Addr} {sq1:Array (Option Value)} {tk1:Tok} {nq1:Nat}
  (a1:PySem.W.nsIn K mainGlobals "figures_of" = some (some (.ref f1))) (l1:K.lookup f1=some ⟨oc1,od1,.func (PySem.W.fnOf "figures_of" "figures_of" (defArgs s_figures_of) (defBody s_figures_of) (defScope s_figures_of) (.ref T1) kV1 dc1 pm1 an1 cd1 ct1),sl1⟩)
  (d1:K.lookup T1=some ⟨oq1,oe1,.seq #[.int 2 tk1] nq1,sq1⟩) (c1:PySem.W.codeIn K cd1 "figures_of" = true) (k1:PySem.W.keepIn K (.ref f1)=true)
  {f2:Addr} {oc2 kV2 dc2 pm2 cd2 ct2:Value} {od2 an2:Option Addr} {sl2:Array (Option Value)}
  (a2:PySem.W.nsIn K mainGlobals "met_from" = some (some (.ref f2))) (l2:K.lookup f2=some ⟨oc2,od2,.func (PySem.W.fnOf "met_from" "met_from" (defArgs s_met_from) (defBody s_met_from) (defScope s_met_from) .none kV2 dc2 pm2 an2 cd2 ct2),sl2⟩) (c2:PySem.W.codeIn K cd2 "met_from" = true) (k2:PySem.W.keepIn K (.ref f2)=true)
  {f3:Addr} {oc3 kV3 dc3 pm3 cd3 ct3:Value} {od3 an3:Option Addr} {sl3:Array (Option Value)}
  (a3:PySem.W.nsIn K mainGlobals "machine_met" = some (some (.ref f3))) (l3:K.lookup f3=some ⟨oc3,od3,.func (PySem.W.fnOf "machine_met" "machine_met" (defArgs s_machine_met) (defBody s_machine_met) (defScope s_machine_met) .none kV3 dc3 pm3 an3 cd3 ct3),sl3⟩) (c3:PySem.W.codeIn K cd3 "machine_met" = true) (k3:PySem.W.keepIn K (.ref f3)=true)
  {f4:Addr} {oc4 kV4 dc4 pm4 cd4 ct4:Value} {od4 an4:Option Addr} {sl4:Array (Option Value)}
  (a4:PySem.W.nsIn K mainGlobals "is_sign" = some (some (.ref f4))) (l4:K.lookup f4=some ⟨oc4,od4,.func (PySem.W.fnOf "is_sign" "is_sign" (defArgs s_is_sign) (defBody s_is_sign) (defScope s_is_sign) .none kV4 dc4 pm4 an4 cd4 ct4),sl4⟩) (c4:PySem.W.codeIn K cd4 "is_sign" = true) (k4:PySem.W.keepIn K (.ref f4)=true)
  {f5:Addr} {oc5 kV5 dc5 pm5 cd5 ct5:Value} {od5 an5:Option Addr} {sl5:Array (Option Value)}
  (a5:PySem.W.nsIn K mainGlobals "is_beginning" = some (some (.ref f5))) (l5:K.lookup f5=some ⟨oc5,od5,.func (PySem.W.fnOf "is_beginning" "is_beginning" (defArgs s_is_beginning) (defBody s_is_beginning) (defScope s_is_beginning) .none kV5 dc5 pm5 an5 cd5 ct5),sl5⟩) (c5:PySem.W.codeIn K cd5 "is_beginning" = true) (k5:PySem.W.keepIn K (.ref f5)=true)
  {f6:Addr} {oc6 kV6 dc6 pm6 cd6 ct6:Value} {od6 an6:Option Addr} {sl6:Array (Option Value)}
  (a6:PySem.W.nsIn K mainGlobals "is_whole" = some (some (.ref f6))) (l6:K.lookup f6=some ⟨oc6,od6,.func (PySem.W.fnOf "is_whole" "is_whole" (defArgs s_is_whole) (defBody s_is_whole) (defScope s_is_whole) .none kV6 dc6 pm6 an6 cd6 ct6),sl6⟩) (c6:PySem.W.codeIn K cd6 "is_whole" = true) (k6:PySem.W.keepIn K (.ref f6)=true)
  {f7:Addr} {oc7 kV7 dc7 pm7 cd7 ct7:Value} {od7 an7:Option Addr} {sl7:Array (Option Value)}
  (a7:PySem.W.nsIn K mainGlobals "want_words" = some (some (.ref f7))) (l7:K.lookup f7=some ⟨oc7,od7,.func (PySem.W.fnOf "want_words" "want_words" (defArgs s_want_words) (defBody s_want_words) (defScope s_want_words) .none kV7 dc7 pm7 an7 cd7 ct7),sl7⟩) (c7:PySem.W.codeIn K cd7 "want_words" = true) (k7:PySem.W.keepIn K (.ref f7)=true)
  {f8:Addr} {oc8 kV8 dc8 pm8 cd8 ct8:Value} {od8 an8:Option Addr} {sl8:Array (Option Value)}
  (a8:PySem.W.nsIn K mainGlobals "letter_at" = some (some (.ref f8))) (l8:K.lookup f8=some ⟨oc8,od8,.func (PySem.W.fnOf "letter_at" "letter_at" (defArgs s_letter_at) (defBody s_letter_at) (defScope s_letter_at) .none kV8 dc8 pm8 an8 cd8 ct8),sl8⟩) (c8:PySem.W.codeIn K cd8 "letter_at" = true) (k8:PySem.W.keepIn K (.ref f8)=true)
  {f9:Addr} {oc9 kV9 dc9 pm9 cd9 ct9:Value} {od9 an9:Option Addr} {sl9:Array (Option Value)}
  (a9:PySem.W.nsIn K mainGlobals "grown" = some (some (.ref f9))) (l9:K.lookup f9=some ⟨oc9,od9,.func (PySem.W.fnOf "grown" "grown" (defArgs s_grown) (defBody s_grown) (defScope s_grown) .none kV9 dc9 pm9 an9 cd9 ct9),sl9⟩) (c9:PySem.W.codeIn K cd9 "grown" = true) (k9:PySem.W.keepIn K (.ref f9)=true)
  {f10 q10:Addr} {oc10 kV10 dc10 pm10 ct10:Value} {od10 an10:Option Addr} {sl10:Array (Option Value)}
  (a10:PySem.W.nsIn K mainGlobals "row_of_words" = some (some (.ref f10))) (l10:K.lookup f10=some ⟨oc10,od10,.func (PySem.W.fnOf "row_of_words" "row_of_words" (defArgs s_row_of_words) (defBody s_row_of_words) (defScope s_row_of_words) .none kV10 dc10 pm10 an10 (.ref q10) ct10),sl10⟩) (c10:PySem.W.codeIn K (.ref q10) "row_of_words" = true) (k10:PySem.W.keepIn K (.ref f10)=true) (m10:PySem.W.codeHdIn K q10 tb_row_of_words=true)
  {f11:Addr} {oc11 kV11 dc11 pm11 cd11 ct11:Value} {od11 an11:Option Addr} {sl11:Array (Option Value)}
  (a11:PySem.W.nsIn K mainGlobals "_law_cell_at" = some (some (.ref f11))) (l11:K.lookup f11=some ⟨oc11,od11,.func (PySem.W.fnOf "_law_cell_at" "_law_cell_at" (defArgs s_law_cell_at) (defBody s_law_cell_at) (defScope s_law_cell_at) .none kV11 dc11 pm11 an11 cd11 ct11),sl11⟩) (c11:PySem.W.codeIn K cd11 "_law_cell_at" = true) (k11:PySem.W.keepIn K (.ref f11)=true)
  {f12:Addr} {oc12 kV12 dc12 pm12 cd12 ct12:Value} {od12 an12:Option Addr} {sl12:Array (Option Value)}
  (a12:PySem.W.nsIn K mainGlobals "_law_spread" = some (some (.ref f12))) (l12:K.lookup f12=some ⟨oc12,od12,.func (PySem.W.fnOf "_law_spread" "_law_spread" (defArgs s_law_spread) (defBody s_law_spread) (defScope s_law_spread) .none kV12 dc12 pm12 an12 cd12 ct12),sl12⟩) (c12:PySem.W.codeIn K cd12 "_law_spread" = true) (k12:PySem.W.keepIn K (.ref f12)=true)
  {f13:Addr} {oc13 kV13 dc13 pm13 cd13 ct13:Value} {od13 an13:Option Addr} {sl13:Array (Option Value)}
  (a13:PySem.W.nsIn K mainGlobals "_law_mix" = some (some (.ref f13))) (l13:K.lookup f13=some ⟨oc13,od13,.func (PySem.W.fnOf "_law_mix" "_law_mix" (defArgs s_law_mix) (defBody s_law_mix) (defScope s_law_mix) .none kV13 dc13 pm13 an13 cd13 ct13),sl13⟩) (c13:PySem.W.codeIn K cd13 "_law_mix" = true) (k13:PySem.W.keepIn K (.ref f13)=true)
  {f14:Addr} {oc14 kV14 dc14 pm14 cd14 ct14:Value} {od14 an14:Option Addr} {sl14:Array (Option Value)}
  (a14:PySem.W.nsIn K mainGlobals "_law_letters" = some (some (.ref f14))) (l14:K.lookup f14=some ⟨oc14,od14,.func (PySem.W.fnOf "_law_letters" "_law_letters" (defArgs s_law_letters) (defBody s_law_letters) (defScope s_law_letters) .none kV14 dc14 pm14 an14 cd14 ct14),sl14⟩) (c14:PySem.W.codeIn K cd14 "_law_letters" = true) (k14:PySem.W.keepIn K (.ref f14)=true)
  {f15:Addr} {oc15 kV15 dc15 pm15 cd15 ct15:Value} {od15 an15:Option Addr} {sl15:Array (Option Value)}
  (a15:PySem.W.nsIn K mainGlobals "_law_words" = some (some (.ref f15))) (l15:K.lookup f15=some ⟨oc15,od15,.func (PySem.W.fnOf "_law_words" "_law_words" (defArgs s_law_words) (defBody s_law_words) (defScope s_law_words) .none kV15 dc15 pm15 an15 cd15 ct15),sl15⟩) (c15:PySem.W.codeIn K cd15 "_law_words" = true) (k15:PySem.W.keepIn K (.ref f15)=true)
  {f16:Addr} {oc16 kV16 dc16 pm16 cd16 ct16:Value} {od16 an16:Option Addr} {sl16:Array (Option Value)}
  (a16:PySem.W.nsIn K mainGlobals "_law_spoilt" = some (some (.ref f16))) (l16:K.lookup f16=some ⟨oc16,od16,.func (PySem.W.fnOf "_law_spoilt" "_law_spoilt" (defArgs s_law_spoilt) (defBody s_law_spoilt) (defScope s_law_spoilt) .none kV16 dc16 pm16 an16 cd16 ct16),sl16⟩) (c16:PySem.W.codeIn K cd16 "_law_spoilt" = true) (k16:PySem.W.keepIn K (.ref f16)=true)
  {f17:Addr} {oc17 kV17 dc17 pm17 cd17 ct17:Value} {od17 an17:Option Addr} {sl17:Array (Option Value)}
  (a17:PySem.W.nsIn K mainGlobals "_law_fault" = some (some (.ref f17))) (l17:K.lookup f17=some ⟨oc17,od17,.func (PySem.W.fnOf "_law_fault" "_law_fault" (defArgs s_law_fault) (defBody s_law_fault) (defScope s_law_fault) .none kV17 dc17 pm17 an17 cd17 ct17),sl17⟩) (c17:PySem.W.codeIn K cd17 "_law_fault" = true) (k17:PySem.W.keepIn K (.ref f17)=true)
  {f18:Addr} {oc18 kV18 dc18 pm18 cd18 ct18:Value} {od18 an18:Option Addr} {sl18:Array (Option Value)}
  (a18:PySem.W.nsIn K mainGlobals "_law_asked" = some (some (.ref f18))) (l18:K.lookup f18=some ⟨oc18,od18,.func (PySem.W.fnOf "_law_asked" "_law_asked" (defArgs s_law_asked) (defBody s_law_asked) (defScope s_law_asked) .none kV18 dc18 pm18 an18 cd18 ct18),sl18⟩) (c18:PySem.W.codeIn K cd18 "_law_asked" = true) (k18:PySem.W.keepIn K (.ref f18)=true)
  {f19:Addr} {oc19 kV19 dc19 pm19 cd19 ct19:Value} {od19 an19:Option Addr} {sl19:Array (Option Value)}
  (a19:PySem.W.nsIn K mainGlobals "_law_refused" = some (some (.ref f19))) (l19:K.lookup f19=some ⟨oc19,od19,.func (PySem.W.fnOf "_law_refused" "_law_refused" (defArgs s_law_refused) (defBody s_law_refused) (defScope s_law_refused) .none kV19 dc19 pm19 an19 cd19 ct19),sl19⟩) (c19:PySem.W.codeIn K cd19 "_law_refused" = true) (k19:PySem.W.keepIn K (.ref f19)=true)
  {C_WheelError:Addr} {C_NoBase:Addr} {C_TooGreat:Addr} {C_NoMachine:Addr} {C_NoText:Addr} {C_NoWords:Addr}
  (cc_WheelError:PySem.W.nsIn K mainGlobals "WheelError" = some (some (.ref C_WheelError)))
  (cc_NoBase:PySem.W.nsIn K mainGlobals "NoBase" = some (some (.ref C_NoBase)))
  (cc_TooGreat:PySem.W.nsIn K mainGlobals "TooGreat" = some (some (.ref C_TooGreat)))
  (cc_NoMachine:PySem.W.nsIn K mainGlobals "NoMachine" = some (some (.ref C_NoMachine)))
  (cc_NoText:PySem.W.nsIn K mainGlobals "NoText" = some (some (.ref C_NoText)))
  (cc_NoWords:PySem.W.nsIn K mainGlobals "NoWords" = some (some (.ref C_NoWords)))
  {ocI kVI dcI pmI cdI ctI:Value} {odI anI:Option Addr} {slI:Array (Option Value)}
  (hI:excInI K C_NoWords [.type "ValueError",.type "Exception",.type "BaseException",.type "object"] "ValueError.__new__" 103=true)
  (lI:K.lookup 103=some ⟨ocI,odI,.func (PySem.W.fnOf "__init__" "NoWords.__init__" (defArgs s_NoWords_init) (defBody s_NoWords_init) (defScope s_NoWords_init) .none kVI dcI pmI anI cdI ctI),slI⟩)
  (cI:PySem.W.codeIn K cdI "NoWords.__init__" = true)
  (kI:PySem.W.keepIn K (.ref 103)=true)
  (sa:PySem.W.findIn K (.ref C_NoWords) "__setattr__" = some (some (.builtin "object.__setattr__")))
  (ov:valOver K C_NoWords=true)
  (tk1:PySem.W.takerIn K C_NoWords "letter" = some none)
  (hdI:PySem.W.hasDictIn K C_NoWords=true)
  (no1:PySem.W.findIn K (.ref C_NoWords) "letter" = some none)
  (kk1:PySem.W.findIn K (.ref C_NoWords) "__getattribute__" = some (some (.builtin "BaseException.__getattribute__")))
  (kk2:PySem.W.findIn K (.ref C_NoWords) "__getattr__" = some none)
  (kk3:PySem.W.mroIn K C_NoWords (.type "BaseException")=some true)
  (kk4:PySem.W.mroIn K C_NoWords (.type "object")=some true)
  (kk5:PySem.W.findIn K (.ref C_NoWords) "__class__" = some (some (.builtin "object.__class__")))
  (kk6:PySem.W.specialIn K (.builtin "object.__class__") "__get__" = some (some (.builtin "getset_descriptor.__get__")))
  (kk7:PySem.W.takesIn K (.builtin "object.__class__")=some true)
  (hm:PySem.W.exmOne K (.ref C_NoWords) (.ref C_NoWords)=some true)
  (hm2:PySem.W.exmOne K (.ref C_NoWords) (.ref C_WheelError)=some true)
  (ki1:PySem.W.kitOne K (.ref C_NoWords) (.type "ValueError")=some true)
  (ki2:PySem.W.kitOne K (.ref C_NoWords) (.ref C_NoWords)=some true)
  (ki3:PySem.W.kitAny K (.ref C_NoWords) [.ref C_NoText,.ref C_NoMachine]=some false)
  {fL:Addr} {ocL kVL dcL pmL cdL ctL:Value} {odL anL:Option Addr} {slL:Array (Option Value)} (aL:PySem.W.nsIn K mainGlobals "law" = some (some (.ref fL))) (lL:K.lookup fL=some ⟨ocL,odL,.func (PySem.W.fnOf "law" "law" (defArgs s_law) (defBody s_law) (defScope s_law) .none kVL dcL pmL anL cdL ctL),slL⟩) (cL:PySem.W.codeIn K cdL "law" = true) (kL:PySem.W.keepIn K (.ref fL)=true) :
  ∃ fd:FuncData,(∀ (s:Shared) (v:Value),BindsTo s fd ⟨[v],[]⟩ [("_law_script",v)])∧∀ base:Heap,K.In base→base.Ns mainGlobals mg→base.BuiltinsAt mg mainGlobals→FnOk l.prog w K mg base (CXE l.prog w) 7 fa fd ["_law_script"] (sp_lawT K):=by
 have e:=hfa.symm.trans (PySem.W.mg_of X G aL)
 cases e
 have T:Txt K mg:=⟨cst_mk X G g_LEAST_BASE,
  cst_mk X G g_GREATEST_BASE,
  cst_mk X G g_GREATEST_SIGN,
  cst_mk X G g_SHORTEST_WORD,
  cst_mk X G g_LONGEST_WORD,
  PySem.W.mg_none_of X G z_ValueError,
  PySem.W.mg_none_of X G z_all,
  PySem.W.mg_none_of X G z_dict,
  PySem.W.mg_none_of X G z_enumerate,
  PySem.W.mg_none_of X G z_isinstance,
  PySem.W.mg_none_of X G z_len,
  PySem.W.mg_none_of X G z_range,
  PySem.W.mg_none_of X G z_sorted,
  PySem.W.mg_none_of X G z_str,
  PySem.W.mg_none_of X G z_tuple,
  tx_mk X G a0 l0 c0 k0 (len_1 fun _=>rfl),
  tx_mkD X G a1 l1 d1 c1 k1 (fun s us KX hl=>by obtain⟨_,_,rfl⟩:=lenD_2 us (by simpa using hl);exact PySem.W.binds_K KX rfl d1 rfl rfl rfl) (fun s us KX hl=>by obtain⟨_,rfl⟩:=lenD_1 us (by simpa using hl);exact PySem.W.binds_K KX rfl d1 rfl rfl rfl),
  tx_mk X G a2 l2 c2 k2 (len_4 fun _ _ _ _=>rfl),
  tx_mk X G a3 l3 c3 k3 (len_5 fun _ _ _ _ _=>rfl),
  tx_mk X G a4 l4 c4 k4 (len_1 fun _=>rfl),
  tx_mk X G a5 l5 c5 k5 (len_2 fun _ _=>rfl),
  tx_mk X G a6 l6 c6 k6 (len_3 fun _ _ _=>rfl),
  tx_mk X G a7 l7 c7 k7 (len_3 fun _ _ _=>rfl),
  tx_mk X G a8 l8 c8 k8 (len_4 fun _ _ _ _=>rfl),
  tx_mk X G a9 l9 c9 k9 (len_4 fun _ _ _ _=>rfl),
  ⟨q10,tx_mkM X G a10 l10 c10 k10 m10 (len_3 fun _ _ _=>rfl)⟩,
  tx_mk X G a11 l11 c11 k11 (len_2 fun _ _=>rfl),
  tx_mk X G a12 l12 c12 k12 (len_2 fun _ _=>rfl),
  tx_mk X G a13 l13 c13 k13 (len_3 fun _ _ _=>rfl),
  tx_mk X G a14 l14 c14 k14 (len_2 fun _ _=>rfl),
  tx_mk X G a15 l15 c15 k15 (len_2 fun _ _=>rfl),
  tx_mk X G a16 l16 c16 k16 (len_4 fun _ _ _ _=>rfl),
  tx_mk X G a17 l17 c17 k17 (len_3 fun _ _ _=>rfl),
  tx_mk X G a18 l18 c18 k18 (len_4 fun _ _ _ _=>rfl),
  tx_mk X G a19 l19 c19 k19 (len_5 fun _ _ _ _ _=>rfl),
  ⟨C_WheelError,C_NoBase,C_TooGreat,C_NoMachine,C_NoText,C_NoWords,⟨PySem.W.mg_of X G cc_WheelError,PySem.W.mg_of X G cc_NoBase,PySem.W.mg_of X G cc_TooGreat,PySem.W.mg_of X G cc_NoMachine,PySem.W.mg_of X G cc_NoText,PySem.W.mg_of X G cc_NoWords,⟨103,_,excI_of hI,⟨⟨ocI,odI,kVI,dcI,pmI,anI,cdI,ctI,slI,rfl,lI,cI⟩,kI⟩,.all fun us hl=>match us,hl with|[_,_],_=>rfl⟩,⟨sa,ov,tk1,hdI⟩,⟨⟨kk1,kk2,kk3,kk4⟩,hdI,no1⟩,⟨⟨kk1,kk2,kk3,kk4⟩,kk5,kk6,kk7⟩,hm,hm2,ki1,ki2,ki3⟩⟩⟩
 exact⟨PySem.W.fnOf "law" "law" (defArgs s_law) (defBody s_law) (defScope s_law) .none kVL dcL pmL anL cdL ctL,fun s v=>.of_eq rfl,fun base _ _ B=>ok_law T B (fun _ h=>h) ⟨⟨ocL,odL,kVL,dcL,pmL,anL,cdL,ctL,slL,rfl,lL,cL⟩,kL⟩⟩
theorem walk{l:PySem.W.OpenLaw}{q:Program}{loose:List Str}{XP:(Str→Option Value)→Heap→Prop}{YP:World→Heap→Prop}{d:DefRec}{K:Params→W.Frag}(hn:l.most=some 63)(hdf:d.params.defaults=[])
  (hY:∀ (w:World) (h:Heap),YP w h→(K w.params).In h) (hYt:∀ (w:World) (h:Heap),YP w h→∀ p∈ts0,h.get? p.1=some (PySem.W.tabObj #[])) (hK:∀ (w:World) (p:Addr×(Nat→Nat→Str)),p∈ts0→(K w.params).lookup p.1=none∧∃ c,PySem.W.codeHdIn (K w.params) c p.1=true)
  (F:∀ (w:World) (mg:Str→Option Value) (fa:Addr) (h:Heap),(K w.params).In h→h.Ns mainGlobals mg→mg d.name=some (.ref fa) →
   ∃ fd:FuncData,(∀ (s:Shared) (u:Value),BindsTo s fd ⟨[u],[]⟩ [("_law_script",u)])∧∀ base:Heap,(K w.params).In base→base.Ns mainGlobals mg→base.BuiltinsAt mg mainGlobals→FnOk l.prog w (K w.params) mg base (CXE l.prog w) 7 fa fd ["_law_script"] (sp_lawT (K w.params))) :
  PySem.W.WalkO q loose XP YP l.row.toRowW d [] (fun f vs=>PySem.call f vs) :=
 L2.walk_ofT (ts:=ts0) (n:=63) (k:=7) (x := "_law_script") (CX:=fun w=>CXE l.prog w) (sp:=fun w=>sp_lawT (K w.params)) (by decide) hn (by decide) hdf ⟨rfl,by decide,by decide⟩ hY hYt hK F (fun _ _ a ns hl hb hT hS=>⟨hT,a,ns,rfl,hS,hl,hb,fun _ m=>⟨rfl,m⟩⟩) fun _ _ _ _ _ ⟨_,_,_,_,_,_,_,_,_,_,_,_,_,z⟩=>z
theorem code_row_of_words{K:W.Frag}{f q:Addr}{oc kV dc pm ct:Value}{od an:Option Addr}{sl:Array (Option Value)}(a:PySem.W.nsIn K mainGlobals "row_of_words" = some (some (.ref f)))(l:K.lookup f=some ⟨oc,od,.func (PySem.W.fnOf "row_of_words" "row_of_words" (defArgs s_row_of_words) (defBody s_row_of_words) (defScope s_row_of_words) .none kV dc pm an (.ref q) ct),sl⟩)(m:PySem.W.codeHdIn K q tb_row_of_words=true):∃ c,PySem.W.codeHdIn K c tb_row_of_words=true:=⟨q,m⟩
end K13
namespace PySem.W.Fast
theorem tw16435033862682436180:True:=⟨⟩
theorem tw15598028024589726100:True:=⟨⟩
theorem tw5301169282003245682:True:=⟨⟩
theorem tw14659999761245848880:True:=⟨⟩
theorem tw17241696393292546711:True:=⟨⟩
theorem tw2897573248658101919:True:=⟨⟩
theorem tw14697409361001933715:True:=⟨⟩
theorem tw17405437533615848169:True:=⟨⟩
theorem tw14413355584162304540:True:=⟨⟩
theorem tw3740846177518592024:True:=⟨⟩
theorem tw3633864960941919957:True:=⟨⟩
theorem tw16608458965189928823:True:=⟨⟩
theorem tw16356542642005037058:True:=⟨⟩
theorem tw11792252362449350536:True:=⟨⟩
theorem tw12335525383434513529:True:=⟨⟩
theorem tw4414985209695423907:True:=⟨⟩
theorem tw18068553401582930816:True:=⟨⟩
theorem tw7789960968300743086:True:=⟨⟩
theorem tw4425280809753622955:True:=⟨⟩
theorem tw3188100430831514364:True:=⟨⟩
theorem tw9644410868176838874:True:=⟨⟩
theorem tw10413747040013530368:True:=⟨⟩
theorem tw440315364053772891:True:=⟨⟩
theorem tw10840433370273632846:True:=⟨⟩
theorem tw6937892827831341264:True:=⟨⟩
theorem tw10073875332400685812:True:=⟨⟩
theorem tw12938640944318750135:True:=⟨⟩
theorem tw964557433229674867:True:=⟨⟩
theorem tw1071583799856748090:True:=⟨⟩
theorem tw13980983969651711600:True:=⟨⟩
theorem tw8742987903224135303:True:=⟨⟩
theorem tw9823689624397426330:True:=⟨⟩
theorem tw13215847008704716375:True:=⟨⟩
theorem tw17143020706220579275:True:=⟨⟩
theorem tw15853721911128678289:True:=⟨⟩
theorem tw14843752373107166532:True:=⟨⟩
theorem tw2836925218168133833:True:=⟨⟩
theorem tw8306081266523642861:True:=⟨⟩
theorem tw17213009283084193049:True:=⟨⟩
theorem tw5518152995451682649:True:=⟨⟩
theorem tw14547163482692732448:True:=⟨⟩
theorem tw11467385685621763855:True:=⟨⟩
theorem tw59401286188465308:True:=⟨⟩
theorem tw13318215721743570269:True:=⟨⟩
theorem tw16277033562826303546:True:=⟨⟩
theorem tw9104751837775444419:True:=⟨⟩
theorem tw6639789519728752544:True:=⟨⟩
theorem tw1882408712398235766:True:=⟨⟩
theorem tw6104304300002618762:True:=⟨⟩
theorem tw373250895665090899:True:=⟨⟩
theorem tw3094308452276235631:True:=⟨⟩
theorem tw11451914107360998563:True:=⟨⟩
theorem tw18336428387897649398:True:=⟨⟩
theorem tw16050469061170968916:True:=⟨⟩
theorem tw2583781974204602586:True:=⟨⟩
theorem tw3854916113406560467:True:=⟨⟩
theorem tw10281949470782485349:True:=⟨⟩
theorem tw16731481077606706328:True:=⟨⟩
theorem tw13976237531916745320:True:=⟨⟩
theorem tw7459807550897728257:True:=⟨⟩
theorem tw17469166614415779785:True:=⟨⟩
theorem tw867662518375907522:True:=⟨⟩
theorem tw13806920866367719694:True:=⟨⟩
theorem tw10916055699319132715:True:=⟨⟩
theorem tw7361499782416976258:True:=⟨⟩
theorem tw7851465475358036430:True:=⟨⟩
theorem tw6766315249269184178:True:=⟨⟩
theorem tw277627376238491890:True:=⟨⟩
theorem tw254192049369275560:True:=⟨⟩
theorem tw10786808101600412182:True:=⟨⟩
theorem tw5132493613997673767:True:=⟨⟩
theorem tw17686668702602195711:True:=⟨⟩
theorem tw14706337166208350842:True:=⟨⟩
theorem tw4382222762125904102:True:=⟨⟩
theorem tw7802516172590931070:True:=⟨⟩
theorem tw1988708055230985102:True:=⟨⟩
theorem tw65673072821693989:True:=⟨⟩
theorem tw10590669344998255277:True:=⟨⟩
theorem tw4880030014302452090:True:=⟨⟩
theorem tw2688260519769750825:True:=⟨⟩
theorem tw227947228605777630:True:=⟨⟩
theorem tw15903268016731558422:True:=⟨⟩
theorem tw10415488212541334993:True:=⟨⟩
theorem tw10465718230667738912:True:=⟨⟩
theorem tw3433958112101372786:True:=⟨⟩
theorem tw15444520679373352996:True:=⟨⟩
theorem tw5655574657934752460:True:=⟨⟩
theorem tw11116989758087272951:True:=⟨⟩
theorem tw16598866773359579454:True:=⟨⟩
theorem tw11621870227621047904:True:=⟨⟩
theorem tw10549558439491303319:True:=⟨⟩
theorem tw15515431953467493718:True:=⟨⟩
theorem tw10694257952964393645:True:=⟨⟩
theorem tw17134180515822026076:True:=⟨⟩
theorem tw16051657845922968308:True:=⟨⟩
theorem tw1344599517335437654:True:=⟨⟩
theorem tw13956186812741667598:True:=⟨⟩
theorem tw4208625706912927187:True:=⟨⟩
theorem tw14070979859779250586:True:=⟨⟩
theorem tw7738844841109946712:True:=⟨⟩
theorem tw3030246520126798417:True:=⟨⟩
theorem tw13345490675656810656:True:=⟨⟩
theorem tw361227199426250085:True:=⟨⟩
theorem tw4828106172640896064:True:=⟨⟩
theorem tw17759815903380996569:True:=⟨⟩
theorem tw13488193773025754607:True:=⟨⟩
theorem tw10669094107809740465:True:=⟨⟩
theorem tw7941943810989098385:True:=⟨⟩
end PySem.W.Fast
open PySem PySem.W PyProof.Rows
set_option maxRecDepth 100000 in
set_option maxHeartbeats 0 in
theorem PySem.Challenge.cw_figurewheel_k13_no_words_holds : PySem.Challenge.rw_figurewheel_k13_no_words.Holds := by
 w_on;o_law;k_head;(case hw=>w_witness2)
 k_fill
 refine' K13.walk (l:=PySem.Challenge.rw_figurewheel_k13_no_words) rfl rfl (fun w h Y=>PySem.W.km_in_of Y) ?hYt ?hK ?F
 case hYt =>
  intro w h Y p hp
  exact PySem.W.km_tabs_of Y p.1 (by revert p;decide)
 case hK =>
  intro w p hp
  simp only[K13.ts0,List.mem_cons,List.not_mem_nil,or_false] at hp
  rcases hp with rfl
  ·refine' ⟨by kernel_rfl,K13.code_row_of_words ?a ?l ?m⟩
   (case a=>k_is)
   (case l=>k_is)
   (case m=>kernel_rfl)
 case F =>
  intro w mg fa h KX G hmg
  refine' K13.all_mk KX G hmg ?g_LEAST_BASE ?g_GREATEST_BASE ?g_GREATEST_SIGN ?g_SHORTEST_WORD ?g_LONGEST_WORD ?z_ValueError ?z_all ?z_dict ?z_enumerate ?z_isinstance ?z_len ?z_range ?z_sorted ?z_str ?z_tuple ?a0 ?l0 ?c0 ?k0 ?a1 ?l1 ?d1 ?c1 ?k1 ?a2 ?l2 ?c2 ?k2 ?a3 ?l3 ?c3 ?k3 ?a4 ?l4 ?c4 ?k4 ?a5 ?l5 ?c5 ?k5 ?a6 ?l6 ?c6 ?k6 ?a7 ?l7 ?c7 ?k7 ?a8 ?l8 ?c8 ?k8 ?a9 ?l9 ?c9 ?k9 ?a10 ?l10 ?c10 ?k10 ?m10 ?a11 ?l11 ?c11 ?k11 ?a12 ?l12 ?c12 ?k12 ?a13 ?l13 ?c13 ?k13 ?a14 ?l14 ?c14 ?k14 ?a15 ?l15 ?c15 ?k15 ?a16 ?l16 ?c16 ?k16 ?a17 ?l17 ?c17 ?k17 ?a18 ?l18 ?c18 ?k18 ?a19 ?l19 ?c19 ?k19 ?cc_WheelError ?cc_NoBase ?cc_TooGreat ?cc_NoMachine ?cc_NoText ?cc_NoWords ?hI ?lI ?cI ?kI ?sa ?ov ?tk1 ?hdI ?no1 ?kk1 ?kk2 ?kk3 ?kk4 ?kk5 ?kk6 ?kk7 ?hm ?hm2 ?ki1 ?ki2 ?ki3 ?aL ?lL ?cL ?kL
  (case g_LEAST_BASE|g_GREATEST_BASE|g_GREATEST_SIGN|g_SHORTEST_WORD|g_LONGEST_WORD|z_ValueError|z_all|z_dict|z_enumerate|z_isinstance|z_len|z_range|z_sorted|z_str|z_tuple|a0|l0|c0|k0|a1|l1|d1|c1|k1|a2|l2|c2|k2|a3|l3|c3|k3|a4|l4|c4|k4|a5|l5|c5|k5|a6|l6|c6|k6|a7|l7|c7|k7|a8|l8|c8|k8|a9|l9|c9|k9|a10|l10|c10|k10 =>k_is)
  (case m10=>kernel_rfl)
  (case a11|l11|c11|k11|a12|l12|c12|k12|a13|l13|c13|k13|a14|l14|c14|k14|a15|l15|c15|k15|a16|l16|c16|k16|a17|l17|c17|k17|a18|l18|c18|k18|a19|l19|c19|k19|cc_WheelError|cc_NoBase|cc_TooGreat|cc_NoMachine|cc_NoText|cc_NoWords =>k_is)
  (case hI=>kernel_rfl)
  (case lI|cI|kI|sa =>k_is)
  (case ov=>kernel_rfl)
  (case tk1|hdI|no1|kk1|kk2|kk3|kk4|kk5|kk6|kk7 =>k_is)
  (case hm=>kts_exm)
  (case hm2=>kts_exm)
  (case ki1=>kit_is)
  (case ki2=>kit_is)
  (case ki3=>kit_is)
  (case aL|lL|cL|kL =>k_is)
end
