import PyProof.Rows.All
import Wide.All
import OpenK.AllK
import Wide.FinOn
import PyProof.EqAt
import PyProof.EqKinds
import PyProof.TupleCall
import PyProof.ExcBaseAll.ValueError
import PyProof.ExcArgsOwn
import PyProof.ExcInit
import PyProof.InstStoreFacts
import Lean
import PySem.Challenge.RW_figurewheel_k08_machines_written
set_option linter.all false
set_option Elab.async false
set_option maxRecDepth 100000
set_option maxHeartbeats 4000000
set_option bootstrap.genMatcherCode false
namespace L2
open PySem PySem.Spec PyProof.Rows
noncomputable abbrev Key:=Sum Int Str
noncomputable def keyIs:Key→Value→Bool
 | .inl k,v=>Value.isInt k v
 | .inr x,v=>Value.isStrOf x v
noncomputable def keyH(w:World):Key→Int
 | .inl k=>hashInt k
 | .inr x=>hashStr w x
theorem keyIs_shape:∀ {k:Key} {v:Value},keyIs k v=true→(∃ i t,k=Sum.inl i∧v=Value.int i t)∨(∃ x t,k=Sum.inr x∧v=Value.str x t)
 | .inl i,v,h=>by
  obtain⟨t,e⟩:=Value.isInt_shape (k:=i) (v:=v) h
  exact .inl ⟨i,t,rfl,e⟩
 | .inr x,v,h=>by
  obtain⟨t,e⟩:=Value.isStrOf_shape (x:=x) (v:=v) h
  exact .inr ⟨x,t,rfl,e⟩
theorem keyIs_int(i:Int)(t:Tok):keyIs (.inl i) (.int i t)=true:=by simp[keyIs,Value.isInt]
theorem keyIs_str(x:Str)(t:Tok):keyIs (.inr x) (.str x t)=true:=by simp[keyIs,Value.isStrOf]
theorem key_ll(a b:Int):decide ((Sum.inl a:Key)=Sum.inl b)=(a == b):=by
 by_cases e:a=b
 ·subst e;simp
 ·have h:¬ (Sum.inl a:Key)=Sum.inl b:=fun q=>e (Sum.inl.inj q)
  rw[decide_eq_false h]
  exact (beq_eq_false_iff_ne.mpr e).symm
theorem key_rr(a b:Str):decide ((Sum.inr a:Key)=Sum.inr b)=decide (a=b):=by
 by_cases e:a=b
 ·subst e;simp
 ·have h:¬ (Sum.inr a:Key)=Sum.inr b:=fun q=>e (Sum.inr.inj q)
  rw[decide_eq_false h,decide_eq_false e]
theorem key_lr(a:Int)(b:Str):decide ((Sum.inl a:Key)=Sum.inr b)=false:=decide_eq_false (fun q=>nomatch q)
theorem key_rl(a:Str)(b:Int):decide ((Sum.inr a:Key)=Sum.inl b)=false:=decide_eq_false (fun q=>nomatch q)
noncomputable def mixKind(prog:Program)(w:World):PySem.KeyKind prog w Key where
 is:=keyIs
 hash:=keyH w
 inj:=fun v a b ha hb=>by
  rcases keyIs_shape ha with⟨i,t,rfl,rfl⟩|⟨x,t,rfl,rfl⟩
  ·rcases keyIs_shape hb with⟨j,u,rfl,e⟩|⟨y,u,rfl,e⟩
   ·injection e with e1 _;rw[e1]
   ·exact nomatch e
  ·rcases keyIs_shape hb with⟨j,u,rfl,e⟩|⟨y,u,rfl,e⟩
   ·exact nomatch e
   ·injection e with e1 _;rw[e1]
 byValue:=fun k v h=>by
  rcases keyIs_shape h with⟨i,t,rfl,rfl⟩|⟨x,t,rfl,rfl⟩<;>rfl
 pyHash:=fun hv h=>by
  rcases keyIs_shape hv with⟨i,t,rfl,rfl⟩|⟨x,t,rfl,rfl⟩
  ·exact wpAny_pyHash_int h
  ·exact wpAny_pyHash_str h
 eqBool:=fun hu hv h=>by
  rcases keyIs_shape hu with⟨i,t,rfl,rfl⟩|⟨x,t,rfl,rfl⟩
  ·rcases keyIs_shape hv with⟨j,u,rfl,rfl⟩|⟨y,u,rfl,rfl⟩
   ·rw[key_ll] at h;exact wpAny_eqBool_int h
   ·rw[key_lr] at h;exact SeqAt.EqAt.int_str i t y u _ _ _ _ h
  ·rcases keyIs_shape hv with⟨j,u,rfl,rfl⟩|⟨y,u,rfl,rfl⟩
   ·rw[key_rl] at h;exact SeqAt.EqAt.str_int x t j u _ _ _ _ h
   ·rw[key_rr] at h;exact wpAny_eqBool_str h
 «strs»:=fun k x t v h=>by
  rcases keyIs_shape h with⟨i,u,rfl,e⟩|⟨y,u,rfl,e⟩
  ·exact nomatch e
  ·injection e with e1 _
   subst e1
   cases v<;>rfl
theorem mixKind_int(prog:Program)(w:World)(i:Int)(t:Tok):(mixKind prog w).is (.inl i) (.int i t)=true:=keyIs_int i t
theorem mixKind_str(prog:Program)(w:World)(x:Str)(t:Tok):(mixKind prog w).is (.inr x) (.str x t)=true:=keyIs_str x t
end L2
namespace PySem
section
variable{prog:Program}{w:World}{KT:Type}[DecidableEq KT](kd:KeyKind prog w KT)
noncomputable def PairAt(h:Heap)(z:KT×List KT)(a:Addr):Prop :=
 ∃ (ob:Obj) (its:Array Value) (c:Nat) (u:Value) (b:Addr),h.get? a=some ob∧ob.cls=.type "tuple" ∧ ob.data=.seq its c∧its.toList=[u,.ref b]∧kd.is z.1 u=true∧IsTupleKey kd h z.2 b
noncomputable def pairHash(z:KT×List KT):Int:=reduceHash (Builtin.Tuple.tupleHashOf [kd.hash z.1,tupleKeyHash kd z.2])
variable{kd}
theorem PairAt.tp{s:Shared}{z:KT×List KT}{a:Addr}(x:PairAt kd s.heap z a):s.TypeIs (.ref a) "tuple" :=
 let ⟨ob,_,_,_,_,e,hc,_⟩:=x;⟨ob,e,hc⟩
theorem PairAt.one{h:Heap}{a:Addr}{y z:KT×List KT}(hy:PairAt kd h y a)(hz:PairAt kd h z a):y=z:=by
 obtain⟨o1,i1,c1,u1,b1,e1,_,d1,l1,f1,g1⟩:=hy
 obtain⟨o2,i2,c2,u2,b2,e2,_,d2,l2,f2,g2⟩:=hz
 rw[e1] at e2
 cases e2
 rw[d1] at d2
 cases d2
 rw[l1] at l2
 cases l2
 exact Prod.ext (kd.inj _ _ _ f1 f2) (g1.inj g2)
theorem PairAt.stay{h h':Heap}{z:KT×List KT}{a d:Addr}{ob:Obj}{es ep}(x:PairAt kd h z a)(hd:h.get? d=some ob)(hx:ob.data=.dict es ep)(hs:Heap.SameBut d h h'):PairAt kd h' z a:=by
 obtain⟨o1,i1,c1,u1,b1,e1,k1,d1,l1,f1,g1⟩:=x
 have ne:a≠d:=fun q=>by
  subst q
  rw[e1] at hd
  cases hd
  rw[d1] at hx
  cases hx
 exact⟨o1,i1,c1,u1,b1,(hs.2 a ne).trans e1,k1,d1,l1,f1,g1.keeps hd hx hs⟩
variable{A:Around}{E:Value→Shared→Prop}{s:Shared}
theorem pair_hash{z:KT×List KT}{a:Addr}{Q:Int→Shared→Prop}(hv:A.units<cLine∧A.in1.units<cLine)(hz:PairAt kd s.heap z a)(q:Q (pairHash kd z) { s with toks:=s.toks+(z.2.length+3) }) :
  wpAny (model prog w) A (pyHash (.ref a)) Q E s:=by
 have tp:=hz.tp
 obtain⟨ob,its,c,u,b,e1,_,d1,l1,f1,g1⟩:=hz
 unfold pyHash
 unfold pyHashByItsType
 refine wpAny_bind (wpAny_cRoomFor_or (.inr hv.1) ?_)
 refine wpAny_bind (wpAny_specialOf tp F.slot_tuple_hash.lookup ?_)
 show wpAny _ A (if (some (Value.builtin "tuple.__hash__") == some Value.none)=true then _ else _) Q E s
 rw[if_neg (by rw[beq_builtin_none];exact Bool.false_ne_true)]
 refine wpAny_bind (wpAny_specialOf tp F.slot_tuple_hash.lookup ?_)
 show wpAny _ A (callSpecialIfBoundUnlessNone? (.ref a) "__hash__" _ >>= _) Q E s
 refine wpAny_bind (wpAny_callSpecialIfBoundUnlessNone?_slot tp F.slot_tuple_hash (wpAny_call_entry F.slot_tuple_hash tp F.entry_tuple_hash ?_ (F.args_tuple_hash_1 _)))
 show wpAny _ _ (Builtin.Tuple.tupleItemsOf (.ref a) >>= _) _ _ s
 refine wpAny_bind (wpAny_tupleItemsOf e1 d1 ?_)
 refine wpAny_bind ?_
 rw[← Array.forIn_toList,l1]
 refine wpAny_forIn_list _
  (fun rest (acc:Array Int) s'=>(rest=[u,.ref b]∧acc.toList=[]∧s'=s)∨(rest=[.ref b]∧acc.toList=[kd.hash z.1]∧s'={ s with toks:=s.toks+1 })∨(rest=[]∧acc.toList=[kd.hash z.1,tupleKeyHash kd z.2]∧s'={ s with toks:=s.toks+(z.2.length+2) }))
  _ ?_ ?_ _ _ (.inl ⟨rfl,rfl,rfl⟩)
 ·rintro x rest acc s' (⟨r1,r2,rfl⟩|⟨r1,r2,rfl⟩|⟨r1,_⟩)
  ·cases r1
   refine wpAny_bind (kd.pyHash f1 ?_)
   first
    | exact wpAny_pure (.inr (.inl ⟨rfl,by simp[r2],rfl⟩))
    | exact wpAny_bind (wpAny_pure (wpAny_pure (.inr (.inl ⟨rfl,by simp[r2],rfl⟩))))
  ·cases r1
   refine wpAny_bind (wpAny_pyHash_tuple hv.2 g1 ?_)
   first
    | exact wpAny_pure (.inr (.inr ⟨rfl,by simp[r2],by simp;omega⟩))
    | exact wpAny_bind (wpAny_pure (wpAny_pure (.inr (.inr ⟨rfl,by simp[r2],by simp;omega⟩))))
  ·cases r1
 ·rintro acc s' (⟨r1,_⟩|⟨r1,_⟩|⟨_,r2,rfl⟩)
  ·cases r1
  ·cases r1
  show wpAny _ _ (retInt (Builtin.Tuple.tupleHashOf acc.toList)) _ _ _
  rw[r2]
  refine wpAny_ret_mkInt ?_
  unfold pairHash reduceHash at q
  generalize Builtin.Tuple.tupleHashOf [kd.hash z.1,tupleKeyHash kd z.2]=hh at q
  show wpAny _ A (if (decide (-(2:Int) ^ 63≤hh) && decide (hh<2 ^ 63))=true then _ else _) Q E _
  split at q<;>rename_i hr
  ·rw[if_pos hr]
   exact wpAny_pure (by simpa [Nat.add_assoc] using q)
  ·rw[if_neg hr]
   exact wpAny_bind (wpAny_rule (wpAny_pure (by simpa [Nat.add_assoc] using q)))
theorem pair_eq_tree{y z:KT×List KT}{a b:Addr}{R:Fin→Shared→Prop}(hu:A.units<cLine)(hy:PairAt kd s.heap y a)(hz:PairAt kd s.heap z b)(q:R (.done (.ret (.bool (decide (y=z))))) s) :
  wpAny (model prog w) A (Builtin.«tuple.__eq__» ⟨[.ref a,.ref b],[]⟩) R E s:=by
 have tb:=hz.tp
 obtain⟨o1,i1,c1,u1,b1,e1,k1,d1,l1,f1,g1⟩:=hy
 obtain⟨o2,i2,c2,u2,b2,e2,k2,d2,l2,f2,g2⟩:=hz
 show wpAny _ A (isInstance (.ref b) (.type "tuple") >>= _) _ _ s
 refine wpAny_bind (wpAny_isInstance tb isSubtype_tuple_tuple ?_)
 simp only[Bool.not_true,Bool.false_eq_true,if_false]
 refine wpAny_bind (wpAny_tupleItemsOf e1 d1 ?_)
 refine wpAny_bind (wpAny_tupleItemsOf e2 d2 ?_)
 have zz:(i1.size == i2.size)=true:=by
  have a1:=congrArg List.length l1
  have a2:=congrArg List.length l2
  rw[Array.length_toList] at a1 a2
  rw[a1,a2];rfl
 refine wpAny_bind ?_
 rw[l1,l2]
 refine wpAny_forIn_list _
  (fun rest r s'=>r.1=none∧s'=s∧(rest=[(u1,u2),(.ref b1,.ref b2)]∨(rest=[(.ref b1,.ref b2)]∧y.1=z.1)∨(rest=[]∧y=z)))
  _ ?_ ?_ _ _ ⟨rfl,rfl,.inl rfl⟩
 ·rintro x rest r s' ⟨hr,rfl,r1|⟨r1,ey⟩|⟨r1,_⟩⟩
  ·cases r1
   refine wpAny_bind (kd.eqBool (a:=y.1) (b:=z.1) f1 f2 ?_)
   by_cases hk:y.1=z.1
   ·rw[decide_eq_true hk]
    simp only[Bool.not_true,Bool.false_eq_true,if_false]
    exact wpAny_pure ⟨rfl,rfl,.inr (.inl ⟨by trivial,hk⟩)⟩
   ·rw[decide_eq_false hk]
    simp only[Bool.not_false,if_true]
    rw[decide_eq_false (fun e=>hk (by rw[e]))] at q
    exact wpAny_bind (wpAny_pure (wpAny_pure (wpAny_pure q)))
  ·cases r1
   refine wpAny_bind (wpAny_eqBool_tuple hu g1 g2 ?_)
   by_cases hk:y.2=z.2
   ·rw[decide_eq_true hk]
    simp only[Bool.not_true,Bool.false_eq_true,if_false]
    exact wpAny_pure ⟨rfl,rfl,.inr (.inr ⟨by trivial,Prod.ext ey hk⟩)⟩
   ·rw[decide_eq_false hk]
    simp only[Bool.not_false,if_true]
    rw[decide_eq_false (fun e=>hk (by rw[e]))] at q
    exact wpAny_bind (wpAny_pure (wpAny_pure (wpAny_pure q)))
  ·cases r1
 ·rintro⟨r1,r2⟩ s' ⟨hr,rfl,z1|⟨z1,_⟩|⟨_,ey⟩⟩
  ·cases z1
  ·cases z1
  simp only at hr
  subst hr
  refine wpAny_pure ?_
  show R (.done (.ret (.bool (i1.size == i2.size)))) s'
  rw[zz]
  rw[decide_eq_true ey] at q
  exact q
theorem pair_eq{y z:KT×List KT}{a b:Addr}{Q:Bool→Shared→Prop}(hv:A.units<cLine∧A.in1.units<cLine)(hy:PairAt kd s.heap y a)(hz:PairAt kd s.heap z b)(q:Q (decide (y=z)) s) :
  wpAny (model prog w) A (eqBool (.ref a) (.ref b)) Q E s:=by
 unfold eqBool
 try with_reducible refine wpAny_holding ?_
 show wpAny _ A (if (Value.ref a == Value.ref b)=true then _ else _) Q E s
 by_cases ab:(Value.ref a == Value.ref b)=true
 ·rw[if_pos ab]
  have e:a=b:=by have:=eq_of_beq ab;injection this
  subst e
  have e2:=hy.one hz
  subst e2
  exact wpAny_bind (wpAny_rule (wpAny_pure (by simpa using q)))
 ·rw[if_neg ab]
  exact wpAny_bind (wpAny_richCompare_same_room (op:=.Eq) hy.tp hz.tp F.slot_tuple_eq (wpAny_call_entry F.slot_tuple_eq hy.tp F.entry_tuple_eq (pair_eq_tree hv.2 hy hz ⟨_,rfl,(fun e=>nomatch e),wpAny_truthy_bool q⟩) (F.args_tuple_eq_2 _ _)) hv.1)
theorem quiet_flat{ks:List KT}{a:Addr}{m:Nat}{Q:Bool→Shared→Prop}(hk:IsTupleKey kd s.heap ks a)(q:Q true s):wpAny (model prog w) A (eqIsQuiet (m+1) (.ref a)) Q E s:=by
 have tp:=hk.typeIs
 obtain⟨o1,i1,c1,e1,_,d1,g1⟩:=hk
 unfold eqIsQuiet
 refine wpAny_bind (wpAny_specialOf tp F.slot_tuple_eq.lookup ?_)
 show wpAny _ A (isInstance (.ref a) (.type "tuple") >>= _) _ _ s
 refine wpAny_bind (wpAny_isInstance tp isSubtype_tuple_tuple ?_)
 simp only[Bool.not_true,Bool.false_eq_true,if_false]
 refine wpAny_bind (wpAny_seqItems e1 d1 ?_)
 refine wpAny_bind ?_
 show wpAny _ A (forIn i1 _ _) _ _ s
 rw[← Array.forIn_toList]
 refine wpAny_forIn_list _ (fun rest r s'=>r.1=none∧s'=s∧∀ v∈rest,carriedByValue v=true) _ ?_ ?_ _ _ ⟨rfl,rfl,g1.byValue⟩
 ·rintro x rest r s' ⟨hr,rfl,al⟩
  rw[eqIsQuiet_byValue _ (al x (.head _))]
  refine wpAny_bind (wpAny_pure ?_)
  simp only[Bool.not_true,Bool.false_eq_true,if_false]
  exact wpAny_pure ⟨rfl,rfl,fun v hv=>al v (.tail _ hv)⟩
 ·rintro⟨r1,r2⟩ s' ⟨hr,rfl,_⟩
  simp only at hr
  subst hr
  exact wpAny_pure q
theorem pair_quiet{z:KT×List KT}{a:Addr}{Q:Bool→Shared→Prop}(hz:PairAt kd s.heap z a)(q:Q true s):wpAny (model prog w) A (eqIsQuiet 8 (.ref a)) Q E s:=by
 have tp:=hz.tp
 obtain⟨o1,i1,c1,u1,b1,e1,_,d1,l1,f1,g1⟩:=hz
 unfold eqIsQuiet
 refine wpAny_bind (wpAny_specialOf tp F.slot_tuple_eq.lookup ?_)
 show wpAny _ A (isInstance (.ref a) (.type "tuple") >>= _) _ _ s
 refine wpAny_bind (wpAny_isInstance tp isSubtype_tuple_tuple ?_)
 simp only[Bool.not_true,Bool.false_eq_true,if_false]
 refine wpAny_bind (wpAny_seqItems e1 d1 ?_)
 refine wpAny_bind ?_
 show wpAny _ A (forIn i1 _ _) _ _ s
 rw[← Array.forIn_toList,l1]
 refine wpAny_forIn_list _ (fun rest r s'=>r.1=none∧s'=s∧(rest=[u1,.ref b1]∨rest=[.ref b1]∨rest=[])) _ ?_ ?_ _ _ ⟨rfl,rfl,.inl rfl⟩
 ·rintro x rest r s' ⟨hr,rfl,r1|r1|r1⟩
  ·cases r1
   rw[eqIsQuiet_byValue _ (kd.byValue _ _ f1)]
   refine wpAny_bind (wpAny_pure ?_)
   simp only[Bool.not_true,Bool.false_eq_true,if_false]
   refine wpAny_pure ⟨rfl,rfl,?_⟩
   exact .inr (.inl (by trivial))
  ·cases r1
   refine wpAny_bind (quiet_flat g1 ?_)
   simp only[Bool.not_true,Bool.false_eq_true,if_false]
   refine wpAny_pure ⟨rfl,rfl,?_⟩
   exact .inr (.inr (by trivial))
  ·cases r1
 ·rintro⟨r1,r2⟩ s' ⟨hr,rfl,_⟩
  simp only at hr
  subst hr
  exact wpAny_pure q
end
noncomputable def pairKind{prog:Program}{w:World}{KT:Type}[DecidableEq KT](kd:KeyKind prog w KT):HeapKind prog w (KT×List KT) where
 is:=PairAt kd
 hash:=pairHash kd
 draws:=fun z=>z.2.length+3
 room:=fun A=>A.units<cLine∧A.in1.units<cLine
 inj:=PairAt.one
 keeps:=PairAt.stay
 pyHash:=pair_hash
 eqBool:=pair_eq
 quiet:=pair_quiet
end PySem
namespace L2
open PySem PySem.Spec PyProof.Rows
inductive V where
 | non|bl (b:Bool)|int (i:Int)|str (x:Str)|byt (b:Array UInt8)|flt (b:UInt64)|ref (a:Addr)|ty (n:String)
 deriving DecidableEq
noncomputable def RelV:V→Value→Prop
 | .non,u=>u=Value.none
 | .bl b,u=>u=Value.bool b
 | .int i,u=>∃ t,u=Value.int i t
 | .str x,u=>∃ t,u=Value.str x t
 | .byt b,u=>∃ t,u=Value.bytes b t
 | .flt b,u=>∃ t,u=Value.float b t
 | .ref a,u=>u=Value.ref a
 | .ty n,u=>u=Value.type n
noncomputable abbrev Vals:List V→List Value→Prop:=Paired RelV
theorem Vals.length{xs:List V}{us:List Value}(r:Vals xs us):xs.length=us.length:=Paired.length r
theorem Vals.get:∀ {xs:List V} {us:List Value} {i:Nat} {x:V},Vals xs us→xs[i]?=some x→∃ u,us[i]?=some u∧RelV x u
 | _,_,_,_,.nil,e=>by simp at e
 | _,_,0,_,.cons r _,e=>by simp at e;subst e;exact⟨_,rfl,r⟩
 | _,_,i+1,x,.cons _ t,e=>by
  obtain⟨u,h1,h2⟩:=Vals.get (i:=i) (x:=x) t (by simpa using e)
  exact⟨u,by simpa using h1,h2⟩
theorem Vals.set{x:V}{u:Value}(r:RelV x u):∀ {xs:List V} {us:List Value} (i:Nat),Vals xs us→Vals (xs.set i x) (us.set i u)
 | _,_,_,.nil=>.nil
 | _,_,0,.cons _ t=>.cons r t
 | _,_,i+1,.cons q t=>.cons q (Vals.set r i t)
theorem Vals.append:∀ {xs ys:List V} {us ws:List Value},Vals xs us→Vals ys ws→Vals (xs++ys) (us++ws)
 | _,_,_,_,.nil,s=>s
 | _,_,_,_,.cons r t,s=>.cons r (Vals.append t s)
theorem Vals.take:∀ {xs:List V} {us:List Value} (n:Nat),Vals xs us→Vals (xs.take n) (us.take n)
 | _,_,0,_=>.nil
 | _,_,_+1,.nil=>.nil
 | _,_,n+1,.cons r t=>.cons r (Vals.take n t)
theorem Vals.drop:∀ {xs:List V} {us:List Value} (n:Nat),Vals xs us→Vals (xs.drop n) (us.drop n)
 | _,_,0,r=>r
 | _,_,_+1,.nil=>.nil
 | _,_,n+1,.cons _ t=>Vals.drop n t
noncomputable def RelO:Option V→Option Value→Prop
 | some v,some u=>RelV v u
 | none,none=>True
 | _,_=>False
noncomputable def KV{κ:Type}:List (κ×V)→List (κ×Value)→Prop:=Paired fun (p:κ×V) (q:κ×Value)=>p.1=q.1∧RelV p.2 q.2
noncomputable def kV:Key→V
 | .inl i=>.int i
 | .inr x=>.str x
inductive HO where
 | lst (xs:List V)
 | tup (xs:List V)
 | dK (kvs:List (Key×V))|dT (kvs:List (List Key×V))
 | dN (kvs:List ((Key×List Key)×V))
 | set (S:Int→Bool) (n:Nat)
 | ins (C dx:Addr) (fs:List (Str×V))
 | own (x:Addr)
 | xd (fs:List (Str×V))
 | met (f x:Addr)
 | rng (lo hi:Int)
 | frz (o:Obj) (u:HO)
 | tbl (ps:Array Value)
 | tbq (q:Nat→Nat→Str)
 | ext (φ:Heap→Prop)
noncomputable abbrev Hp:=Addr→Option HO
noncomputable def CodeO(o:Obj)(q:Str):Prop:=∃ vs t,o.data=.fields vs∧vs[1]?=some (.str q t)
noncomputable def upd(H:Hp)(a:Addr)(o:HO):Hp:=fun b=>if b=a then some o else H b
theorem upd_same{H:Hp}{a:Addr}{o:HO}:upd H a o a=some o:=by unfold upd;rw[if_pos rfl]
theorem upd_ne{H:Hp}{a b:Addr}{o:HO}(h:b≠a):upd H a o b=H b:=by unfold upd;rw[if_neg h]
theorem upd_upd{H:Hp}{a:Addr}{o u:HO}:upd (upd H a o) a u=upd H a u:=by
 funext b;unfold upd;split<;>rfl
theorem ne_of{H:Hp}{a b:Addr}{o u:HO}(h:H a=some o)(h':H b=some u)(d:o≠u):a≠b:=by
 intro e;subst e;rw[h] at h';exact d (Option.some.inj h')
theorem ne_of_none{H:Hp}{a b:Addr}{o:HO}(h:H a=some o)(h':H b=none):a≠b:=by
 intro e;subst e;rw[h] at h';cases h'
section
variable(P:Program)(w:World)
noncomputable def ObjOk(H:Hp)(h:Heap)(a:Addr):HO→Prop
 | .lst xs=>xs.length≤sizeLine∧∃ (its:List Value) (n:Nat),Vals xs its∧h.get? a=some { cls:=.type "list",data:=.seq its.toArray n }
 | .tup xs=>xs.length≤sizeLine∧∃ its:List Value,Vals xs its∧IsTup h a its.toArray
 | .dK kvs=>kvs.length≤sizeLine∧(a == sysModules)=false∧∃ vs,KV kvs vs∧h.DictOf (mixKind P w) a vs
 | .dT kvs=>kvs.length≤sizeLine∧(a == sysModules)=false∧∃ xs:List (List Key×Addr×Value),
   Paired (fun (p:List Key×V) (q:List Key×Addr×Value)=>p.1=q.1∧H q.2.1=some (.tup (p.1.map kV))∧RelV p.2 q.2.2) kvs xs ∧
   ∃ o es ep,h.get? a=some o∧o.ExactDict∧o.data=.dict es ep∧es.toList=xs.map (entryOfKey (tupleKind (mixKind P w)))∧(xs.map (·.1)).Nodup
 | .dN kvs=>kvs.length≤sizeLine∧(a == sysModules)=false∧∃ xs:List ((Key×List Key)×Addr×Value),
   Paired (fun (p:(Key×List Key)×V) (q:(Key×List Key)×Addr×Value)=>p.1=q.1∧(∃ b,H q.2.1=some (.tup [kV p.1.1,.ref b])∧H b=some (.tup (p.1.2.map kV)))∧RelV p.2 q.2.2) kvs xs ∧
   ∃ o es ep,h.get? a=some o∧o.ExactDict∧o.data=.dict es ep∧es.toList=xs.map (entryOfKey (pairKind (mixKind P w)))∧(xs.map (·.1)).Nodup
 | .set S n=>h.SetOf (intKind P w) a S n
 | .ins C dx fs=>H dx=some (.own a)∧fs.length≤1000∧dx≠a∧h.get? a=some (PySem.W.instObj C dx) ∧
   ∃ mA,h.Ns1 dx mA∧(∀ f,RelO (fs.lookup f) (mA f))∧PySem.Within mA (fs.map (·.1))
 | .own _=>∃ o,h.get? a=some o
 | .xd fs=>∃ mA,h.Ns1 a mA∧∀ f,RelO (fs.lookup f) (mA f)
 | .rng lo hi=>∃ t u v,h.get? a=some { cls:=.type "range",data:=.fields #[.int lo t,.int hi u,.int 1 v] }
 | .frz o u=>h.get? a=some o∧ObjOk H h a u
 | .tbl ps=>h.get? a=some { cls:=.none,data:=.fields ps }
 | .tbq q=>∃ ps,h.get? a=some { cls:=.none,data:=.fields ps }∧TriplesOk ps.toList∧∀ pos cv,codeAmong pos ps.toList=some cv→∃ c o,cv=.ref c∧H c=some (.frz o (.own a))∧CodeO o (q pos.line pos.col)
 | .met f x=>h.get? a=some (PySem.W.methodObj (.ref f) (.ref x))
 | .ext φ=>φ h∧(∃ o,h.get? a=some o)∧∀ h1 h2:Heap,φ h1→(∀ o,h1.get? a=some o→h2.get? a=some o)→φ h2
noncomputable def HOk(H:Hp)(h:Heap):Prop:=∀ a o,H a=some o→ObjOk P w H h a o
end
section
variable{P:Program}{w:World}{H H':Hp}{h h':Heap}{a:Addr}{o:HO}
theorem ObjOk.lt(x:ObjOk P w H h a o):a<h.objs.size:=by
 cases o with
 | lst xs=>obtain⟨_,_,_,_,e⟩:=x;exact Heap.lt_size e
 | tup xs=>obtain⟨_,_,_,p⟩:=x;exact p.lt
 | dK kvs=>obtain⟨_,_,_,_,o,_,_,e,_⟩:=x;exact Heap.lt_size e
 | dT kvs=>obtain⟨_,_,_,_,o,_,_,e,_⟩:=x;exact Heap.lt_size e
 | dN kvs=>obtain⟨_,_,_,_,o,_,_,e,_⟩:=x;exact Heap.lt_size e
 | set S n=>obtain⟨o,_,_,_,e,_⟩:=x;exact Heap.lt_size e
 | ins C dx fs=>obtain⟨_,_,_,e,_⟩:=x;exact Heap.lt_size e
 | own y=>obtain⟨_,e⟩:=x;exact Heap.lt_size e
 | xd fs=>obtain⟨_,⟨_,_,_,e,_⟩,_⟩:=x;exact Heap.lt_size e
 | rng lo hi=>obtain⟨_,_,_,e⟩:=x;exact Heap.lt_size e
 | frz ob u=>obtain⟨e,_⟩:=x;exact Heap.lt_size e
 | tbl ps=>exact Heap.lt_size (show h.get? a=some _ from x)
 | tbq q=>obtain⟨_,e,_⟩:=x;exact Heap.lt_size e
 | met f y=>exact Heap.lt_size (show h.get? a=some _ from x)
 | ext φ=>obtain⟨_,⟨_,e⟩,_⟩:=x;exact Heap.lt_size e
theorem Paired.mapP{α β:Type}{F G:α→β→Prop}:∀ {l₁:List α} {l₂:List β},Paired F l₁ l₂→(∀ a b,F a b→G a b)→Paired G l₁ l₂
 | _,_,.nil,_=>.nil
 | _,_,.cons r t,f=>.cons (f _ _ r) (Paired.mapP t f)
theorem ObjOk.stay(x:ObjOk P w H h a o)(k:∀ b u,(b=a∨H b=some (.own a))→h.get? b=some u→h'.get? b=some u)
  (ho:∀ b,H b=some (.own a)→H' b=some (.own a)) (ht:∀ b xs,H b=some (.tup xs)→H' b=some (.tup xs))
  (hf:∀ b o,H b=some (.frz o (.own a))→H' b=some (.frz o (.own a)):=by first|exact fun _ _ q=>q|(intro b o q;rw[upd_ne (ne_of_none q (by assumption))];exact q)):ObjOk P w H' h' a o:=by
 induction o with
 | lst xs=>obtain⟨z,its,n,r,e⟩:=x;exact⟨z,its,n,r,k _ _ (.inl rfl) e⟩
 | tup xs=>obtain⟨z,its,r,ob,e,c⟩:=x;exact⟨z,its,r,ob,k _ _ (.inl rfl) e,c⟩
 | dK kvs=>obtain⟨z,y,vs,r,ob,es,ep,e,c⟩:=x;exact⟨z,y,vs,r,ob,es,ep,k _ _ (.inl rfl) e,c⟩
 | dT kvs =>
  obtain⟨z,y,xs,r,ob,es,ep,e,c⟩:=x
  exact⟨z,y,xs,Paired.mapP r fun p q z=>⟨z.1,ht _ _ z.2.1,z.2.2⟩,ob,es,ep,k _ _ (.inl rfl) e,c⟩
 | dN kvs =>
  obtain⟨z,y,xs,r,ob,es,ep,e,c⟩:=x
  exact⟨z,y,xs,Paired.mapP r fun p q z=>⟨z.1,let ⟨b,z1,z2⟩:=z.2.1;⟨b,ht _ _ z1,ht _ _ z2⟩,z.2.2⟩,ob,es,ep,k _ _ (.inl rfl) e,c⟩
 | set S n=>obtain⟨ob,es,ep,t,e,c⟩:=x;exact⟨ob,es,ep,t,k _ _ (.inl rfl) e,c⟩
 | ins C dx fs =>
  obtain⟨d,z,ne,e,mA,⟨od,es,ep,e2,c⟩,r⟩:=x
  exact⟨ho _ d,z,ne,k _ _ (.inl rfl) e,mA,⟨od,es,ep,k _ _ (.inr d) e2,c⟩,r⟩
 | own y=>obtain⟨ob,e⟩:=x;exact⟨ob,k _ _ (.inl rfl) e⟩
 | xd fs=>obtain⟨mA,⟨od,es,ep,e,c⟩,r⟩:=x;exact⟨mA,⟨od,es,ep,k _ _ (.inl rfl) e,c⟩,r⟩
 | rng lo hi=>obtain⟨t,u,v,e⟩:=x;exact⟨t,u,v,k _ _ (.inl rfl) e⟩
 | frz ob u ih=>obtain⟨e,q⟩:=x;exact⟨k _ _ (.inl rfl) e,ih q⟩
 | tbq q =>
  obtain⟨ps,e,t,r⟩:=x
  exact⟨ps,k _ _ (.inl rfl) e,t,fun pos cv z=>let ⟨c,o,e1,e2,e3⟩:=r pos cv z;⟨c,o,e1,hf _ _ e2,e3⟩⟩
 | tbl ps =>
  have e:h.get? a=some { cls:=.none,data:=.fields ps }:=x
  show h'.get? a=some { cls:=.none,data:=.fields ps }
  exact k a _ (.inl rfl) e
 | met f y =>
  have e:h.get? a=some (PySem.W.methodObj (.ref f) (.ref y)):=x
  show h'.get? a=some (PySem.W.methodObj (.ref f) (.ref y))
  exact k a _ (.inl rfl) e
 | ext φ=>obtain⟨p,⟨o,e⟩,st⟩:=x;exact⟨st _ _ p fun o q=>k _ _ (.inl rfl) q,⟨o,k _ _ (.inl rfl) e⟩,st⟩
theorem HOk.lt(x:HOk P w H h)(e:H a=some o):a<h.objs.size:=(x a o e).lt
theorem HOk.fresh(x:HOk P w H h)(e:h.objs.size≤a):H a=none:=by
 cases q:H a with
 | none=>rfl
 | some u=>exact absurd (Nat.lt_of_lt_of_le (x.lt q) e) (Nat.lt_irrefl _)
theorem HOk.kept(x:HOk P w H h)(k:∀ b u,h.get? b=some u→h'.get? b=some u):HOk P w H h':=fun a o e =>
 (x a o e).stay (fun b u _ q=>k b u q) (fun _ q=>q) fun _ _ q=>q
theorem HOk.laid(x:HOk P w H h)(k:∀ b u,h.get? b=some u→h'.get? b=some u)(hp:h.objs.size≤a)(new:ObjOk P w (upd H a o) h' a o):HOk P w (upd H a o) h':=fun b u e=>by
 have hn:=x.fresh hp
 by_cases hb:b=a
 ·subst hb;rw[upd_same] at e;cases e;exact new
 ·rw[upd_ne hb] at e
  exact (x b u e).stay (fun c v _ q=>k c v q) (fun c q=>by rw[upd_ne (ne_of_none q hn)];exact q) fun c xs q=>by rw[upd_ne (ne_of_none q hn)];exact q
end
noncomputable def Rd(H:Hp)(a:Addr)(u:HO):Prop:=H a=some u∨∃ o,H a=some (.frz o u)
theorem Rd.ok{P:Program}{w:World}{H:Hp}{h:Heap}{a:Addr}{u:HO}(r:Rd H a u)(x:HOk P w H h):ObjOk P w H h a u:=by
 rcases r with r|⟨o,r⟩
 ·exact x a u r
 ·obtain⟨_,q⟩:=x a _ r
  exact q
noncomputable def Mut:Option HO→Prop
 | some (.lst _)=>True
 | some (.dK _)=>True
 | some (.dT _)=>True
 | some (.dN _)=>True
 | some (.set _ _)=>True
 | some (.ins _ _ _)=>True
 | some (.ext _)=>True
 | _=>False
section
variable{P:Program}{w:World}{H:Hp}{h h':Heap}{x e:Addr}{o':HO}
theorem HOk.write(ok:HOk P w H h)(mu:Mut (H x))(he:e=x∨H e=some (.own x))(k:∀ b u,b≠e→h.get? b=some u→h'.get? b=some u)(heo:∃ u,h'.get? e=some u)
  (new:ObjOk P w (upd H x o') h' x o'):HOk P w (upd H x o') h':=fun b u q=>by
 have nown:∀ c y,H c=some (.own y)→c≠x:=fun c y r z=>by subst z;rw[r] at mu;exact mu
 have ntup:∀ c xs,H c=some (.tup xs)→c≠x:=fun c xs r z=>by subst z;rw[r] at mu;exact mu
 by_cases hb:b=x
 ·subst hb;rw[upd_same] at q;cases q;exact new
 ·rw[upd_ne hb] at q
  by_cases hbe:b=e
  ·have q':H b=some (.own x):=by
    rcases he with z|z
    ·exact absurd (hbe.trans z) hb
    ·rw[hbe];exact z
   rw[q] at q';cases q'
   obtain⟨v,hv⟩:=heo
   exact⟨v,by rw[hbe];exact hv⟩
  ·refine (ok b u q).stay (fun c v hc r=>k c v ?_ r) (fun c r=>by rw[upd_ne (nown c b r)];exact r) (fun c xs r=>by rw[upd_ne (ntup c xs r)];exact r) (fun c o r=>by rw[upd_ne (fun z=>by subst z;rw[r] at mu;exact mu)];exact r)
   rcases hc with rfl|hc
   ·exact hbe
   ·rintro rfl
    rcases he with z|z
    ·exact nown c b hc z
    ·rw[hc] at z;cases z;exact hb rfl
end
structure Un(fs ex:List Addr)(H H':Hp)(h h':Heap):Prop where
 keep:∀ b o,h.get? b=some o→H b=none→b∉fs→b∉ex→h'.get? b=some o
 slot:∀ b o,h.get? b=some o→H b=none→b∈fs→b∉ex→∃ sl,h'.get? b=some { o with slots:=sl }
 free:∀ b o,h.get? b=some o→H b=none→b∉ex→H' b=none
 there:∀ b o,h.get? b=some o→b∉ex→∃ o',h'.get? b=some o'
 tups:∀ b xs,H b=some (.tup xs)→H' b=some (.tup xs)
 frzs:∀ b o u,H b=some (.frz o u)→H' b=some (.frz o u)
 tbls:∀ b ps,H b=some (.tbl ps)→∃ more,H' b=some (.tbl (ps++more))
section
variable{fs fs' ex ex':List Addr}{H H1 H2:Hp}{h h1 h2 h':Heap}{a x e:Addr}{o:HO}
theorem Un.any(u:Un fs ex H H1 h h1){b:Addr}{ob:Obj}(q:h.get? b=some ob)(n:H b=none)(hx:b∉ex):∃ sl,h1.get? b=some { ob with slots:=sl }:=by
 by_cases hb:b∈fs
 ·exact u.slot b ob q n hb hx
 ·exact⟨ob.slots,u.keep b ob q n hb hx⟩
theorem Un.kept(k:∀ b u,h.get? b=some u→h'.get? b=some u):Un fs ex H H h h' :=
 ⟨fun b ob q _ _ _=>k b ob q,fun b ob q _ _ _=>⟨ob.slots,k b ob q⟩,fun _ _ _ n _=>n,fun b ob q _=>⟨ob,k b ob q⟩,fun _ _ q=>q,fun _ _ _ q=>q,fun _ ps q=>⟨#[],by rw[q];simp⟩⟩
theorem Un.refl:Un fs ex H H h h:=Un.kept fun _ _ q=>q
theorem Un.laid(k:∀ b u,h.get? b=some u→h'.get? b=some u)(hp:h.objs.size≤a)(hn:H a=none):Un fs ex H (upd H a o) h h' where
 keep:=fun b u q _ _ _=>k b u q
 slot:=fun b u q _ _ _=>⟨u.slots,k b u q⟩
 free:=fun b u q n _=>by rw[upd_ne (Nat.ne_of_lt (Nat.lt_of_lt_of_le (Heap.lt_size q) hp))];exact n
 there:=fun b u q _=>⟨u,k b u q⟩
 tups:=fun b xs q=>by rw[upd_ne (ne_of_none q hn)];exact q
 frzs:=fun b u xs q=>by rw[upd_ne (ne_of_none q hn)];exact q
 tbls:=fun b ps q=>⟨#[],by rw[upd_ne (ne_of_none q hn),q];simp⟩
theorem Un.write(mu:Mut (H x))(he:e=x∨H e=some (.own x))(k:∀ b u,b≠e→h.get? b=some u→h'.get? b=some u)(heo:∃ u,h'.get? e=some u):Un fs ex H (upd H x o) h h':=by
 have hx:∀ b,H b=none→b≠x:=fun b n z=>by subst z;rw[n] at mu;exact mu
 have hb:∀ b,H b=none→b≠e:=fun b n z=>by
  subst z
  rcases he with r|r
  ·exact hx b n r
  ·rw[n] at r;cases r
 have hm:∀ b u,H b=some u→¬ Mut (some u)→b≠x:=fun b u q nm z=>by subst z;rw[q] at mu;exact nm mu
 refine⟨fun b u q n _ _=>k b u (hb b n) q,fun b u q n _ _=>⟨u.slots,k b u (hb b n) q⟩,fun b u q n _=>by rw[upd_ne (hx b n)];exact n,fun b u q _=>?_,
  fun b xs q=>by rw[upd_ne (hm b _ q fun z=>z)];exact q,fun b u xs q=>by rw[upd_ne (hm b _ q fun z=>z)];exact q,fun b ps q=>⟨#[],by rw[upd_ne (hm b _ q fun z=>z),q];simp⟩⟩
 by_cases hbe:b=e
 ·subst hbe;exact heo
 ·exact⟨u,k b u hbe q⟩
end
noncomputable def trk(h:Heap)(H:Hp):List Addr:=(List.range h.objs.size).filter fun a=>(H a).isSome
noncomputable def hidT(h:Heap)(H:Hp):Heap:=PySem.W.hideAll h (trk h H)
theorem hidT_size(h:Heap)(H:Hp):(hidT h H).objs.size=h.objs.size:=PySem.W.hideAll_size _ _
theorem hidT_get{h:Heap}{H:Hp}{b:Addr}{o:Obj}(e:h.get? b=some o)(n:H b=none):(hidT h H).get? b=some o :=
 PySem.W.hideAll_get _ e fun hm=>by
  have q:(H b).isSome=true:=(List.mem_filter.mp hm).2
  rw[n] at q;simp at q
theorem of_hidT{h:Heap}{H:Hp}{b:Addr}{o:Obj}(e:(hidT h H).get? b=some o):h.get? b=some o∧H b=none:=by
 have e':h.get? b=some o:=PySem.W.of_hideAll (trk h H) e
 refine⟨e',?_⟩
 cases q:H b with
 | none=>rfl
 | some x =>
  have hm:b∈trk h H:=List.mem_filter.mpr ⟨List.mem_range.mpr (Heap.lt_size e'),by simp[q]⟩
  have z:(hidT h H).get? b=none:=PySem.W.hideAll_none (trk h H) hm
  rw[z] at e;cases e
end L2
namespace L2
open PySem PySem.Spec PyProof.Rows
structure Mod(K:W.Frag)(mg:Str→Option Value)(base:Heap):Prop where
 kin:K.In base
 glob:base.Ns mainGlobals mg
 blt:∃ mb,base.Ns builtinsNs mb∧∀ x:Str,x ≠ "__name__" → mb x=bootBuiltins x
 nolimit:base.NoLimit
structure Cx where
 prog:Program
 w:World
 K:W.Frag
 mg:Str→Option Value
 base:Heap
 A:Around
 N:List Str
 s₀:Shared
 H₀:Hp
 env:Env
 outer:List Env
 stack:List Env
 ex:List Addr
 fn:Str→Bool
 calm:Bool
 pn:List (Addr×Obj)
 xe:Value→Shared→Prop
noncomputable def frs(l:List Env):List Addr:=l.filterMap (·.frame)
noncomputable abbrev Cx.fs(X:Cx):List Addr:=frs X.outer
noncomputable def Vis(sc:Scope)(x:Str):Prop:=sc.names.lookup x=some .local∨sc.names.lookup x=some .cell∨sc.names.lookup x=some .free
noncomputable def Loc(sc:Scope)(x:Str):Prop:=sc.names.lookup x=some .local∨sc.names.lookup x=some .cell
noncomputable def Look(env:Env)(h:Heap)(m:Str→Option Value)(x:Str)(u:Value):Prop :=
 (env.kindOf x=some .local∧m x=some u)∨((env.kindOf x=some .cell∨env.kindOf x=some .free)∧∃ c,env.cells.lookup x=some c∧h.IsCell c (some u))
structure Cx.Ok(X:Cx):Prop where
 mod:Mod X.K X.mg X.base
 kind:X.env.scope.kind=.function
 glob:X.env.globals=mainGlobals
 blt:X.env.builtins=builtinsNs
 above:X.s₀.heap.objs.size≤X.env.locals
 inj:∀ x y c,X.env.cells.lookup x=some c→X.env.cells.lookup y=some c→x=y
 has:∀ x,(X.env.kindOf x=some .cell∨X.env.kindOf x=some .free)→∃ c,X.env.cells.lookup x=some c
 cab:∀ x c,X.fn x=true→X.env.cells.lookup x=some c→X.s₀.heap.objs.size≤c
 hd:X.calm=true→X.A.handled=none
 frames:X.A.frames=some X.stack
 stk:X.stack=X.outer∨(X.stack=X.env::X.outer∧X.env.frame=some X.env.locals)
 exf:∀ b∈X.ex,b≠X.env.locals∧∀ x c,X.env.cells.lookup x=some c→c≠b
 bs:∀ b o,X.base.get? b=some o→X.s₀.heap.get? b=some o∧X.H₀ b=none
 bsz:X.base.objs.size≤X.s₀.heap.objs.size
 noex:∀ b o,X.base.get? b=some o→b∉X.ex
 exfs:∀ b∈X.ex,b∉X.fs
 funs:X.s₀.heap.FunFrames X.base X.outer
 frf:∀ b∈X.fs,X.H₀ b=none
structure Inv(X:Cx)(pins:List (Addr×Obj))(σ:List (Option V))(H:Hp)(s:Shared):Prop where
 ok:X.Ok
 os:s.os=X.s₀.os
 bare:AllBare s.gens
 base:Un X.fs X.ex X.H₀ H X.s₀.heap s.heap
 loc:∃ m,s.heap.Ns X.env.locals m∧∀ (i:Nat) (x:Str) (v:V),X.N[i]?=some x→σ[i]?=some (some v)→Vis X.env.scope x→∃ u,RelV v u∧Look X.env s.heap m x u
 cell:∀ x c,X.env.cells.lookup x=some c→∃ v,s.heap.IsCell c v
 free:H X.env.locals=none
 freeC:∀ x c,X.env.cells.lookup x=some c→H c=none
 pin:∀ p∈X.pn++pins,s.heap.get? p.1=some p.2∧H p.1=none∧p.1≠X.env.locals∧p.1∉X.fs∧∀ v,p.2.data≠.cell v
 hok:HOk X.prog X.w H s.heap
 len:σ.length=X.N.length
section
variable{X:Cx}{pins:List (Addr×Obj)}{σ:List (Option V)}{H H':Hp}{s:Shared}{h':Heap}
theorem Cx.Ok.nofr(ok:X.Ok){b:Addr}{o:Obj}(e:X.base.get? b=some o):b∉X.fs:=fun hb=>by
 have:=(ok.funs.mem hb).1
 rw[e] at this;cases this
theorem Inv.bs(I:Inv X pins σ H s):∀ b o,X.base.get? b=some o→s.heap.get? b=some o∧H b=none:=fun b o e =>
 ⟨I.base.keep b o (I.ok.bs b o e).1 (I.ok.bs b o e).2 (I.ok.nofr e) (I.ok.noex b o e),I.base.free b o (I.ok.bs b o e).1 (I.ok.bs b o e).2 (I.ok.noex b o e)⟩
theorem Inv.bk(I:Inv X pins σ H s):∀ b o,X.base.get? b=some o→s.heap.get? b=some o:=fun b o e=>(I.bs b o e).1
theorem Inv.mod(I:Inv X pins σ H s):Mod X.K X.mg X.base:=I.ok.mod
theorem Inv.kIn(I:Inv X pins σ H s):X.K.In s.heap:=I.ok.mod.kin.keeps I.bk
theorem Inv.lt(I:Inv X pins σ H s):X.env.locals<s.heap.objs.size:=let ⟨_,hn,_⟩:=I.loc;hn.lt
theorem Inv.sz(I:Inv X pins σ H s):X.s₀.heap.objs.size≤s.heap.objs.size:=Nat.le_trans I.ok.above (Nat.le_of_lt I.lt)
theorem Inv.nofs(I:Inv X pins σ H s){a:Addr}(h:s.heap.objs.size≤a):a∉X.fs:=fun hb=>by
 obtain⟨_,o,ho,_⟩:=I.ok.funs.mem hb
 exact absurd (Nat.lt_of_lt_of_le (Heap.lt_size ho) (Nat.le_trans I.sz h)) (Nat.lt_irrefl _)
theorem Inv.cne(I:Inv X pins σ H s):∀ x c,X.env.cells.lookup x=some c→c≠X.env.locals:=fun x c e z=>by
 obtain⟨v,o,ho,hd⟩:=I.cell x c e
 obtain⟨m,⟨o',es,ep,ho',hd',_⟩,_⟩:=I.loc
 rw[z,ho'] at ho;cases ho;rw[hd'] at hd;cases hd
theorem Inv.funs(I:Inv X pins σ H s):s.heap.FunFrames X.base X.outer:=by
 have all:∀ (l:List Env),(∀ b∈frs l,b∈X.fs)→X.s₀.heap.FunFrames X.base l→s.heap.FunFrames X.base l:=by
  intro l
  induction l with
  | nil=>intro _ _;trivial
  | cons env r ih =>
   intro hs hl
   obtain⟨hk,⟨L,o,hf,hn,ho,hd⟩,hr⟩:=hl
   have hL:L∈X.fs:=hs L (by unfold frs;rw[List.filterMap_cons,hf];exact List.mem_cons_self)
   obtain⟨sl,e⟩:=I.base.slot L o ho (I.ok.frf L hL) hL fun z=>I.ok.exfs L z hL
   exact⟨hk,⟨L,_,hf,hn,e,hd⟩,ih (fun b hb=>hs b (by unfold frs;rw[List.filterMap_cons,hf];exact List.mem_cons_of_mem _ hb)) hr⟩
 exact all X.outer (fun _ hb=>hb) I.ok.funs
theorem Inv.stack(I:Inv X pins σ H s):s.heap.FunFrames X.base X.stack:=by
 rcases I.ok.stk with e|⟨e,hf⟩
 ·rw[e];exact I.funs
 ·rw[e]
  obtain⟨m,hn,_⟩:=I.loc
  refine .cons (by rw[I.ok.kind];decide) hf hn ?_ I.funs
  exact Heap.get?_none_of_le (Nat.le_trans I.ok.bsz I.ok.above)
theorem Inv.stkSub(I:Inv X pins σ H s):∀ b∈frs X.stack,b∈X.env.locals::X.fs:=fun b hb=>by
 rcases I.ok.stk with e|⟨e,hf⟩
 ·rw[e] at hb;exact List.mem_cons_of_mem _ hb
 ·rw[e] at hb
  unfold frs at hb
  rw[List.filterMap_cons,hf] at hb
  exact hb
theorem Inv.stkFree(I:Inv X pins σ H s):∀ b∈frs X.stack,H b=none:=fun b hb=>by
 rcases List.mem_cons.mp (I.stkSub b hb) with e|hb
 ·rw[e];exact I.free
 ·obtain⟨_,o,ho,_⟩:=I.ok.funs.mem hb
  exact I.base.free b o ho (I.ok.frf b hb) fun z=>I.ok.exfs b z hb
theorem Inv.step{g':Array GenState}{t':Nat}{d':Drawn}{ch:List Addr}(I:Inv X pins σ H s)
  (hch:∀ b∈ch,(b∈X.ex∨X.s₀.heap.objs.size≤b)∧b≠X.env.locals∧(∀ x c,X.env.cells.lookup x=some c→c≠b)∧∀ p∈X.pn++pins,p.1≠b)
  (keep:∀ b o,b≠X.env.locals→b∉X.fs→b∉ch→s.heap.get? b=some o→H b=none→h'.get? b=some o)
  (slot:∀ b o,b≠X.env.locals→b∈X.fs→b∉ch→s.heap.get? b=some o→H b=none→∃ sl,h'.get? b=some { o with slots:=sl }) (free:∀ b o,b∉ch→s.heap.get? b=some o→H b=none→H' b=none)
  (there:∀ b o,b∉ch→s.heap.get? b=some o→∃ o',h'.get? b=some o')
  (tups:∀ b xs,H b=some (.tup xs)→H' b=some (.tup xs)) (frzs:∀ b o u,H b=some (.frz o u)→H' b=some (.frz o u)) (tbls:∀ b ps,H b=some (.tbl ps)→∃ more,H' b=some (.tbl (ps++more)))
  (ns:∀ m,s.heap.Ns X.env.locals m→h'.Ns X.env.locals m) (hok:HOk X.prog X.w H' h') (hg:AllBare g') :
  Inv X pins σ H' { s with heap:=h',gens:=g',drawn:=d',toks:=t' }:=by
 have neL:∀ b o,X.s₀.heap.get? b=some o→b≠X.env.locals:=fun b o e=>Nat.ne_of_lt (Nat.lt_of_lt_of_le (Heap.lt_size e) I.ok.above)
 have neC:∀ b o,X.s₀.heap.get? b=some o→b∉X.ex→b∉ch:=fun b o e hx hb=>by
  rcases (hch b hb).1 with z|z
  ·exact hx z
  ·exact absurd (Nat.lt_of_lt_of_le (Heap.lt_size e) z) (Nat.lt_irrefl _)
 have cellK:∀ x c,X.env.cells.lookup x=some c→∀ v,s.heap.IsCell c v→h'.IsCell c v:=fun x c e v ⟨o,ho,hd⟩=>by
  have nch:c∉ch:=fun z=>(hch c z).2.2.1 x c e rfl
  by_cases hc:c∈X.fs
  ·obtain⟨sl,q⟩:=slot c o (I.cne x c e) hc nch ho (I.freeC x c e)
   exact⟨_,q,hd⟩
  ·exact⟨o,keep c o (I.cne x c e) hc nch ho (I.freeC x c e),hd⟩
 refine⟨I.ok,I.os,hg,⟨fun b o e n hb hx=>?_,fun b o e n hb hx=>?_,fun b o e n hx=>?_,fun b o e hx=>?_,fun b xs e=>tups b xs (I.base.tups b xs e),fun b o xs e=>frzs b o xs (I.base.frzs b o xs e),fun b ps e=>?_⟩,?_,fun x c e=>?_,?_,fun x c e=>?_,fun p hp=>?_,hok,I.len⟩
 ·exact keep b o (neL b o e) hb (neC b o e hx) (I.base.keep b o e n hb hx) (I.base.free b o e n hx)
 ·obtain⟨sl,e1⟩:=I.base.slot b o e n hb hx
  obtain⟨sl',e2⟩:=slot b _ (neL b o e) hb (neC b o e hx) e1 (I.base.free b o e n hx)
  exact⟨sl',e2⟩
 ·obtain⟨o',e1⟩:=I.base.there b o e hx
  exact free b o' (neC b o e hx) e1 (I.base.free b o e n hx)
 ·obtain⟨o',e1⟩:=I.base.there b o e hx
  exact there b o' (neC b o e hx) e1
 ·obtain⟨m1,e1⟩:=I.base.tbls b ps e
  obtain⟨m2,e2⟩:=tbls b _ e1
  exact⟨m1++m2,by rw[e2,Array.append_assoc]⟩
 ·obtain⟨m,hn,hl⟩:=I.loc
  refine⟨m,ns m hn,fun i x v e1 e2 e3=>?_⟩
  obtain⟨u,r,l⟩:=hl i x v e1 e2 e3
  refine⟨u,r,?_⟩
  rcases l with l|⟨k,c,e,z⟩
  ·exact .inl l
  ·exact .inr ⟨k,c,e,cellK x c e _ z⟩
 ·obtain⟨v,z⟩:=I.cell x c e
  exact⟨v,cellK x c e v z⟩
 ·obtain⟨m,⟨o,_,_,ho,_⟩,_⟩:=I.loc
  exact free _ o (fun z=>(hch _ z).2.1 rfl) ho I.free
 ·obtain⟨v,o,ho,hd⟩:=I.cell x c e
  exact free c o (fun z=>(hch c z).2.2.1 x c e rfl) ho (I.freeC x c e)
 ·obtain⟨e,n,ne,nf,d⟩:=I.pin p hp
  have nch:p.1∉ch:=fun z=>(hch p.1 z).2.2.2 p hp rfl
  exact⟨keep p.1 p.2 ne nf nch e n,free p.1 p.2 nch e n,ne,nf,d⟩
theorem Inv.un{t':Nat}(I:Inv X pins σ H s)(u:Un X.fs [] H H' s.heap h')(hok:HOk X.prog X.w H' h'):Inv X pins σ H' { s with heap:=h',toks:=t' }:=by
 obtain⟨m,⟨o,es,ep,ho,r⟩,_⟩:=id I.loc
 obtain⟨sl,hL⟩:=u.any ho I.free (by simp)
 exact I.step (g':=s.gens) (d':=s.drawn) (ch:=[]) (fun _ z=>nomatch z) (fun b o _ hb _ e n=>u.keep b o e n hb (by simp)) (fun b o _ hb _ e n=>u.slot b o e n hb (by simp)) (fun b o _ e n=>u.free b o e n (by simp)) (fun b o _ e=>u.there b o e (by simp)) u.tups u.frzs u.tbls (fun m' hm=>by
  obtain⟨o',es',ep',ho',r'⟩:=hm
  rw[ho] at ho';cases ho'
  exact⟨_,es',ep',hL,r'⟩) hok I.bare
theorem Inv.call{g':Array GenState}{t':Nat}{d':Drawn}{ch:List Addr}(I:Inv X pins σ H s)(u:Un (frs X.stack) ch H H' s.heap h')(hok:HOk X.prog X.w H' h')(hg:AllBare g')
  (hch:∀ b∈ch,(b∈X.ex∨X.s₀.heap.objs.size≤b)∧b≠X.env.locals∧(∀ x c,X.env.cells.lookup x=some c→c≠b)∧∀ p∈X.pn++pins,p.1≠b) :
  Inv X pins σ H' { s with heap:=h',gens:=g',drawn:=d',toks:=t' }:=by
 obtain⟨m,⟨o,es,ep,ho,r⟩,_⟩:=id I.loc
 obtain⟨sl,hL⟩:=u.any ho I.free fun z=>(hch _ z).2.1 rfl
 exact I.step (ch:=ch) hch (fun b o hL hb hc e n=>u.keep b o e n (fun z=>(List.mem_cons.mp (I.stkSub b z)).elim hL hb) hc) (fun b o _ _ hc e n=>u.any e n hc) (fun b o hc e n=>u.free b o e n hc) (fun b o hc e=>u.there b o e hc) u.tups u.frzs u.tbls (fun m' hm=>by
  obtain⟨o',es',ep',ho',r'⟩:=hm
  rw[ho] at ho';cases ho'
  exact⟨_,es',ep',hL,r'⟩) hok hg
theorem Inv.turned{t':Nat}{it:Addr}(I:Inv X pins σ H s)(k:∀ b o,b≠it→s.heap.get? b=some o→h'.get? b=some o)(hn:H it=none)(hL:it≠X.env.locals)
  (h1:it∈X.ex∨X.s₀.heap.objs.size≤it) (h2:∀ x c,X.env.cells.lookup x=some c→c≠it) (h3:∀ p∈X.pn++pins,p.1≠it):Inv X pins σ H { s with heap:=h',toks:=t' }:=by
 have nit:∀ b u,H b=some u→b≠it:=fun b u e z=>by rw[z,hn] at e;cases e
 refine I.step (g':=s.gens) (d':=s.drawn) (ch:=[it]) (fun b hb=>?_) (fun b o _ _ hc e _=>k b o (fun z=>hc (by simp[z])) e) (fun b o _ _ hc e _=>⟨o.slots,k b o (fun z=>hc (by simp[z])) e⟩) (fun _ _ _ _ n=>n)
  (fun b o hc e=>⟨o,k b o (fun z=>hc (by simp[z])) e⟩) (fun _ _ e=>e) (fun _ _ _ e=>e) (fun b ps e=>⟨#[],by rw[e];simp⟩) (fun m hm=>?_) (fun b u e=>?_) I.bare
 ·have e:b=it:=by simpa using hb
  subst e
  exact⟨h1,hL,h2,h3⟩
 ·obtain⟨o,es,ep,ho,r⟩:=hm
  exact⟨o,es,ep,k _ o (Ne.symm hL) ho,r⟩
 ·refine (I.hok b u e).stay (fun c v hc q=>k c v ?_ q) (fun _ q=>q) fun _ _ q=>q
  rcases hc with z|z
  ·rw[z];exact nit b u e
  ·exact nit c _ z
theorem Inv.tok(I:Inv X pins σ H s)(t:Nat):Inv X pins σ H { s with toks:=t }:=I.un (h':=s.heap) (t':=t) Un.refl I.hok
theorem Inv.kept{t':Nat}(I:Inv X pins σ H s)(k:∀ b u,s.heap.get? b=some u→h'.get? b=some u):Inv X pins σ H { s with heap:=h',toks:=t' }:=I.un (Un.kept k) (I.hok.kept k)
theorem Inv.laid{a:Addr}{o:HO}{t':Nat}(I:Inv X pins σ H s)(k:∀ b u,s.heap.get? b=some u→h'.get? b=some u)(hp:s.heap.objs.size≤a)(new:ObjOk X.prog X.w (upd H a o) h' a o) :
  Inv X pins σ (upd H a o) { s with heap:=h',toks:=t' }:=I.un (Un.laid k hp (I.hok.fresh hp)) (I.hok.laid k hp new)
theorem Inv.write{x e:Addr}{o:HO}{t':Nat}(I:Inv X pins σ H s)(mu:Mut (H x))(he:e=x∨H e=some (.own x))(k:∀ b u,b≠e→s.heap.get? b=some u→h'.get? b=some u)(heo:∃ u,h'.get? e=some u)
  (new:ObjOk X.prog X.w (upd H x o) h' x o):Inv X pins σ (upd H x o) { s with heap:=h',toks:=t' }:=I.un (Un.write mu he k heo) (I.hok.write mu he k heo new)
theorem Inv.pins_of{pins':List (Addr×Obj)}(I:Inv X pins σ H s)(h:∀ p∈pins',s.heap.get? p.1=some p.2∧H p.1=none∧p.1≠X.env.locals∧p.1∉X.fs∧∀ v,p.2.data≠.cell v):Inv X pins' σ H s :=
 ⟨I.ok,I.os,I.bare,I.base,I.loc,I.cell,I.free,I.freeC,fun p hp=>(List.mem_append.mp hp).elim (fun z=>I.pin p (List.mem_append_left _ z)) (h p),I.hok,I.len⟩
theorem nodup_ix{N:List Str}(hN:N.Nodup){i j:Nat}{x:Str}(a:N[i]?=some x)(b:N[j]?=some x):i=j:=by
 obtain⟨h1,e1⟩:=List.getElem?_eq_some_iff.mp a
 obtain⟨h2,e2⟩:=List.getElem?_eq_some_iff.mp b
 exact (List.getElem_inj hN).mp (e1.trans e2.symm)
theorem store_ok2{M:Model}{A:Around}{E:Value→Shared→Prop}{i:Nat}{x:Str}{v:V}{u:Value}{Q:Unit→Shared→Prop}(I:Inv X pins σ H s)(hN:X.N.Nodup)(hi:X.N[i]?=some x)(hx:Loc X.env.scope x)(r:RelV v u)
  (h:∀ s',Inv X pins (σ.set i (some v)) H s'→(∃ a,Heap.SameBut a s.heap s'.heap∧(a=X.env.locals∨X.env.cells.lookup x=some a))→Q () s') (hf:X.fn x=true∨X.env.scope.names.lookup x=some .local:=by first|exact .inl rfl|exact .inr rfl|assumption):wpAny M A (storeName X.env x u) Q E s:=by
 obtain⟨m,hn,hl⟩:=id I.loc
 have hcls:(X.env.scope.kind == .class || (X.env.scope.kind == .module && X.env.locals != X.env.globals))=false:=by rw[I.ok.kind];rfl
 have hiσ:i<σ.length:=by rw[I.len];exact (List.getElem?_eq_some_iff.mp hi).1
 have cne:=I.cne
 have tracked:∀ {a:Addr} {h':Heap},(∃ o,s.heap.get? a=some o∧H a=none)→Heap.SameBut a s.heap h'→HOk X.prog X.w H h':=fun {a h'} ha hs b ob e=>by
  obtain⟨_,_,hfree⟩:=ha
  refine (I.hok b ob e).stay (fun c w' hc q=>(hs.2 c ?_).trans q) (fun _ q=>q) fun _ _ q=>q
  rintro rfl
  rcases hc with rfl|hc
  ·rw[hfree] at e;cases e
  ·rw[hfree] at hc;cases hc
 rcases hx with hk|hk
 ·refine wpAny_storeName_local hk hn (fun h' hn' hs=>?_) hcls
  obtain⟨oL,_,_,hoL,_⟩:=id hn
  refine h _ ⟨I.ok,I.os,I.bare,⟨fun b o e n hb hx=>?_,fun b o e n hb hx=>?_,I.base.free,fun b o e hx=>?_,I.base.tups,I.base.frzs,I.base.tbls⟩,⟨_,hn',fun j y v' e1 e2 e3=>?_⟩,fun y c e=>?_,I.free,I.freeC,fun p hp=>?_,tracked ⟨oL,hoL,I.free⟩ hs,by simpa using I.len⟩ ⟨_,hs,.inl rfl⟩
  ·exact (hs.2 b (Nat.ne_of_lt (Nat.lt_of_lt_of_le (Heap.lt_size e) I.ok.above))).trans (I.base.keep b o e n hb hx)
  ·obtain⟨sl,e1⟩:=I.base.slot b o e n hb hx
   exact⟨sl,(hs.2 b (Nat.ne_of_lt (Nat.lt_of_lt_of_le (Heap.lt_size e) I.ok.above))).trans e1⟩
  ·obtain⟨o',e1⟩:=I.base.there b o e hx
   exact⟨o',(hs.2 b (Nat.ne_of_lt (Nat.lt_of_lt_of_le (Heap.lt_size e) I.ok.above))).trans e1⟩
  ·by_cases hj:j=i
   ·subst hj
    rw[hi] at e1;cases e1
    rw[List.getElem?_set_self hiσ] at e2
    cases e2
    exact⟨u,r,.inl ⟨hk,by simp⟩⟩
   ·rw[List.getElem?_set_ne (Ne.symm hj)] at e2
    obtain⟨u',r',q⟩:=hl j y v' e1 e2 e3
    refine⟨u',r',?_⟩
    rcases q with⟨k,e⟩|⟨k,c,e,z⟩
    ·refine .inl ⟨k,?_⟩
     have:y≠x:=fun e=>hj (nodup_ix hN e1 (e▸hi))
     simp[this,e]
    ·exact .inr ⟨k,c,e,z.sameBut hs (cne y c e)⟩
  ·obtain⟨w',z⟩:=I.cell y c e
   exact⟨w',z.sameBut hs (cne y c e)⟩
  ·obtain⟨e,n,ne,nf,d⟩:=I.pin p hp
   exact⟨(hs.2 p.1 ne).trans e,n,ne,nf,d⟩
 ·have hfn:X.fn x=true:=by
   rcases hf with z|z
   ·exact z
   ·rw[z] at hk;cases hk
  obtain⟨c,hc⟩:=I.ok.has x (.inl hk)
  obtain⟨w',z⟩:=I.cell x c hc
  refine wpAny_storeName_cell I.ok.kind hk hc z (fun h' hc' hs=>?_)
  obtain⟨oc,hoc,hocd⟩:=id z
  refine h { s with heap:=h' } ⟨I.ok,I.os,I.bare,⟨fun b o e n hb hx=>?_,fun b o e n hb hx=>?_,I.base.free,fun b o e hx=>?_,I.base.tups,I.base.frzs,I.base.tbls⟩,⟨m,hn.sameBut hs (Ne.symm (cne x c hc)),fun j y v' e1 e2 e3=>?_⟩,fun y c' e=>?_,I.free,I.freeC,fun p hp=>?_,tracked ⟨oc,hoc,I.freeC x c hc⟩ hs,by simpa using I.len⟩ ⟨c,hs,.inr hc⟩
  ·exact (hs.2 b (Nat.ne_of_lt (Nat.lt_of_lt_of_le (Heap.lt_size e) (I.ok.cab x c hfn hc)))).trans (I.base.keep b o e n hb hx)
  ·obtain⟨sl,e1⟩:=I.base.slot b o e n hb hx
   exact⟨sl,(hs.2 b (Nat.ne_of_lt (Nat.lt_of_lt_of_le (Heap.lt_size e) (I.ok.cab x c hfn hc)))).trans e1⟩
  ·obtain⟨o',e1⟩:=I.base.there b o e hx
   exact⟨o',(hs.2 b (Nat.ne_of_lt (Nat.lt_of_lt_of_le (Heap.lt_size e) (I.ok.cab x c hfn hc)))).trans e1⟩
  ·by_cases hj:j=i
   ·subst hj
    rw[hi] at e1;cases e1
    rw[List.getElem?_set_self hiσ] at e2
    cases e2
    exact⟨u,r,.inr ⟨.inl hk,c,hc,hc'⟩⟩
   ·rw[List.getElem?_set_ne (Ne.symm hj)] at e2
    obtain⟨u',r',q⟩:=hl j y v' e1 e2 e3
    refine⟨u',r',?_⟩
    rcases q with q|⟨k,c',e,z'⟩
    ·exact .inl q
    ·refine .inr ⟨k,c',e,z'.sameBut hs ?_⟩
     rintro rfl
     exact hj (nodup_ix hN e1 (I.ok.inj _ _ _ e hc▸hi))
  ·by_cases hcc:c'=c
   ·subst hcc;exact⟨_,hc'⟩
   ·obtain⟨w2,z2⟩:=I.cell y c' e
    exact⟨w2,z2.sameBut hs hcc⟩
  ·obtain⟨e,n,ne,nf,d⟩:=I.pin p hp
   refine⟨(hs.2 p.1 ?_).trans e,n,ne,nf,d⟩
   intro q
   rw[q,hoc] at e
   have q':oc=p.2:=Option.some.inj e
   exact d w' (by rw[← q'];exact hocd)
theorem store_ok{M:Model}{A:Around}{E:Value→Shared→Prop}{i:Nat}{x:Str}{v:V}{u:Value}{Q:Unit→Shared→Prop}(I:Inv X pins σ H s)(hN:X.N.Nodup)(hi:X.N[i]?=some x)(hx:Loc X.env.scope x)(r:RelV v u)
  (h:∀ s',Inv X pins (σ.set i (some v)) H s'→Q () s') (hf:X.fn x=true∨X.env.scope.names.lookup x=some .local:=by first|exact .inl rfl|exact .inr rfl|assumption):wpAny M A (storeName X.env x u) Q E s :=
 store_ok2 I hN hi hx r (fun s' I' _=>h s' I') hf
theorem Inv.call'{s':Shared}{ch:List Addr}(I:Inv X pins σ H s)(ho:s'.os=s.os)(u:Un (frs X.stack) ch H H' s.heap s'.heap)(hok:HOk X.prog X.w H' s'.heap)(hg:AllBare s'.gens)
  (hch:∀ b∈ch,(b∈X.ex∨X.s₀.heap.objs.size≤b)∧b≠X.env.locals∧(∀ x c,X.env.cells.lookup x=some c→c≠b)∧∀ p∈X.pn++pins,p.1≠b):Inv X pins σ H' s':=by
 obtain⟨h',g',d',t',o'⟩:=s'
 have e:o'=s.os:=ho
 subst e
 exact I.call (g':=g') (t':=t') (d':=d') u hok hg hch
end
noncomputable abbrev XK:=Value→Option Addr→Hp→Prop
noncomputable abbrev St:=List (Option V)
noncomputable abbrev VK:=V→Hp→Prop
noncomputable abbrev TE:=St→Hp→VK→Prop
noncomputable abbrev TT:=St→Hp→(Bool→Hp→Prop)→Prop
noncomputable abbrev TA:=St→Hp→(List V→Hp→Prop)→Prop
structure Ends where
 nx:St→Hp→Prop
 rt:VK
 bk:St→Hp→Prop:=fun _ _=>False
 ct:St→Hp→Prop:=fun _ _=>False
noncomputable abbrev TS:=Ends→St→Hp→Prop
noncomputable def EP(X:Cx)(pins:List (Addr×Obj))(σ:St)(Q:VK)(u:Value)(s':Shared):Prop:=∃ v H',Inv X pins σ H' s'∧RelV v u∧Q v H'
noncomputable def TP(X:Cx)(pins:List (Addr×Obj))(σ:St)(Q:Bool→Hp→Prop)(b:Bool)(s':Shared):Prop:=∃ H',Inv X pins σ H' s'∧Q b H'
noncomputable def AP(X:Cx)(pins:List (Addr×Obj))(σ:St)(Q:List V→Hp→Prop)(us:List Value)(s':Shared):Prop:=∃ vs H',Inv X pins σ H' s'∧Vals vs us∧Q vs H'
noncomputable def SP(X:Cx)(pins:List (Addr×Obj))(D:Ends)(f:Flow)(s':Shared):Prop :=
 match f with
 | .next=>∃ σ' H',Inv X pins σ' H' s'∧D.nx σ' H'
 | .brk=>∃ σ' H',Inv X pins σ' H' s'∧D.bk σ' H'
 | .cont=>∃ σ' H',Inv X pins σ' H' s'∧D.ct σ' H'
 | .ret u=>∃ v σ' H',Inv X pins σ' H' s'∧RelV v u∧D.rt v H'
noncomputable def PE(X:Cx)(e:Expr)(t:TE):Prop :=
 ∀ (pins:List (Addr×Obj)) (s:Shared) (σ:St) (H:Hp) (Q:VK),Inv X pins σ H s→t σ H Q→wpAny (model X.prog X.w) X.A (eval e X.env) (EP X pins σ Q) X.xe s
noncomputable def PT(X:Cx)(e:Expr)(t:TT):Prop :=
 ∀ (pins:List (Addr×Obj)) (s:Shared) (σ:St) (H:Hp) (Q:Bool→Hp→Prop),Inv X pins σ H s→t σ H Q→wpAny (model X.prog X.w) X.A (isTrue e X.env (eval e X.env)) (TP X pins σ Q) X.xe s
noncomputable def PW(X:Cx)(e:Expr)(t:TT):Prop :=
 ∀ (whole:Sem Value) (pins:List (Addr×Obj)) (s:Shared) (σ:St) (H:Hp) (Q:Bool→Hp→Prop),Inv X pins σ H s→t σ H Q→wpAny (model X.prog X.w) X.A (isTrue e X.env whole) (TP X pins σ Q) X.xe s
theorem PW.pt{X:Cx}{e:Expr}{t:TT}(h:PW X e t):PT X e t:=h _
noncomputable def PA(X:Cx)(es:List Expr)(t:TA):Prop :=
 ∀ (pos:Pos) (pins:List (Addr×Obj)) (s:Shared) (σ:St) (H:Hp) (Q:List V→Hp→Prop),Inv X pins σ H s→t σ H Q→wpAny (model X.prog X.w) X.A (spliced (backTo pos (starEach es X.env))) (AP X pins σ Q) X.xe s
noncomputable def PS(X:Cx)(st:Stmt)(t:TS):Prop :=
 ∀ (pins:List (Addr×Obj)) (s:Shared) (σ:St) (H:Hp) (D:Ends),Inv X pins σ H s→t D σ H→wpAny (model X.prog X.w) X.A (exec st X.env) (SP X pins D) X.xe s
noncomputable def PSs(X:Cx)(st:List Stmt)(t:TS):Prop :=
 ∀ (pins:List (Addr×Obj)) (s:Shared) (σ:St) (H:Hp) (D:Ends),Inv X pins σ H s→t D σ H→wpAny (model X.prog X.w) X.A (execs st X.env) (SP X pins D) X.xe s
theorem thn{α:Type}{t:Sem α}{Q Q':α→Shared→Prop}{M:Model}{A:Around}{E:Value→Shared→Prop}{s:Shared}(h:wpAny M A t Q E s)(hQ:∀ a s,Q a s→Q' a s):wpAny M A t Q' E s:=wpAny_mono h hQ fun _ _ x=>x
end L2
namespace L2
open PySem PySem.Spec PyProof.Rows
section
variable{X:Cx}
noncomputable def tVar(i:Nat):TE:=fun σ H Q=>∃ v,σ[i]?=some (some v)∧Q v H
noncomputable def tC(v:V):TE:=fun _ H Q=>Q v H
theorem pe_var{i:Nat}{x:Str}{pos:Pos}(hN:X.N[i]?=some x)(hv:Vis X.env.scope x)(hd:(x == ("__debug__" : Str))=false:=by decide)(hcd:(x == ("__classdict__" : Str))=false:=by decide):PE X (.Name x pos) (tVar i):=by
 intro pins s σ H Q I h
 obtain⟨v,e,h⟩:=h
 obtain⟨m,hn,hl⟩:=I.loc
 obtain⟨u,r,l⟩:=hl i x v hN e hv
 have fin:EP X pins σ Q u s:=⟨v,H,I,r,h⟩
 rcases l with⟨hk,hm⟩|⟨hk,c,hc,hcell⟩
 ·exact wpAny_Name (wpAny_loadName_local I.ok.kind hk hn hm fin) hd
 ·rcases hk with hk|hk
  ·exact wpAny_Name (wpAny_loadName_cell I.ok.kind hk hc hcell fin) hd
  ·exact wpAny_Name (wpAny_loadName_free I.ok.kind hk hc hcell fin hcd) hd
theorem pe_int{i j pos}:PE X (.Constant (.int i) j pos) (tC (.int i)):=fun _ _ _ H _ I h=>wpAny_Constant_int ⟨.int i,H,I.tok _,⟨_,rfl⟩,h⟩
theorem pe_bl{b j pos}:PE X (.Constant (.bool b) j pos) (tC (.bl b)):=fun _ _ _ H _ I h=>Constant_bool ⟨.bl b,H,I,rfl,h⟩
theorem pe_non{j pos}:PE X (.Constant .none j pos) (tC .non):=fun _ _ _ H _ I h=>Constant_none ⟨.non,H,I,rfl,h⟩
theorem pe_str{x j pos}:PE X (.Constant (.str x) j pos) (tC (.str x)):=fun _ _ _ H _ I h=>Calls.Constant_str ⟨.str x,H,I.tok _,⟨_,rfl⟩,h⟩
noncomputable def Gl(X:Cx)(x:Str):Prop:=X.env.kindOf x=some .globalImplicit
theorem ld_glob{E:Value→Shared→Prop}{pins:List (Addr×Obj)}{s:Shared}{σ:St}{H:Hp}{x:Str}{u:Value}{pos:Pos}{Q:Value→Shared→Prop}(I:Inv X pins σ H s)(hg:Gl X x)(hm:X.mg x=some u)(h:Q u s)
  (hd:(x == ("__debug__" : Str))=false:=by decide):wpAny (model X.prog X.w) X.A (eval (.Name x pos) X.env) Q E s :=
 Calls.Name_function_global I.ok.kind hg (Calls.loadGlobal_global (by rw[I.ok.glob];exact I.mod.glob.keeps I.bk) hm h) hd
theorem ld_blt{E:Value→Shared→Prop}{pins:List (Addr×Obj)}{s:Shared}{σ:St}{H:Hp}{x:Str}{u:Value}{pos:Pos}{Q:Value→Shared→Prop}(I:Inv X pins σ H s)(hg:Gl X x)(hm:X.mg x=none)(hv:bootBuiltins x=some u)(h:Q u s)
  (hn:x ≠ "__name__" := by decide) (hd:(x == ("__debug__" : Str))=false:=by decide):wpAny (model X.prog X.w) X.A (eval (.Name x pos) X.env) Q E s:=by
 obtain⟨mb,h1,h2⟩:=I.mod.blt
 exact Calls.Name_function_global I.ok.kind hg (Calls.loadGlobal_builtin (by rw[I.ok.glob];exact I.mod.glob.keeps I.bk) hm (by rw[I.ok.blt];exact h1.keeps I.bk) ((h2 x hn).trans hv) h) hd
theorem pe_glob{x:Str}{v:V}{u:Value}{pos:Pos}(hg:Gl X x)(hm:X.mg x=some u)(r:RelV v u)(hd:(x == ("__debug__" : Str))=false:=by decide):PE X (.Name x pos) (tC v) :=
 fun _ _ _ H _ I h=>ld_glob I hg hm ⟨v,H,I,r,h⟩ hd
theorem pe_bltn{x:Str}{v:V}{u:Value}{pos:Pos}(hg:Gl X x)(hm:X.mg x=none)(hv:bootBuiltins x=some u)(r:RelV v u)(hn:x ≠ "__name__" := by decide)(hd:(x == ("__debug__" : Str))=false:=by decide):PE X (.Name x pos) (tC v) :=
 fun _ _ _ H _ I h=>ld_blt I hg hm hv ⟨v,H,I,r,h⟩ hn hd
variable{a b:Expr}{ta tb:TE}{pos:Pos}
noncomputable def tB(t:TE):TT:=fun σ H Q=>t σ H fun x H1=>∃ c,x=.bl c∧Q c H1
theorem pt_val{e:Expr}{t:TE}(h:PE X e t)(he:∀ whole,isTrue e X.env whole=(do let v ← whole;standAt e.pos;holding [v] (truthy v)):=by intro _;rfl):PT X e (tB t):=by
 intro pins s σ H Q I hw
 refine isTrue_plain (thn (h pins s σ H _ I hw) fun v s1 ⟨x,H1,I1,r1,q1⟩=>?_) (he _)
 obtain⟨d,rfl,q⟩:=q1
 cases r1
 exact wpAny_truthy_bool ⟨H1,I1,q⟩
variable{tA tB':TT}{rest:List Expr}
noncomputable def tAnd(t u:TT):TT:=fun σ H Q=>t σ H fun c H1=>if c=true then u σ H1 Q else Q false H1
noncomputable def tOr(t u:TT):TT:=fun σ H Q=>t σ H fun c H1=>if c=true then Q true H1 else u σ H1 Q
noncomputable def tNot(t:TT):TT:=fun σ H Q=>t σ H fun c H1=>Q (!c) H1
theorem pw_and1(ha:PT X a tA):PW X (.BoolOp .And [a] pos) tA:=by
 intro wh pins s σ H Q I h
 refine isTrue_and (thn (ha pins s σ H Q I h) fun c s1 e=>?_)
 cases c with
 | true=>exact isTrue_and_nil e
 | false=>exact e
theorem pw_or1(ha:PT X a tA):PW X (.BoolOp .Or [a] pos) tA:=by
 intro wh pins s σ H Q I h
 refine isTrue_or (thn (ha pins s σ H Q I h) fun c s1 e=>?_)
 cases c with
 | false=>exact isTrue_or_nil e
 | true=>exact e
theorem pw_and(ha:PT X a tA)(hb:PW X (.BoolOp .And (b::rest) pos) tB'):PW X (.BoolOp .And (a::b::rest) pos) (tAnd tA tB'):=by
 intro wh pins s σ H Q I h
 refine isTrue_and (thn (ha pins s σ H _ I h) fun c s1 ⟨H1,I1,q1⟩=>?_)
 cases c with
 | true=>exact hb wh pins s1 σ H1 Q I1 q1
 | false=>exact⟨H1,I1,q1⟩
theorem pw_or(ha:PT X a tA)(hb:PW X (.BoolOp .Or (b::rest) pos) tB'):PW X (.BoolOp .Or (a::b::rest) pos) (tOr tA tB'):=by
 intro wh pins s σ H Q I h
 refine isTrue_or (thn (ha pins s σ H _ I h) fun c s1 ⟨H1,I1,q1⟩=>?_)
 cases c with
 | true=>exact⟨H1,I1,q1⟩
 | false=>exact hb wh pins s1 σ H1 Q I1 q1
theorem pt_not(ha:PT X a tA):PT X (.UnaryOp .Not a pos) (tNot tA):=by
 intro pins s σ H Q I h
 exact isTrue_not (ha pins s σ H (fun c H1=>Q (!c) H1) I h)
noncomputable def tAndV(ta tb:TE):TE:=fun σ H Q=>ta σ H fun x H1=>∃ c,x=.bl c∧if c=true then tb σ H1 Q else Q (.bl false) H1
noncomputable def tNotV(ta:TE):TE:=fun σ H Q=>ta σ H fun x H1=>∃ c,x=.bl c∧Q (.bl (!c)) H1
theorem pe_one{op}{t:TE}(h:PE X a t):PE X (.BoolOp op [a] pos) t:=fun pins s σ H Q I hw=>BoolOp_one (h pins s σ H Q I hw)
theorem pe_and(ha:PE X a ta)(hb:PE X (.BoolOp .And (b::rest) pos) tb):PE X (.BoolOp .And (a::b::rest) pos) (tAndV ta tb):=by
 intro pins s σ H Q I h
 refine BoolOp_and (thn (ha pins s σ H _ I h) fun v s1 ⟨x,H1,I1,r1,q1⟩=>?_)
 obtain⟨c,rfl,q1⟩:=q1
 cases r1
 refine wpAny_truthy_bool ?_
 cases c with
 | true=>exact hb pins s1 σ H1 Q I1 q1
 | false=>exact⟨.bl false,H1,I1,rfl,q1⟩
theorem pe_not(ha:PE X a ta):PE X (.UnaryOp .Not a pos) (tNotV ta):=by
 intro pins s σ H Q I h
 refine UnaryOp_ (thn (ha pins s σ H _ I h) fun v s1 ⟨x,H1,I1,r1,q1⟩=>?_)
 obtain⟨c,rfl,q1⟩:=q1
 cases r1
 exact not_of (wpAny_truthy_bool ⟨.bl (!c),H1,I1,rfl,q1⟩)
end
end L2
namespace L2
open PySem PySem.Spec PyProof.Rows
noncomputable def SqL(K:W.Frag)(H:Hp)(a:Addr)(xs:List V):Prop :=
 Rd H a (.lst xs) ∨
  ∃ (o:Obj) (its:Array Value) (n:Nat),K.lookup a=some o∧o.cls=.type "list" ∧ o.dict=none∧o.data=.seq its n∧its.size≤sizeLine∧Vals xs its.toList
noncomputable def SqT(K:W.Frag)(H:Hp)(a:Addr)(xs:List V):Prop :=
 Rd H a (.tup xs) ∨
  ∃ (o:Obj) (its:Array Value) (n:Nat),K.lookup a=some o∧o.cls=.type "tuple" ∧ o.data=.seq its n∧its.size≤sizeLine∧Vals xs its.toList
noncomputable def absV:Value→Option V
 | .none=>some .non
 | .bool b=>some (.bl b)
 | .int i _=>some (.int i)
 | .str x _=>some (.str x)
 | .bytes b _=>some (.byt b)
 | .float b _=>some (.flt b)
 | .ref a=>some (.ref a)
 | .type n=>some (.ty n)
 | _=>none
theorem RelV.abs{x:V}{u:Value}(r:RelV x u):absV u=some x:=by
 cases x with
 | non=>cases r;rfl
 | bl _=>cases r;rfl
 | int _=>obtain⟨t,rfl⟩:=r;rfl
 | str _=>obtain⟨t,rfl⟩:=r;rfl
 | byt _=>obtain⟨t,rfl⟩:=r;rfl
 | flt _=>obtain⟨t,rfl⟩:=r;rfl
 | ref _=>cases r;rfl
 | ty _=>cases r;rfl
theorem RelV.inj{x y:V}{u:Value}(r:RelV x u)(q:RelV y u):x=y:=Option.some.inj (r.abs.symm.trans q.abs)
theorem Vals.inj:∀ {xs ys:List V} {us:List Value},Vals xs us→Vals ys us→xs=ys
 | _,_,_,.nil,.nil=>rfl
 | _,_,_,.cons r t,.cons r' t'=>by rw[r.inj r',Vals.inj t t']
section
variable{X:Cx}{pins:List (Addr×Obj)}{σ:St}{H:Hp}{s:Shared}{a:Addr}{xs ys:List V}
theorem SqL.of{K:W.Frag}(h:H a=some (.lst xs)):SqL K H a xs:=.inl (.inl h)
theorem SqT.of{K:W.Frag}(h:H a=some (.tup xs)):SqT K H a xs:=.inl (.inl h)
theorem Inv.list(I:Inv X pins σ H s)(h:SqL X.K H a xs):∃ its:List Value,Vals xs its∧PlainL s.heap a its.toArray∧xs.length≤sizeLine:=by
 rcases h with h|⟨o,its,n,hk,hc,hd,hs,hz,r⟩
 ·obtain⟨z,its,n,r,e⟩:=h.ok I.hok
  exact⟨its,r,⟨_,n,e,rfl,rfl,rfl⟩,z⟩
 ·refine⟨its.toList,r,⟨o,n,I.kIn a o hk,hc,hd,by simpa using hs⟩,?_⟩
  have e:=r.length
  simp only[Array.length_toList] at e
  omega
theorem Inv.tuple(I:Inv X pins σ H s)(h:SqT X.K H a xs):∃ its:List Value,Vals xs its∧IsTup s.heap a its.toArray∧xs.length≤sizeLine:=by
 rcases h with h|⟨o,its,n,hk,hc,hs,hz,r⟩
 ·obtain⟨z,its,r,p⟩:=h.ok I.hok
  exact⟨its,r,p,z⟩
 ·refine⟨its.toList,r,⟨o,I.kIn a o hk,hc,n,by simpa using hs⟩,?_⟩
  have e:=r.length
  simp only[Array.length_toList] at e
  omega
theorem Inv.list_inj(I:Inv X pins σ H s)(h:SqL X.K H a xs)(h':SqL X.K H a ys):xs=ys:=by
 obtain⟨its,r,⟨o,n,e,_,_,d⟩,_⟩:=I.list h
 obtain⟨its',r',⟨o',n',e',_,_,d'⟩,_⟩:=I.list h'
 rw[e] at e';cases e'
 rw[d] at d'
 injection d' with d1 _
 have:its=its':=by simpa using congrArg Array.toList d1
 subst this
 exact r.inj r'
theorem Inv.tuple_inj(I:Inv X pins σ H s)(h:SqT X.K H a xs)(h':SqT X.K H a ys):xs=ys:=by
 obtain⟨its,r,⟨o,e,_,n,d⟩,_⟩:=I.tuple h
 obtain⟨its',r',⟨o',e',_,n',d'⟩,_⟩:=I.tuple h'
 rw[e] at e';cases e'
 rw[d] at d'
 injection d' with d1 _
 have:its=its':=by simpa using congrArg Array.toList d1
 subst this
 exact r.inj r'
end
noncomputable abbrev Cx.wish(X:Cx)(E:Value→Shared→Prop):Cx:={ X with xe:=E }
noncomputable abbrev Cx.nox(X:Cx):Cx:=X.wish fun _ _=>False
theorem Cx.Ok.wish{X:Cx}(ok:X.Ok)(E:Value→Shared→Prop):(X.wish E).Ok :=
 ⟨ok.mod,ok.kind,ok.glob,ok.blt,ok.above,ok.inj,ok.has,ok.cab,ok.hd,ok.frames,ok.stk,ok.exf,ok.bs,ok.bsz,ok.noex,ok.exfs,ok.funs,ok.frf⟩
theorem Cx.Ok.unwish{X:Cx}{E:Value→Shared→Prop}(ok:(X.wish E).Ok):X.Ok :=
 ⟨ok.mod,ok.kind,ok.glob,ok.blt,ok.above,ok.inj,ok.has,ok.cab,ok.hd,ok.frames,ok.stk,ok.exf,ok.bs,ok.bsz,ok.noex,ok.exfs,ok.funs,ok.frf⟩
section
variable{X:Cx}{pins:List (Addr×Obj)}{σ:St}{H:Hp}{s:Shared}{E:Value→Shared→Prop}
theorem Inv.wish(I:Inv X pins σ H s)(E:Value→Shared→Prop):Inv (X.wish E) pins σ H s:=⟨I.ok.wish E,I.os,I.bare,I.base,I.loc,I.cell,I.free,I.freeC,I.pin,I.hok,I.len⟩
theorem Inv.unwish(I:Inv (X.wish E) pins σ H s):Inv X pins σ H s:=⟨I.ok.unwish,I.os,I.bare,I.base,I.loc,I.cell,I.free,I.freeC,I.pin,I.hok,I.len⟩
theorem SP.unwish{D:Ends}{f:Flow}{s':Shared}(h:SP (X.wish E) pins D f s'):SP X pins D f s':=by
 cases f with
 | next=>obtain⟨σ',H',I,q⟩:=h;exact⟨σ',H',I.unwish,q⟩
 | brk=>obtain⟨σ',H',I,q⟩:=h;exact⟨σ',H',I.unwish,q⟩
 | cont=>obtain⟨σ',H',I,q⟩:=h;exact⟨σ',H',I.unwish,q⟩
 | ret u=>obtain⟨v,σ',H',I,r,q⟩:=h;exact⟨v,σ',H',I.unwish,r,q⟩
theorem PSs.nox{st:List Stmt}{t:TS}(h:PSs X.nox st t):PSs X st t:=fun pins s σ H D I hw =>
 wpAny_mono (h pins s σ H D (I.wish _) hw) (fun _ _ q=>q.unwish) fun _ _ z=>False.elim z
end
section
variable{X:Cx}{st:Stmt}{rest:List Stmt}{t u:TS}{e:Expr}{te:TE}{pos:Pos}
noncomputable def tNext:TS:=fun D σ H=>D.nx σ H
noncomputable def tSeq(t u:TS):TS:=fun D σ H=>t { D with nx:=u D } σ H
theorem pss_nil:PSs X [] tNext:=fun _ _ σ H _ I h=>wpAny_execs_nil ⟨σ,H,I,h⟩
theorem pss_cons(h1:PS X st t)(h2:PSs X rest u):PSs X (st::rest) (tSeq t u):=by
 intro pins s σ H D I h
 refine wpAny_execs_cons (thn (h1 pins s σ H { D with nx:=u D } I h) fun f s1 q=>?_)
 cases f with
 | next =>
  obtain⟨σ',H',I',q⟩:=q
  exact h2 pins s1 σ' H' D I' q
 | ret v=>exact q
 | brk=>exact q
 | cont=>exact q
theorem pss_one(h1:PS X st t):PSs X [st] t:=by
 intro pins s σ H D I h
 refine wpAny_execs_cons (thn (h1 pins s σ H D I h) fun f s1 q=>?_)
 cases f with
 | next=>exact wpAny_execs_nil q
 | ret v=>exact q
 | brk=>exact q
 | cont=>exact q
theorem Inv.quiet{pins:List (Addr×Obj)}{σ:St}{H:Hp}{s:Shared}(I:Inv X pins σ H s):interactive X.env=false:=by simp[interactive,I.ok.kind]
noncomputable def tDrop(te:TE):TS:=fun D σ H=>te σ H fun _ H1=>D.nx σ H1
theorem ps_expr(he:PE X e te)(hs:swapsWith e none pos.line X.env=pure false:=by rfl):PS X (.Expr e pos) (tDrop te):=by
 intro pins s σ H D I h
 exact wpAny_Expr_any (thn (he pins s σ H _ I h) fun v s1 ⟨x,H1,I1,r1,q1⟩=>⟨σ,H1,I1,q1⟩) I.quiet hs
noncomputable def tRet(te:TE):TS:=fun D σ H=>te σ H D.rt
theorem ps_ret(he:PE X e te):PS X (.Return (some e) pos) (tRet te):=by
 intro pins s σ H D I h
 exact wpAny_Return_some (thn (he pins s σ H _ I h) fun v s1 ⟨x,H1,I1,r1,q1⟩=>⟨x,σ,H1,I1,r1,q1⟩)
noncomputable def tIfS(c:TT)(t u:TS):TS:=fun D σ H=>c σ H fun b H1=>if b=true then t D σ H1 else u D σ H1
theorem ps_if{c:Expr}{a b:List Stmt}{tc:TT}(hc:PT X c tc)(ha:PSs X a t)(hb:PSs X b u):PS X (.If c a b pos) (tIfS tc t u):=by
 intro pins s σ H D I h
 refine wpAny_If (thn (hc pins s σ H _ I h) fun d s1 ⟨H1,I1,q1⟩=>?_)
 cases d with
 | true=>exact ha pins s1 σ H1 D I1 q1
 | false=>exact hb pins s1 σ H1 D I1 q1
end
noncomputable abbrev TG:=V→St→Hp→(St→Hp→Prop)→Prop
noncomputable abbrev TGs:=List V→St→Hp→(St→Hp→Prop)→Prop
noncomputable def PG(X:Cx)(target:Expr)(t:TG):Prop :=
 ∀ (pins:List (Addr×Obj)) (s:Shared) (σ:St) (H:Hp) (v:V) (u:Value) (Q:St→Hp→Prop),Inv X pins σ H s→RelV v u→t v σ H Q →
  wpAny (model X.prog X.w) X.A (assign target X.env u) (fun _ s'=>∃ σ' H',Inv X pins σ' H' s'∧Q σ' H') X.xe s
noncomputable def PGs(X:Cx)(ts:List Expr)(t:TGs):Prop :=
 ∀ (pins:List (Addr×Obj)) (s:Shared) (σ:St) (H:Hp) (vs:List V) (us:List Value) (Q:St→Hp→Prop),Inv X pins σ H s→Vals vs us→t vs σ H Q →
  wpAny (model X.prog X.w) X.A (assignInOrder ((assignEach ts X.env).map (·.2)) us) (fun _ s'=>∃ σ' H',Inv X pins σ' H' s'∧Q σ' H') X.xe s
noncomputable abbrev TSet:=V→V→V→Hp→(Hp→Prop)→Prop
noncomputable def PSet(X:Cx)(t:TSet):Prop :=
 ∀ (pins:List (Addr×Obj)) (s:Shared) (σ:St) (H:Hp) (o i v:V) (ov iv u:Value) (Q:Hp→Prop),Inv X pins σ H s→RelV o ov→RelV i iv→RelV v u→t o i v H Q →
  wpAny (model X.prog X.w) X.A (setItem ov iv u) (fun _ s'=>∃ H',Inv X pins σ H' s'∧Q H') X.xe s
section
variable{X:Cx}{pos:Pos}
noncomputable def gName(i:Nat):TG:=fun v σ H Q=>Q (σ.set i (some v)) H
theorem pg_name{i:Nat}{x:Str}(hN:X.N.Nodup)(hi:X.N[i]?=some x)(hx:Loc X.env.scope x)(hf:X.fn x=true∨X.env.scope.names.lookup x=some .local:=by first|exact .inl rfl|exact .inr rfl|assumption):PG X (.Name x pos) (gName i):=by
 intro pins s σ H v u Q I r h
 exact wpAny_assign_Name (store_ok I hN hi hx r (fun s' I'=>⟨_,H,I',h⟩) hf)
noncomputable def gNil:TGs:=fun vs σ H Q=>vs=[]∧Q σ H
noncomputable def gCons(t:TG)(u:TGs):TGs:=fun vs σ H Q=>∃ v r,vs=v::r∧t v σ H fun σ' H'=>u r σ' H' Q
theorem pgs_nil:PGs X [] gNil:=by
 intro pins s σ H vs us Q I r h
 obtain⟨e,h⟩:=h
 subst e
 cases r
 exact assignInOrder_nil ⟨σ,H,I,h⟩
theorem pgs_cons{e:Expr}{es:List Expr}{t:TG}{u:TGs}(h1:PG X e t)(h2:PGs X es u)
  (hs:(assignEach (e::es) X.env).map (·.2)=assign e X.env::(assignEach es X.env).map (·.2):=by rfl):PGs X (e::es) (gCons t u):=by
 intro pins s σ H vs us Q I r h
 obtain⟨v,vr,e1,h⟩:=h
 subst e1
 cases r with
 | cons r rr =>
  rw[hs]
  refine assignInOrder_cons (thn (h1 pins s σ H _ _ _ I r h) fun _ s1 ⟨σ1,H1,I1,q1⟩=>?_)
  exact h2 pins s1 σ1 H1 _ _ Q I1 rr q1
noncomputable def gTup(K:W.Frag)(n:Nat)(t:TGs):TG:=fun v σ H Q=>∃ a xs,v=.ref a∧SqT K H a xs∧xs.length=n∧t xs σ H Q
theorem pg_tup{es:List Expr}{k:Nat}{t:TGs}{n:Nat}(hc:X.calm=true)(h:PGs X es t)
  (hn:(assignEach es X.env).length=n:=by rfl) (hst:(assignEach es X.env).findIdx? (·.1)=none:=by rfl):PG X (.Tuple es k pos) (gTup X.K n t):=by
 intro pins s σ H v u Q I r hw
 obtain⟨a,xs,e1,hq,hl,hw⟩:=hw
 subst e1
 cases r
 obtain⟨its,rv,ht,hz⟩:=I.tuple hq
 refine assign_Tuple_tuple (I.ok.hd hc) ht (by simp[hn,← hl,rv.length]) hst fun h' hx=>?_
 have I1:Inv X pins σ H { s with heap:=h' }:=I.kept (t':=s.toks) fun b o e=>hx b o (Nat.ne_of_lt (Heap.lt_size e)) e
 exact h pins _ σ H xs _ Q I1 (by simpa using rv) hw
noncomputable def gSub(to ti:TE)(t:TSet):TG:=fun v σ H Q=>to σ H fun o H1=>ti σ H1 fun i H2=>t o i v H2 fun H3=>Q σ H3
theorem pg_sub{o i:Expr}{to ti:TE}{t:TSet}(ho:PE X o to)(hi:PE X i ti)(hs:PSet X t)
  (ha:∀ v,assign (.Subscript o i pos) X.env v=(do
   let ov ← holding [v] (eval o X.env)
   let iv ← holding [v,ov] (eval i X.env)
   standAt pos
   holding [v,ov,iv] (setItem ov iv v)
   release [v,ov,iv] []):=by intro _;rfl):PG X (.Subscript o i pos) (gSub to ti t):=by
 intro pins s σ H v u Q I r h
 rw[ha]
 refine wpAny_bind (wpAny_holding (thn (ho pins s σ H _ I h) fun ov s1 ⟨x,H1,I1,r1,q1⟩=>?_))
 refine wpAny_bind (wpAny_holding (thn (hi pins s1 σ H1 _ I1 q1) fun iv s2 ⟨y,H2,I2,r2,q2⟩=>?_))
 refine wpAny_bind (wpAny_standAt (wpAny_bind (wpAny_holding (thn (hs pins s2 σ H2 x y v ov iv u _ I2 r1 r2 r q2) fun _ s3 ⟨H3,I3,q3⟩=>?_))))
 exact wpAny_release ⟨σ,H3,I3,q3⟩
noncomputable def tAsg(te:TE)(g:TG):TS:=fun D σ H=>te σ H fun x H1=>g x σ H1 D.nx
theorem ps_asg{tg e:Expr}{te:TE}{g:TG}(he:PE X e te)(hg:PG X tg g)(hs:swapsWithSole [tg] e pos.line X.env=pure false:=by rfl)(hw:swappedStores [tg] e X.env=pure none:=by rfl)
  (h1:(assignEach [tg] X.env).map (·.2)=[assign tg X.env]:=by rfl):PS X (.Assign [tg] e pos) (tAsg te g):=by
 intro pins s σ H D I h
 refine wpAny_Assign_stores (thn (he pins s σ H _ I h) fun v s1 ⟨x,H1,I1,r1,q1⟩=>?_) hs hw
 rw[h1]
 exact thn (hg pins s1 σ H1 x v _ I1 r1 q1) fun _ s2 q=>q
theorem ps_set{i:Nat}{x:Str}{e:Expr}{te:TE}{pos':Pos}(hN:X.N.Nodup)(hi:X.N[i]?=some x)(hx:Loc X.env.scope x)(he:PE X e te)(hs:swapsWith e (some (.Name x pos')) pos.line X.env=pure false:=by rfl)(hf:X.fn x=true∨X.env.scope.names.lookup x=some .local:=by first|exact .inl rfl|exact .inr rfl|assumption) :
  PS X (.Assign [.Name x pos'] e pos) (tAsg te (gName i)):=by
 intro pins s σ H D I h
 refine wpAny_Assign_Name (thn (he pins s σ H _ I h) fun v s1 ⟨y,H1,I1,r1,q1⟩=>?_) hs
 exact store_ok I1 hN hi hx r1 (fun s2 I2=>⟨_,H1,I2,q1⟩) hf
end
section
variable{X:Cx}{pos:Pos}
end
structure It where
 go:Nat→Hp→Prop
 yld:Nat→Hp→V→Hp→Prop
 stop:Nat→Hp→Prop
noncomputable def FpOk(X:Cx)(pins:List (Addr×Obj))(H:Hp)(b:Addr):Prop :=
 H b=none∧b≠X.env.locals∧b∉X.fs∧(b∈X.ex∨X.s₀.heap.objs.size≤b)∧(∀ x c,X.env.cells.lookup x=some c→c≠b)∧∀ p∈X.pn++pins,p.1≠b
theorem Inv.fpOk{X:Cx}{pins:List (Addr×Obj)}{σ:St}{H H':Hp}{s:Shared}{b:Addr}(I:Inv X pins σ H s)(hb:s.heap.objs.size≤b)(hn:H' b=none):FpOk X pins H' b:=by
 refine⟨hn,Nat.ne_of_gt (Nat.lt_of_lt_of_le I.lt hb),I.nofs hb,.inr (Nat.le_trans I.sz hb),fun x c e z=>?_,fun p hp z=>?_⟩
 ·obtain⟨v,q⟩:=I.cell x c e
  exact absurd (Nat.lt_of_lt_of_le q.lt (by rw[z];exact hb)) (Nat.lt_irrefl _)
 ·exact absurd (Nat.lt_of_lt_of_le (Heap.lt_size (I.pin p hp).1) (by rw[z];exact hb)) (Nat.lt_irrefl _)
structure Turn(P:Program)(w:World)(K:W.Frag)(tg:Expr)(J:It)(fp:List Addr)(it:Addr)(tn:Nat→Heap→Prop):Prop where
 mem:it∈fp
 obj:∀ i h,tn i h→∀ b∈fp,∃ o,h.get? b=some o∧∀ v,o.data≠.cell v
 keep:∀ i h h',tn i h→(∀ b∈fp,∀ o,h.get? b=some o→h'.get? b=some o)→tn i h'
 item:∀ (X:Cx),X.prog=P→X.w=w→X.K=K→X.calm=true→∀ (i:Nat) (pins:List (Addr×Obj)) (s:Shared) (σ:St) (H:Hp) (E:Value→Shared→Prop),Inv X pins σ H s→(∀ b∈fp,FpOk X pins H b)→tn i s.heap→J.go i H →
  wpAny (model P w) X.A (pyNext (.ref it)) (fun r s1=>∃ u,r=some u ∧
   wpAny (model P w) X.A (letOwnedTupleGo tg (.ref it) u) (fun _ s2=>∃ x H',Inv X pins σ H' s2∧RelV x u∧J.yld i H x H'∧tn (i+1) s2.heap∧∀ b∈fp,H' b=none) E s1) E s
 done:∀ (X:Cx),X.prog=P→X.w=w→X.K=K→X.calm=true→∀ (i:Nat) (pins:List (Addr×Obj)) (s:Shared) (σ:St) (H:Hp) (E:Value→Shared→Prop),Inv X pins σ H s→(∀ b∈fp,FpOk X pins H b)→tn i s.heap→J.stop i H →
  wpAny (model P w) X.A (pyNext (.ref it)) (fun r s1=>r=none∧Inv X pins σ H s1) E s
 self:∀ (A:Around) (i:Nat) (s:Shared) (Q:Value→Shared→Prop) (E:Value→Shared→Prop),tn i s.heap→Q (.ref it) s→wpAny (model P w) A (pyIter (.ref it)) Q E s
noncomputable abbrev TI:=St→Hp→(It→Hp→Prop)→Prop
noncomputable def PIE(X:Cx)(pins:List (Addr×Obj))(σ:St)(tg:Expr)(R:It→Hp→Prop)(itv:Value)(s2:Shared):Prop :=
 ∃ (it:Addr) (fp:List Addr) (tn:Nat→Heap→Prop) (J:It) (H':Hp),itv=.ref it∧Inv X pins σ H' s2∧Turn X.prog X.w X.K tg J fp it tn∧tn 0 s2.heap∧(∀ b∈fp,FpOk X pins H' b)∧R J H'
noncomputable def PI(X:Cx)(tg iter:Expr)(wi:TI):Prop :=
 ∀ (pins:List (Addr×Obj)) (s:Shared) (σ:St) (H:Hp) (R:It→Hp→Prop),Inv X pins σ H s→wi σ H R →
  wpAny (model X.prog X.w) X.A (eval iter X.env) (fun v s1=>wpAny (model X.prog X.w) X.A (pyIter v) (PIE X pins σ tg R) X.xe s1) X.xe s
theorem go_of{M:Model}{A:Around}{E:Value→Shared→Prop}{s:Shared}{tg:Expr}{it:Addr}{u:Value}{o:Obj}{n:String}{vs:Array Value}{Q:Unit→Shared→Prop}(ho:s.heap.get? it=some o)(hc:o.cls=.type n)(hd:o.data=.fields vs)
    (hn:["enumerate", "zip", "dict_itemiterator", "dict_reverseitemiterator", "odict_iterator", "itertools.zip_longest", "itertools.pairwise"].contains n=false) (hQ:Q () s):wpAny M A (letOwnedTupleGo tg (.ref it) u) Q E s:=by
  unfold letOwnedTupleGo
  cases tg<;>first
    | exact wpAny_pure hQ
    | (cases u<;>first
        | exact wpAny_pure hQ
        | (refine wpAny_bind (wpAny_load ho ?_)
           rw[hc,hd]
           show wpAny M A (if (["enumerate", "zip", "dict_itemiterator", "dict_reverseitemiterator", "odict_iterator", "itertools.zip_longest", "itertools.pairwise"].contains n && vs[0]? == some (rawInt _))=true then _ else _) Q E s
           rw[if_neg (by intro h;rw[hn,Bool.false_and] at h;cases h)]
           exact wpAny_pure hQ))
noncomputable def Itl(K:W.Frag)(a:Addr):It :=
 ⟨fun i H=>∃ xs x,SqL K H a xs∧xs[i]?=some x,fun i H x H'=>H'=H∧∀ xs,SqL K H a xs→xs[i]?=some x,fun i H=>∃ xs,SqL K H a xs∧xs.length≤i⟩
noncomputable def Itt(K:W.Frag)(a:Addr):It :=
 ⟨fun i H=>∃ xs x,SqT K H a xs∧xs[i]?=some x,fun i H x H'=>H'=H∧∀ xs,SqT K H a xs→xs[i]?=some x,fun i H=>∃ xs,SqT K H a xs∧xs.length≤i⟩
noncomputable def Itr(lo:Int)(n:Nat):It:=⟨fun i _=>i<n,fun i H x H'=>H'=H∧x=.int (lo+i),fun i _=>n≤i⟩
theorem turn_list{P:Program}{w:World}{K:W.Frag}{tg:Expr}(a it:Addr):Turn P w K tg (Itl K a) [it] it (fun i h=>h.IsListIter it a i) where
 mem:=by simp
 obj:=fun i h st b hb=>by
  have e:b=it:=by simpa using hb
  subst e
  obtain⟨o,e,c,d⟩:=st
  exact⟨o,e,fun v z=>by rw[d] at z;cases z⟩
 keep:=fun i h h' st k=>st.at fun o e=>k it (by simp) o e
 item:=by
  intro X hP hw hK hc i pins s σ H E I hf st hg
  subst hP hw hK
  obtain⟨xs,x,hq,hx⟩:=hg
  obtain⟨its,rv,p,hz⟩:=I.list hq
  obtain⟨u,hu,ru⟩:=rv.get hx
  obtain⟨f0,f1,f2,f3,f4,f5⟩:=hf it (by simp)
  refine wpAny_pyNext_list_item st p.isList (x:=u) (by simpa using hu) fun h' st' sb=>?_
  have I1:Inv X pins σ H { s with heap:=h' }:=I.turned (t':=s.toks) (fun b o hb e=>(sb.2 b hb).trans e) f0 f1 f3 f4 f5
  obtain⟨o,e,c,d⟩:=id st'
  exact⟨u,rfl,go_of (s:={ s with heap:=h' }) e c d (by decide) ⟨x,H,I1,ru,⟨rfl,fun ys hy=>by rw[I.list_inj hy hq];exact hx⟩,st',fun b hb=>(hf b hb).1⟩⟩
 done:=by
  intro X hP hw hK hc i pins s σ H E I hf st hg
  subst hP hw hK
  obtain⟨xs,hq,hx⟩:=hg
  obtain⟨its,rv,p,hz⟩:=I.list hq
  obtain⟨f0,f1,f2,f3,f4,f5⟩:=hf it (by simp)
  have hl:=rv.length
  exact wpAny_pyNext_list_end (I.ok.hd hc) st p.isList (by simp;omega) fun h' eb=>⟨rfl,I.turned (t':=s.toks) (fun b o hb e=>eb b o hb e) f0 f1 f3 f4 f5⟩
 self:=fun _ _ _ _ _ st h=>wpAny_pyIter_listiter st h
theorem turn_tuple{P:Program}{w:World}{K:W.Frag}{tg:Expr}(a it:Addr):Turn P w K tg (Itt K a) [it] it (fun i h=>h.IsTupleIter it a i) where
 mem:=by simp
 obj:=fun i h st b hb=>by
  have e:b=it:=by simpa using hb
  subst e
  obtain⟨o,e,c,d⟩:=st
  exact⟨o,e,fun v z=>by rw[d] at z;cases z⟩
 keep:=fun i h h' st k=>st.at fun o e=>k it (by simp) o e
 item:=by
  intro X hP hw hK hc i pins s σ H E I hf st hg
  subst hP hw hK
  obtain⟨xs,x,hq,hx⟩:=hg
  obtain⟨its,rv,p,hz⟩:=I.tuple hq
  obtain⟨u,hu,ru⟩:=rv.get hx
  obtain⟨f0,f1,f2,f3,f4,f5⟩:=hf it (by simp)
  refine wpAny_pyNext_tuple_item st (show s.heap.IsTuple a its.toArray from p) (x:=u) (by simpa using hu) fun h' st' sb=>?_
  have I1:Inv X pins σ H { s with heap:=h' }:=I.turned (t':=s.toks) (fun b o hb e=>(sb.2 b hb).trans e) f0 f1 f3 f4 f5
  obtain⟨o,e,c,d⟩:=id st'
  exact⟨u,rfl,go_of (s:={ s with heap:=h' }) e c d (by decide) ⟨x,H,I1,ru,⟨rfl,fun ys hy=>by rw[I.tuple_inj hy hq];exact hx⟩,st',fun b hb=>(hf b hb).1⟩⟩
 done:=by
  intro X hP hw hK hc i pins s σ H E I hf st hg
  subst hP hw hK
  obtain⟨xs,hq,hx⟩:=hg
  obtain⟨its,rv,p,hz⟩:=I.tuple hq
  obtain⟨f0,f1,f2,f3,f4,f5⟩:=hf it (by simp)
  have hl:=rv.length
  exact wpAny_pyNext_tuple_end (I.ok.hd hc) st (show s.heap.IsTuple a its.toArray from p) (by simp;omega) fun h' eb=>⟨rfl,I.turned (t':=s.toks) (fun b o hb e=>eb b o hb e) f0 f1 f3 f4 f5⟩
 self:=fun _ _ _ _ _ st h=>wpAny_pyIter_tupleiter st h
theorem turn_range{P:Program}{w:World}{K:W.Frag}{tg:Expr}(it:Addr)(lo:Int)(n:Nat):Turn P w K tg (Itr lo n) [it] it (fun i h=>IsRangeIter h it (lo+(i:Nat)*1) ((n:Int)-(i:Nat)) 1) where
 mem:=by simp
 obj:=fun i h st b hb=>by
  have e:b=it:=by simpa using hb
  subst e
  exact⟨_,st,fun v z=>by
   have z':Data.fields _=Data.cell v:=z
   cases z'⟩
 keep:=fun i h h' st k=>k it (by simp) _ st
 item:=by
  intro X hP hw hK hc i pins s σ H E I hf st hg
  subst hP hw hK
  obtain⟨f0,f1,f2,f3,f4,f5⟩:=hf it (by simp)
  have W:=Walks.range (prog:=X.prog) (w:=X.w) (I.ok.hd hc) it lo 1 n
  refine W.item i s _ _ hg st fun v h' tk hv st' kk=>?_
  obtain⟨t,rfl⟩:=hv
  have I1:Inv X pins σ H { s with heap:=h',toks:=tk }:=I.turned (fun b o hb e=>kk b o (by simpa using hb) e) f0 f1 f3 f4 f5
  refine⟨_,rfl,go_of (s:={ s with heap:=h',toks:=tk }) (n := "range_iterator") st' rfl rfl (by decide) ⟨.int (lo+i),H,I1,⟨t,?_⟩,⟨rfl,rfl⟩,st',fun b hb=>(hf b hb).1⟩⟩
  rw[Int.mul_one]
 done:=by
  intro X hP hw hK hc i pins s σ H E I hf st hg
  subst hP hw hK
  obtain⟨f0,f1,f2,f3,f4,f5⟩:=hf it (by simp)
  exact wpAny_pyNext_range_end (I.ok.hd hc) st (by have:n≤i:=hg;omega) fun h' eb=>⟨rfl,I.turned (t':=s.toks) (fun b o hb e=>eb b o hb e) f0 f1 f3 f4 f5⟩
 self:=fun _ _ _ _ _ st h=>wpAny_pyIter_rangeiter st h
end L2
namespace L2
open PySem PySem.Spec PyProof.Rows
section
variable{X:Cx}{tg:Expr}
theorem range_it{pins:List (Addr×Obj)}{σ:St}{H:Hp}{s:Shared}{R:It→Hp→Prop}{E:Value→Shared→Prop}{lo hi:Int}{t u v:Tok}{tk:Nat}(I:Inv X pins σ H s)(h1:-(2 ^ 62)≤lo)(h2:lo<2 ^ 62)(h3:-(2 ^ 62)≤hi)(h4:hi<2 ^ 62)
  (q:R (Itr lo (hi-lo).toNat) H):wpAny (model X.prog X.w) X.A (pyIter (.ref s.heap.objs.size)) (PIE X pins σ tg R) E { s with heap:=s.heap.push { cls:=.type "range",data:=.fields #[.int lo t,.int hi u,.int 1 v] },toks:=tk }:=by
 refine wpAny_pyIter_range (IsRange.new ..) (small_one h1 h2 h3 h4) ?_
 have I1:Inv X pins σ H { s with heap:=s.heap.push { cls:=.type "range",data:=.fields #[.int lo t,.int hi u,.int 1 v] },toks:=tk }:=I.kept fun b o e=>Heap.get?_push_of_some _ e
 refine⟨(s.heap.push { cls:=.type "range",data:=.fields #[.int lo t,.int hi u,.int 1 v] }).objs.size,[(s.heap.push { cls:=.type "range",data:=.fields #[.int lo t,.int hi u,.int 1 v] }).objs.size],_,_,H,rfl,
  I1.kept (t':=tk) fun b o e=>Heap.get?_push_of_some _ e,turn_range _ lo (hi-lo).toNat,?_,fun b hb=>?_,q⟩
 ·have e1:lo+((0:Nat):Int)*1=lo:=by simp
  have e2:(((hi-lo).toNat:Nat):Int)-((0:Nat):Int)=Builtin.Range.rangeSize lo hi 1:=by rw[rangeSize_one];split<;>omega
  show IsRangeIter _ _ (lo+((0:Nat):Int)*1) ((((hi-lo).toNat:Nat):Int)-((0:Nat):Int)) 1
  rw[e1,e2]
  exact Heap.get?_push_size _ rfl
 ·have e:b=(s.heap.push { cls:=.type "range",data:=.fields #[.int lo t,.int hi u,.int 1 v] }).objs.size:=by simpa using hb
  subst e
  exact I1.fpOk (Nat.le_refl _) (I1.hok.fresh (Nat.le_refl _))
noncomputable def iRng1(ta:TA):TI:=fun σ H R=>ta σ H fun vs H1=>∃ j:Int,vs=[.int j]∧-(2 ^ 62)≤j∧j<2 ^ 62∧R (Itr 0 j.toNat) H1
theorem pi_range1{a:Expr}{ta:TA}{p pos:Pos}(hg:Gl X "range")(hm:X.mg "range" = none)(ha:PA X [a] ta)(hs:starEach [a] X.env=[(false,eval a X.env)]:=by rfl):PI X tg (.Call (.Name "range" p) [a] [] pos) (iRng1 ta):=by
 intro pins s σ H R I h
 refine Call_ (ld_blt I hg hm boot_range (PyProof.Rows.callWith_type1 (thn (ha pos pins s σ H _ I h) fun us s1 ⟨vs,H1,I1,r1,q1⟩=>?_) hs rfl))
 obtain⟨j,e,q1,q2,q⟩:=q1
 subst e
 cases r1 with
 | cons r rr =>
  cases rr
  obtain⟨t,rfl⟩:=r
  exact call_range_1 (range_it I1 (by omega) (by omega) q1 q2 (by simpa using q))
noncomputable def tFor(wi:TI)(g:TG)(tb:TS):TS:=fun D σ H=>wi σ H fun J H1=>∃ W:Nat→Nat→St→Hp→Prop,(∃ m,W 0 m σ H1)∧∀ i m σ H,W i m σ H →
 (J.stop i H∧D.nx σ H)∨(J.go i H∧∃ N:St→Hp→Prop,(∀ σ' H',N σ' H'→∃ m',m' < m∧W (i+1) m' σ' H')∧∀ x H',J.yld i H x H'→g x σ H' fun σ2 H2=>tb { D with nx:=N,ct:=N,bk:=D.nx } σ2 H2)
noncomputable def pinsAt(fp:List Addr)(h:Heap):List (Addr×Obj):=fp.filterMap fun b=>(h.get? b).map fun o=>(b,o)
theorem mem_pinsAt{fp:List Addr}{h:Heap}{b:Addr}{o:Obj}(hb:b∈fp)(e:h.get? b=some o):(b,o)∈pinsAt fp h:=List.mem_filterMap.mpr ⟨b,hb,by rw[e];rfl⟩
theorem of_pinsAt{fp:List Addr}{h:Heap}{p:Addr×Obj}(hp:p∈pinsAt fp h):p.1∈fp∧h.get? p.1=some p.2:=by
 obtain⟨b,hb,e⟩:=List.mem_filterMap.mp hp
 cases q:h.get? b with
 | none=>rw[q] at e;cases e
 | some o =>
  rw[q] at e
  have e':(b,o)=p:=Option.some.inj e
  subst e'
  exact⟨hb,q⟩
theorem Inv.pinned{pins:List (Addr×Obj)}{σ:St}{H:Hp}{s:Shared}{fp:List Addr}(I:Inv X pins σ H s)(hf:∀ b∈fp,FpOk X pins H b)(ho:∀ b∈fp,∃ o,s.heap.get? b=some o∧∀ v,o.data≠.cell v):Inv X (pins++pinsAt fp s.heap) σ H s :=
 I.pins_of fun p hp=>(List.mem_append.mp hp).elim (fun z=>I.pin p (List.mem_append_right _ z)) fun z=>by
  obtain⟨hb,e⟩:=of_pinsAt z
  obtain⟨f0,f1,f2,_⟩:=hf p.1 hb
  obtain⟨o,e',d⟩:=ho p.1 hb
  rw[e] at e';cases e'
  exact⟨e,f0,f1,f2,d⟩
theorem Inv.unpinned{pins pl:List (Addr×Obj)}{σ:St}{H:Hp}{s:Shared}(I:Inv X (pins++pl) σ H s):Inv X pins σ H s:=I.pins_of fun p hp=>I.pin p (List.mem_append_right _ (List.mem_append_left _ hp))
theorem ps_for{iter:Expr}{body:List Stmt}{wi:TI}{g:TG}{tb:TS}{pos:Pos}(hp:PassesOwn (model X.prog X.w) X.A X.env X.xe)(hc:X.calm=true)(hi:PI X tg iter wi)(hg:PG X tg g)(hb:PSs X body tb)
  (hs:∀ x,foldedSetIterable iter X.env x=pure x:=by intro _;rfl):PS X (.For tg iter body [] pos) (tFor wi g tb):=by
 intro pins s σ H D I h
 refine wpAny_For (thn (hi pins s σ H _ I h) fun v s1 h1=>thn h1 fun itv s2 h2=>?_) hs
 obtain⟨it,fp,tn,J,H2,e,I2,T,st2,f2,W,⟨m0,w0⟩,turn⟩:=h2
 subst e
 have stat:∀ {H':Hp},(∀ b∈fp,H' b=none)→∀ b∈fp,FpOk X pins H' b:=fun hn b hb=>⟨hn b hb,(f2 b hb).2⟩
 refine codeAny_forLoop_any (fun n s'=>∃ i σ' H',Inv X pins σ' H' s'∧tn i s'.heap∧(∀ b∈fp,H' b=none)∧W i n σ' H') ?_ m0 ⟨0,σ,H2,I2,st2,fun b hb=>(f2 b hb).1,w0⟩
 rintro n s3 ⟨i,σ3,H3,I3,st3,fr3,w3⟩
 rcases turn i n σ3 H3 w3 with⟨stop,qn⟩|⟨go,N,hN,step⟩
 ·refine wpAny_passesOwn hp (thn (T.done X rfl rfl rfl hc i pins s3 σ3 H3 X.xe I3 (stat fr3) st3 stop) fun r s4 ⟨hr,I4⟩=>?_)
  subst hr
  exact wpAny_execs_nil ⟨σ3,H3,I4,qn⟩
 ·refine wpAny_passesOwn hp (thn (T.item X rfl rfl rfl hc i pins s3 σ3 H3 X.xe I3 (stat fr3) st3 go) fun r s4 ⟨u,hr,h4⟩=>?_)
  subst hr
  refine wpAny_passesOwn hp (thn h4 fun _ s5 ⟨x,H5,I5,r5,y5,st5,fr5⟩=>?_)
  have I5':=I5.pinned (stat fr5) (T.obj _ _ st5)
  refine wpAny_passesOwn hp (thn (hg _ s5 σ3 H5 x u _ I5' r5 (step x H5 y5)) fun _ s6 ⟨σ6,H6,I6,q6⟩=>?_)
  refine wpAny_passesOwn hp (thn (hb _ s6 σ6 H6 _ I6 q6) fun f s7 q7=>?_)
  have again:∀ {σ7:St} {H7:Hp},Inv X (pins++pinsAt fp s5.heap) σ7 H7 s7→N σ7 H7→∃ m,m<n∧∃ i σ' H',Inv X pins σ' H' s7∧tn i s7.heap∧(∀ b∈fp,H' b=none)∧W i m σ' H':=fun {σ7 H7} I7 n7=>by
   obtain⟨m',hm,w7⟩:=hN σ7 H7 n7
   refine⟨m',hm,i+1,σ7,H7,I7.unpinned,T.keep _ _ _ st5 fun b hb o e=>(I7.pin (b,o) (List.mem_append_right _ (List.mem_append_right _ (mem_pinsAt hb e)))).1,fun b hb=>?_,w7⟩
   obtain⟨o,e,d⟩:=T.obj _ _ st5 b hb
   exact (I7.pin (b,o) (List.mem_append_right _ (List.mem_append_right _ (mem_pinsAt hb e)))).2.1
  cases f with
  | next=>obtain⟨σ7,H7,I7,n7⟩:=q7;exact again I7 n7
  | cont=>obtain⟨σ7,H7,I7,n7⟩:=q7;exact again I7 n7
  | brk=>obtain⟨σ7,H7,I7,q7⟩:=q7;exact⟨σ7,H7,I7.unpinned,q7⟩
  | ret v=>obtain⟨x7,σ7,H7,I7,r7,q7⟩:=q7;exact⟨x7,σ7,H7,I7.unpinned,r7,q7⟩
end
end L2
namespace L2
open PySem PySem.Spec PyProof.Rows
noncomputable abbrev R2:=V→V→Hp→VK→Prop
noncomputable def OpR(X:Cx)(f:Value→Value→Sem Value)(r:R2):Prop :=
 ∀ (pins:List (Addr×Obj)) (s:Shared) (σ:St) (H:Hp) (x y:V) (v u:Value) (Q:VK),Inv X pins σ H s→RelV x v→RelV y u→r x y H Q →
  wpAny (model X.prog X.w) X.A (f v u) (EP X pins σ Q) X.xe s
noncomputable def UnR(X:Cx)(f:Value→Sem Value)(r:V→Hp→VK→Prop):Prop :=
 ∀ (pins:List (Addr×Obj)) (s:Shared) (σ:St) (H:Hp) (x:V) (v:Value) (Q:VK),Inv X pins σ H s→RelV x v→r x H Q →
  wpAny (model X.prog X.w) X.A (f v) (EP X pins σ Q) X.xe s
noncomputable def CallR(X:Cx)(f:Value)(r:List V→Hp→VK→Prop):Prop :=
 ∀ (pins:List (Addr×Obj)) (s:Shared) (σ:St) (H:Hp) (xs:List V) (us:List Value) (Q:VK),Inv X pins σ H s→Vals xs us→r xs H Q →
  wpAny (model X.prog X.w) X.A (call f us) (EP X pins σ Q) X.xe s
noncomputable def tOp(r:R2)(ta tb:TE):TE:=fun σ H Q=>ta σ H fun x H1=>tb σ H1 fun y H2=>r x y H2 Q
noncomputable def tUn(r:V→Hp→VK→Prop)(ta:TE):TE:=fun σ H Q=>ta σ H fun x H1=>r x H1 Q
noncomputable def rI(C:Int→Int→Prop)(g:Int→Int→V):R2:=fun x y H Q=>∃ i j,x=.int i∧y=.int j∧C i j∧Q (g i j) H
noncomputable def rI0(g:Int→Int→V):R2:=fun x y H Q=>∃ i j,x=.int i∧y=.int j∧Q (g i j) H
noncomputable def rU(g:Int→V):V→Hp→VK→Prop:=fun x H Q=>∃ i,x=.int i∧Q (g i) H
section
variable{X:Cx}{a b c:Expr}{ta tb tc:TE}{pos:Pos}
theorem binT(ha:PE X a ta)(hb:PE X b tb){pins:List (Addr×Obj)}{s:Shared}{σ:St}{H:Hp}{R:V→V→Hp→Prop}(I:Inv X pins σ H s)
  (h:ta σ H fun x H1=>tb σ H1 fun y H2=>R x y H2) {Q:Value→Shared→Prop} {f:Value→Value→Sem Value}
  (hf:∀ v u s2 x y H2,Inv X pins σ H2 s2→RelV x v→RelV y u→R x y H2→wpAny (model X.prog X.w) X.A (f v u) Q X.xe s2) :
  wpAny (model X.prog X.w) X.A (eval a X.env) (fun v s₁=>wpAny (model X.prog X.w) X.A (eval b X.env) (fun u s₂=>wpAny (model X.prog X.w) X.A (f v u) Q X.xe s₂) X.xe s₁) X.xe s:=by
 refine thn (ha pins s σ H _ I h) fun v s1 ⟨x,H1,I1,r1,q1⟩=>?_
 refine thn (hb pins s1 σ H1 _ I1 q1) fun u s2 ⟨y,H2,I2,r2,q2⟩=>?_
 exact hf v u s2 x y H2 I2 r1 r2 q2
theorem pe_op{op:Operator}{r:R2}(ho:OpR X (binaryOp op) r)(ha:PE X a ta)(hb:PE X b tb):PE X (.BinOp a op b pos) (tOp r ta tb):=by
 intro pins s σ H Q I h
 exact wpAny_BinOp (binT ha hb I h fun v u s2 x y H2 I2 rx ry q=>ho pins s2 σ H2 x y v u Q I2 rx ry q)
theorem pe_un{op:UnaryOp}{r:V→Hp→VK→Prop}(ho:UnR X (unaryOp op) r)(ha:PE X a ta):PE X (.UnaryOp op a pos) (tUn r ta):=by
 intro pins s σ H Q I h
 exact UnaryOp_ (thn (ha pins s σ H _ I h) fun v s1 ⟨x,H1,I1,r1,q1⟩=>ho pins s1 σ H1 x v Q I1 r1 q1)
theorem opI{f:Value→Value→Sem Value}{C:Int→Int→Prop}{g:Int→Int→Int}
  (rule:∀ (i j:Int) (t u:Tok) (s:Shared) (Q:Value→Shared→Prop) (E:Value→Shared→Prop),C i j→Q (.int (g i j) s.toks) { s with toks:=s.toks+1 }→wpAny (model X.prog X.w) X.A (f (.int i t) (.int j u)) Q E s) :
  OpR X f (rI C fun i j=>.int (g i j)):=by
 intro pins s σ H x y v u Q I rx ry h
 obtain⟨i,j,rfl,rfl,hc,q⟩:=h
 obtain⟨t,rfl⟩:=rx
 obtain⟨t',rfl⟩:=ry
 exact rule i j t t' s _ _ hc ⟨.int (g i j),H,I.tok _,⟨_,rfl⟩,q⟩
theorem opI0{f:Value→Value→Sem Value}{g:Int→Int→Int}
  (rule:∀ (i j:Int) (t u:Tok) (s:Shared) (Q:Value→Shared→Prop) (E:Value→Shared→Prop),Q (.int (g i j) s.toks) { s with toks:=s.toks+1 }→wpAny (model X.prog X.w) X.A (f (.int i t) (.int j u)) Q E s) :
  OpR X f (rI0 fun i j=>.int (g i j)):=by
 intro pins s σ H x y v u Q I rx ry h
 obtain⟨i,j,rfl,rfl,q⟩:=h
 obtain⟨t,rfl⟩:=rx
 obtain⟨t',rfl⟩:=ry
 exact rule i j t t' s _ _ ⟨.int (g i j),H,I.tok _,⟨_,rfl⟩,q⟩
theorem opB0{f:Value→Value→Sem Value}{g:Int→Int→Bool}
  (rule:∀ (i j:Int) (t u:Tok) (s:Shared) (Q:Value→Shared→Prop) (E:Value→Shared→Prop),Q (.bool (g i j)) s→wpAny (model X.prog X.w) X.A (f (.int i t) (.int j u)) Q E s) :
  OpR X f (rI0 fun i j=>.bl (g i j)):=by
 intro pins s σ H x y v u Q I rx ry h
 obtain⟨i,j,rfl,rfl,q⟩:=h
 obtain⟨t,rfl⟩:=rx
 obtain⟨t',rfl⟩:=ry
 exact rule i j t t' s _ _ ⟨.bl (g i j),H,I,rfl,q⟩
noncomputable def CDiv(i j:Int):Prop:=0<j∧j<1073741824
noncomputable def CMul(i j:Int):Prop:=(-(2 ^ 64)<i∧i<2 ^ 64)∨(-(2 ^ 64)<j∧j<2 ^ 64)
theorem CMul.ok{i j:Int}(h:CMul i j):IntMulOk i j:=by
 rcases h with⟨h1,h2⟩|⟨h1,h2⟩
 ·exact .of_left (intBits_le_64 h1 h2)
 ·exact .of_right (intBits_le_64 h1 h2)
theorem op_add:OpR X (binaryOp .Add) (rI0 fun i j=>.int (i+j)):=opI0 fun _ _ _ _ _ _ _ q=>add_int q
theorem op_mul:OpR X (binaryOp .Mult) (rI CMul fun i j=>.int (i*j)):=opI fun _ _ _ _ _ _ _ hc q=>mul_int q hc.ok
theorem op_fdiv:OpR X (binaryOp .FloorDiv) (rI CDiv fun i j=>.int (i / j)):=opI fun i j _ _ _ _ _ hc q=>by
 have h1:(0:Int)<j:=hc.1
 have h2:j<1073741824:=hc.2
 exact floordiv_int (by omega) (by rw[Int.fdiv_eq_ediv_of_nonneg i (by omega)];exact q) (.inl (PyProof.noPylong_small (by omega)))
theorem op_mod:OpR X (binaryOp .Mod) (rI (fun _ j=>0<j) fun i j=>.int (i%j)):=opI fun i j _ _ _ _ _ hc q=>by
 have h1:(0:Int)<j:=hc
 exact mod_int' (by omega) (by rw[Int.fmod_eq_emod_of_nonneg i (by omega)];exact q)
theorem unI{f:Value→Sem Value}{g:Int→Int}
  (rule:∀ (i:Int) (t:Tok) (s:Shared) (Q:Value→Shared→Prop) (E:Value→Shared→Prop),Q (.int (g i) s.toks) { s with toks:=s.toks+1 }→wpAny (model X.prog X.w) X.A (f (.int i t)) Q E s) :
  UnR X f (rU fun i=>.int (g i)):=by
 intro pins s σ H x v Q I rx h
 obtain⟨i,rfl,q⟩:=h
 obtain⟨t,rfl⟩:=rx
 exact rule i t s _ _ ⟨.int (g i),H,I.tok _,⟨_,rfl⟩,q⟩
theorem un_neg:UnR X (unaryOp .USub) (rU fun i=>.int (-i)):=unI fun _ _ _ _ _ q=>neg_int q
end
noncomputable def scal:V→V→Bool
 | .non,.non=>true|.non,.int _=>true|.int _,.non=>true|.non,.bl _=>true|.bl _,.non=>true|.non,.str _=>true|.str _,.non=>true
 | .int _,.int _=>true|.bl _,.bl _=>true|.str _,.str _=>true|.byt _,.byt _=>true
 | .int _,.str _=>true|.str _,.int _=>true|.bl _,.str _=>true|.str _,.bl _=>true
 | _,_=>false
noncomputable def rEq:R2:=fun x y H Q=>scal x y=true∧Q (.bl (decide (x=y))) H
noncomputable def rNe:R2:=fun x y H Q=>scal x y=true∧Q (.bl (!decide (x=y))) H
theorem dec_int{i j:Int}:decide (V.int i=V.int j)=(i == j):=by
 rw[Bool.eq_iff_iff]
 simp
theorem dec_bl{i j:Bool}:decide (V.bl i=V.bl j)=(i == j):=by
 rw[Bool.eq_iff_iff]
 simp
theorem dec_str{i j:Str}:decide (V.str i=V.str j)=(i == j):=by
 rw[Bool.eq_iff_iff]
 simp
theorem dec_byt{i j:Array UInt8}:decide (V.byt i=V.byt j)=(i.toList == j.toList):=by
 rw[Bool.eq_iff_iff]
 cases i
 cases j
 simp
section
variable{X:Cx}{a b c:Expr}{ta tb tc:TE}{pos:Pos}
theorem fin_bl{pins:List (Addr×Obj)}{σ:St}{H:Hp}{s:Shared}{Q:VK}{k k':Bool}(I:Inv X pins σ H s)(q:Q (.bl k) H)(e:k=k'):EP X pins σ Q (.bool k') s:=by
 subst e
 exact⟨.bl k,H,I,rfl,q⟩
theorem op_eq:OpR X (compareOp .Eq) rEq:=by
 intro pins s σ H x y v u Q I rx ry h
 obtain⟨hs,q⟩:=h
 cases x with
 | non =>
  cases rx
  cases y with
  | non=>cases ry;exact PySem.EqNone.eq_none_none (fin_bl I q (by simp))
  | bl j=>cases ry;exact PySem.EqNone.eq_none_bool (fin_bl I q (by simp))
  | int j=>obtain⟨t',rfl⟩:=ry;exact PySem.EqNone.eq_none_int (fin_bl I q (by simp))
  | str j=>obtain⟨t',rfl⟩:=ry;exact PySem.EqNone.eq_none_str (fin_bl I q (by simp))
  | _=>exact absurd (show false=true from hs) Bool.false_ne_true
 | bl i =>
  cases rx
  cases y with
  | non=>cases ry;exact PySem.EqNone.eq_bool_none (fin_bl I q (by simp))
  | bl j=>cases ry;exact eq_bool (fin_bl I q dec_bl)
  | str j=>obtain⟨t',rfl⟩:=ry;exact PySem.EqMixed.eq_bool_str (fin_bl I q (by simp))
  | _=>exact absurd (show false=true from hs) Bool.false_ne_true
 | int i =>
  obtain⟨t,rfl⟩:=rx
  cases y with
  | non=>cases ry;exact PySem.EqNone.eq_int_none (fin_bl I q (by simp))
  | int j=>obtain⟨t',rfl⟩:=ry;exact eq_int (fin_bl I q dec_int)
  | str j=>obtain⟨t',rfl⟩:=ry;exact PySem.EqMixed.eq_int_str (fin_bl I q (by simp))
  | _=>exact absurd (show false=true from hs) Bool.false_ne_true
 | str i =>
  obtain⟨t,rfl⟩:=rx
  cases y with
  | non=>cases ry;exact PySem.EqNone.eq_str_none (fin_bl I q (by simp))
  | bl j=>cases ry;exact PySem.EqMixed.eq_str_bool (fin_bl I q (by simp))
  | int j=>obtain⟨t',rfl⟩:=ry;exact PySem.EqMixed.eq_str_int (fin_bl I q (by simp))
  | str j=>obtain⟨t',rfl⟩:=ry;exact eq_str (fin_bl I q dec_str)
  | _=>exact absurd (show false=true from hs) Bool.false_ne_true
 | byt i =>
  obtain⟨t,rfl⟩:=rx
  cases y with
  | byt j=>obtain⟨t',rfl⟩:=ry;exact PySem.W.eq_bytes (fin_bl I q dec_byt)
  | _=>exact absurd (show false=true from hs) Bool.false_ne_true
 | _=>cases y<;>exact absurd (show false=true from hs) Bool.false_ne_true
theorem op_ne:OpR X (compareOp .NotEq) rNe:=by
 intro pins s σ H x y v u Q I rx ry h
 obtain⟨hs,q⟩:=h
 cases x with
 | non =>
  cases rx
  cases y with
  | non=>cases ry;exact PySem.EqNone.ne_none_none (fin_bl I q (by simp))
  | bl j=>cases ry;exact PySem.EqNone.ne_none_bool (fin_bl I q (by simp))
  | int j=>obtain⟨t',rfl⟩:=ry;exact PySem.EqNone.ne_none_int (fin_bl I q (by simp))
  | str j=>obtain⟨t',rfl⟩:=ry;exact PySem.EqNone.ne_none_str (fin_bl I q (by simp))
  | _=>exact absurd (show false=true from hs) Bool.false_ne_true
 | bl i =>
  cases rx
  cases y with
  | non=>cases ry;exact PySem.EqNone.ne_bool_none (fin_bl I q (by simp))
  | bl j=>cases ry;exact ne_bool (fin_bl I q (congrArg not dec_bl))
  | str j=>obtain⟨t',rfl⟩:=ry;exact PySem.EqMixed.ne_bool_str (fin_bl I q (by simp))
  | _=>exact absurd (show false=true from hs) Bool.false_ne_true
 | int i =>
  obtain⟨t,rfl⟩:=rx
  cases y with
  | non=>cases ry;exact PySem.EqNone.ne_int_none (fin_bl I q (by simp))
  | int j=>obtain⟨t',rfl⟩:=ry;exact ne_int (fin_bl I q (congrArg not dec_int))
  | str j=>obtain⟨t',rfl⟩:=ry;exact PySem.EqMixed.ne_int_str (fin_bl I q (by simp))
  | _=>exact absurd (show false=true from hs) Bool.false_ne_true
 | str i =>
  obtain⟨t,rfl⟩:=rx
  cases y with
  | non=>cases ry;exact PySem.EqNone.ne_str_none (fin_bl I q (by simp))
  | bl j=>cases ry;exact PySem.EqMixed.ne_str_bool (fin_bl I q (by simp))
  | int j=>obtain⟨t',rfl⟩:=ry;exact PySem.EqMixed.ne_str_int (fin_bl I q (by simp))
  | str j=>obtain⟨t',rfl⟩:=ry;exact ne_str (fin_bl I q (congrArg not dec_str))
  | _=>exact absurd (show false=true from hs) Bool.false_ne_true
 | byt i =>
  obtain⟨t,rfl⟩:=rx
  cases y with
  | byt j=>obtain⟨t',rfl⟩:=ry;exact PySem.W.ne_bytes (fin_bl I q (congrArg not dec_byt))
  | _=>exact absurd (show false=true from hs) Bool.false_ne_true
 | _=>cases y<;>exact absurd (show false=true from hs) Bool.false_ne_true
theorem op_lt:OpR X (compareOp .Lt) (rI0 fun i j=>.bl (decide (i<j))):=opB0 fun _ _ _ _ _ _ _ q=>lt_int q
theorem op_le:OpR X (compareOp .LtE) (rI0 fun i j=>.bl (decide (i≤j))):=opB0 fun _ _ _ _ _ _ _ q=>le_int q
theorem op_gt:OpR X (compareOp .Gt) (rI0 fun i j=>.bl (decide (j<i))):=opB0 fun _ _ _ _ _ _ _ q=>gt_int q
theorem op_ge:OpR X (compareOp .GtE) (rI0 fun i j=>.bl (decide (j≤i))):=opB0 fun _ _ _ _ _ _ _ q=>ge_int q
theorem op_in_str:OpR X (compareOp .In) (fun x y H Q=>∃ i j,x=.str i∧y=.str j∧Q (.bl (!(Builtin.Str.occurrences j i 0 j.length 1).isEmpty)) H):=by
 intro pins s σ H x y v u Q I rx ry h
 obtain⟨i,j,rfl,rfl,q⟩:=h
 obtain⟨t,rfl⟩:=rx
 obtain⟨t',rfl⟩:=ry
 exact in_str (fin_bl I q rfl)
theorem op_isN:OpR X (compareOp .Is) (fun x y H Q=>y=.non∧Q (.bl (decide (x=.non))) H):=by
 intro pins s σ H x y v u Q I rx ry h
 obtain⟨rfl,q⟩:=h
 cases ry
 refine is_none_gen (fin_bl I q ?_)
 cases x<;>first
  | (cases rx;rfl)
  | (obtain⟨t,rfl⟩:=rx;rfl)
theorem op_notN:OpR X (compareOp .IsNot) (fun x y H Q=>y=.non∧Q (.bl (!decide (x=.non))) H):=by
 intro pins s σ H x y v u Q I rx ry h
 obtain⟨rfl,q⟩:=h
 cases ry
 refine isnot_none_gen (fin_bl I q ?_)
 cases x<;>first
  | (cases rx;rfl)
  | (obtain⟨t,rfl⟩:=rx;rfl)
theorem OpR.or{f:Value→Value→Sem Value}{r r':R2}(h:OpR X f r)(h':OpR X f r'):OpR X f (fun x y H Q=>r x y H Q∨r' x y H Q):=by
 intro pins s σ H x y v u Q I rx ry q
 rcases q with q|q
 ·exact h pins s σ H x y v u Q I rx ry q
 ·exact h' pins s σ H x y v u Q I rx ry q
theorem nomark(b:Expr){op:CmpOp}(h:op≠.In:=by decide)(h2:op≠.NotIn:=by decide):behindInMarks op b=false:=by
 have e1:(op == CmpOp.In)=false:=by cases op<;>first|rfl|exact absurd rfl h
 have e2:(op == CmpOp.NotIn)=false:=by cases op<;>first|rfl|exact absurd rfl h2
 cases b<;>simp[behindInMarks,e1,e2]
theorem pe_cmpR{op:CmpOp}{r:R2}(ho:OpR X (compareOp op) r)(ha:PE X a ta)(hb:PE X b tb)(hm:behindInMarks op b=false):PE X (.Compare a [op] [b] pos) (tOp r ta tb):=by
 intro pins s σ H Q I h
 exact wpAny_Compare1 (binT ha hb I h fun v u s2 x y H2 I2 rx ry q=>ho pins s2 σ H2 x y v u Q I2 rx ry q) hm
noncomputable def tTest(t:TE):TT:=fun σ H Q=>t σ H fun x H'=>∃ k,x=.bl k∧Q k H'
theorem pt_cmpR{op:CmpOp}{r:R2}(ho:OpR X (compareOp op) r)(ha:PE X a ta)(hb:PE X b tb)(hm:behindInMarks op b=false):PT X (.Compare a [op] [b] pos) (tTest (tOp r ta tb)):=by
 intro pins s σ H Q I h
 refine wpAny_isTrue_Compare1 (thn (ha pins s σ H _ I h) fun v s1 ⟨x,H1,I1,r1,q1⟩=>thn (hb pins s1 σ H1 _ I1 q1) fun u s2 ⟨y,H2,I2,r2,q2⟩ =>
  thn (ho pins s2 σ H2 x y v u _ I2 r1 r2 q2) fun c s3 ⟨z,H3,I3,r3,k,e,q3⟩=>?_) hm
 subst e
 cases r3
 exact wpAny_truthy_bool ⟨H3,I3,q3⟩
theorem line63:(sizeLine:Nat)<2 ^ 63:=by rw[sizeLine_eq];decide
theorem op_add_str:OpR X (binaryOp .Add) (fun x y H Q=>∃ i j,x=.str i∧y=.str j∧i.length+j.length≤sizeLine∧Q (.str (i++j)) H):=by
 intro pins s σ H x y v u Q I rx ry h
 obtain⟨i,j,rfl,rfl,hz,q⟩:=h
 obtain⟨t,rfl⟩:=rx
 obtain⟨t',rfl⟩:=ry
 exact add_str (fun t' tk=>⟨.str (i++j),H,I.tok _,⟨_,rfl⟩,q⟩) hz
theorem vals1{x:V}{us:List Value}(r:Vals [x] us):∃ u,us=[u]∧RelV x u:=by
 cases r with
 | cons r1 r2=>cases r2;exact⟨_,rfl,r1⟩
theorem vals2{x y:V}{us:List Value}(r:Vals [x,y] us):∃ u w',us=[u,w']∧RelV x u∧RelV y w':=by
 cases r with
 | cons r1 r2 =>
  cases r2 with
  | cons r3 r4=>cases r4;exact⟨_,_,rfl,r1,r3⟩
end
end L2
namespace L2
open PySem PySem.Spec PyProof.Rows
structure ObjM(h:Heap)(x dx C:Addr)(mA:Str→Option Value):Prop where
 obj:h.get? x=some (PySem.W.instObj C dx)
 ns:h.Ns1 dx mA
 ne:dx≠x
theorem lookIn_ns{h:Heap}{dx:Addr}{mA:Str→Option Value}(n:h.Ns1 dx mA):∃ od,h.get? dx=some od∧∀ name,PySem.W.lookIn name od=some (mA name):=by
 obtain⟨o,es,ep,ho,hd,hk,_,hm⟩:=n
 refine⟨o,ho,fun name=>?_⟩
 have e:=hm name
 unfold nsFind findBy at e
 rw[← Array.find?_toList] at e
 unfold PySem.W.lookIn
 rw[hd]
 dsimp only
 split
 ·rename_i y q
  rw[q] at e
  exact congrArg some e
 ·rename_i q
  rw[q] at e
  have a:es.toList.any (·.refKey)=false:=by
   rw[List.any_eq_false]
   intro y hy
   obtain⟨z,t,hkey⟩:=hk y (Array.mem_toList_iff.mp hy)
   simp[DictEntry.refKey,hkey]
  have a':¬ es.toList.any (·.refKey)=true:=by rw[a];exact Bool.false_ne_true
  rw[if_neg a']
  exact congrArg some e
theorem ObjM.look{h:Heap}{x dx C:Addr}{mA:Str→Option Value}(I:ObjM h x dx C mA):∃ od,PySem.W.InstAt h x (PySem.W.instObj C dx) C (some od)∧∀ name,PySem.W.lookIn name od=some (mA name) :=
 let ⟨od,ho,hl⟩:=lookIn_ns I.ns
 ⟨od,⟨I.obj,rfl,rfl,ho⟩,hl⟩
section
variable{prog:Program}{w:World}{A:Around}{E:Value→Shared→Prop}{s:Shared}{K:W.Frag}{x dx C f:Addr}{mA:Str→Option Value}{name:Str}{v:Value}
end
noncomputable def putF(f:Str)(v:V):List (Str×V)→List (Str×V)
 | []=>[(f,v)]
 | (g,x)::r=>if g=f then (g,v)::r else (g,x)::putF f v r
theorem lookup_putF(f g:Str)(v:V):∀ fs:List (Str×V),(putF f v fs).lookup g=if g=f then some v else fs.lookup g
 | []=>by
  show List.lookup g [(f,v)]=_
  by_cases h:g=f
  ·have hb:(g == f)=true:=beq_iff_eq.mpr h
   simp only[List.lookup,hb,if_pos h]
  ·have hb:(g == f)=false:=beq_eq_false_iff_ne.mpr h
   simp only[List.lookup,hb,if_neg h]
 | (k,x)::r=>by
  have ih:=lookup_putF f g v r
  rw[show putF f v ((k,x)::r)=(if k=f then (k,v)::r else (k,x)::putF f v r) from rfl]
  by_cases hk:k=f
  ·rw[if_pos hk]
   by_cases h:g=k
   ·have hb:(g == k)=true:=beq_iff_eq.mpr h
    simp only[List.lookup,hb,if_pos (h.trans hk)]
   ·have hb:(g == k)=false:=beq_eq_false_iff_ne.mpr h
    simp only[List.lookup,hb,if_neg (fun e:g=f=>h (e.trans hk.symm))]
  ·rw[if_neg hk]
   by_cases h:g=k
   ·have hb:(g == k)=true:=beq_iff_eq.mpr h
    simp only[List.lookup,hb,if_neg (fun e:g=f=>hk (h.symm.trans e))]
   ·have hb:(g == k)=false:=beq_eq_false_iff_ne.mpr h
    simp only[List.lookup,hb]
    exact ih
theorem keys_putF(f:Str)(v:V):∀ fs:List (Str×V),f∈(putF f v fs).map (·.1)∧∀ g,g∈fs.map (·.1)→g∈(putF f v fs).map (·.1)
 | []=>⟨by simp[putF],fun g h=>by simp at h⟩
 | (k,x)::r=>by
  obtain⟨i1,i2⟩:=keys_putF f v r
  rw[show putF f v ((k,x)::r)=(if k=f then (k,v)::r else (k,x)::putF f v r) from rfl]
  by_cases hk:k=f
  ·rw[if_pos hk]
   subst hk
   exact⟨by simp,fun g h=>by simpa using h⟩
  ·rw[if_neg hk]
   refine⟨?_,fun g h=>?_⟩
   ·rw[List.map_cons]
    exact List.mem_cons_of_mem _ i1
   ·rw[List.map_cons] at h ⊢
    rcases List.mem_cons.mp h with e|e
    ·exact List.mem_cons.mpr (.inl e)
    ·exact List.mem_cons_of_mem _ (i2 g e)
theorem RelO.some_of{v:V}{o:Option Value}(r:RelO (some v) o):∃ u,o=some u∧RelV v u:=by
 cases o with
 | none=>exact (show False from r).elim
 | some u=>exact⟨u,rfl,r⟩
theorem handed_of{v:V}{u:Value}(r:RelV v u):PySem.W.handedIn u=true:=by
 cases v with
 | non=>cases (show u=Value.none from r);rfl
 | bl b=>cases (show u=Value.bool b from r);rfl
 | int i=>obtain⟨t,e⟩:=(show ∃ t,u=Value.int i t from r);cases e;rfl
 | str x=>obtain⟨t,e⟩:=(show ∃ t,u=Value.str x t from r);cases e;rfl
 | byt b=>obtain⟨t,e⟩:=(show ∃ t,u=Value.bytes b t from r);cases e;rfl
 | flt b=>obtain⟨t,e⟩:=(show ∃ t,u=Value.float b t from r);cases e;rfl
 | ref a=>cases (show u=Value.ref a from r);rfl
 | ty n=>cases (show u=Value.type n from r);rfl
section
variable{P:Program}{w:World}{H H':Hp}{h h':Heap}{a C dx:Addr}{fs fs':List (Str×V)}
theorem ins_get(hok:HOk P w H h)(e:H a=some (.ins C dx fs)):∃ mA,ObjM h a dx C mA∧(∀ f,RelO (fs.lookup f) (mA f))∧PySem.Within mA (fs.map (·.1))∧fs.length≤1000∧H dx=some (.own a):=by
 obtain⟨d,z,ne,ob,mA,n,r,q⟩:=(show ObjOk P w H h a (.ins C dx fs) from hok a _ e)
 exact⟨mA,⟨ob,n,ne⟩,r,q,z,d⟩
end
structure Cls(K:W.Frag)(C:Addr):Prop where
 pg:PySem.W.plainGet K C Str.empty=true
 hd:PySem.W.hasDictIn K C=true
 po:PySem.W.plainOver K C=true
 sa:PySem.W.findIn K (.ref C) "__setattr__" = some (some (.builtin "object.__setattr__"))
theorem Cls.get{K:W.Frag}{C:Addr}(c:Cls K C)(f:Str):PySem.W.plainGet K C f=true:=c.pg
section
variable{X:Cx}{pins:List (Addr×Obj)}{σ:St}{H:Hp}{s:Shared}{a C dx:Addr}{fs:List (Str×V)}{f:Str}{v:V}{A:Around}{E:Value→Shared→Prop}
theorem attr_of{prog:Program}{w:World}{env:Env}{e:Expr}{f:Str}{pos:Pos}{s:Shared}{Q:Value→Shared→Prop}(hb:attributeBase e f env (eval e env)=eval e env)
  (h:wpAny (model prog w) A (eval e env) (fun o s₁=>wpAny (model prog w) A (getAttr o f true) Q E s₁) E s):wpAny (model prog w) A (eval (.Attribute e f pos) env) Q E s :=
 Attribute_any_ h (by rw[arm_eval_Attribute,hb])
end
section
variable{X:Cx}{o e value:Expr}{f:Str}{pos pos' tpos:Pos}{ta tv:TE}
end
section
variable{X:Cx}{pins:List (Addr×Obj)}{σ:St}{H:Hp}{s:Shared}{A:Around}{E:Value→Shared→Prop}{Q:Value→Shared→Prop}{c:Value}{b:Bool}
inductive TyOf(K:W.Frag)(H:Hp):V→Value→Prop where
 | non:TyOf K H .non (.type "NoneType")
 | bl (x:Bool):TyOf K H (.bl x) (.type "bool")
 | int (i:Int):TyOf K H (.int i) (.type "int")
 | str (x:Str):TyOf K H (.str x) (.type "str")
 | flt (x:UInt64):TyOf K H (.flt x) (.type "float")
 | lst {a:Addr} {xs:List V} (e:H a=some (.lst xs)):TyOf K H (.ref a) (.type "list")
 | frz {a:Addr} {o:Obj} {xs:List V} (e:H a=some (.frz o (.lst xs))):TyOf K H (.ref a) (.type "list")
 | tup {a:Addr} {xs:List V} (e:H a=some (.tup xs)):TyOf K H (.ref a) (.type "tuple")
 | dK {a:Addr} {kvs:List (Key×V)} (e:H a=some (.dK kvs)):TyOf K H (.ref a) (.type "dict")
 | dT {a:Addr} {kvs:List (List Key×V)} (e:H a=some (.dT kvs)):TyOf K H (.ref a) (.type "dict")
 | ins {a C dx:Addr} {fs:List (Str×V)} (e:H a=some (.ins C dx fs)) (cl:Cls K C) (ha:PySem.W.findIn K (.ref C) "__class__" = some (some (.builtin "object.__class__")))
   (hn:PySem.W.specialIn K (.builtin "object.__class__") "__get__" = some (some (.builtin "getset_descriptor.__get__"))) (htk:PySem.W.takesIn K (.builtin "object.__class__")=some true)
   (hm:PySem.W.mroIn K C (.type "object")=some true):TyOf K H (.ref a) (.ref C)
theorem isinst_ok{x:V}{u t:Value}(I:Inv X pins σ H s)(rx:RelV x u)(ty:TyOf X.K H x t)(e:PySem.W.kitOne X.K t c=some b)(h:∀ tk,Q (.bool b) { s with toks:=tk }) :
  wpAny (model X.prog X.w) A (call (.builtin "isinstance") [u,c]) Q E s:=by
 cases ty with
 | non=>cases (show u=Value.none from rx);exact PySem.W.kia_one PySem.W.kitx_none I.kIn True.intro e (fun z=>nomatch z) h
 | bl y=>cases (show u=Value.bool y from rx);exact PySem.W.kia_one PySem.W.kitx_bool I.kIn True.intro e (fun z=>nomatch z) h
 | int i=>obtain⟨t,q⟩:=(show ∃ t,u=Value.int i t from rx);cases q;exact PySem.W.kia_one PySem.W.kitx_int I.kIn True.intro e (fun z=>nomatch z) h
 | str y=>obtain⟨t,q⟩:=(show ∃ t,u=Value.str y t from rx);cases q;exact PySem.W.kia_one PySem.W.kitx_str I.kIn True.intro e (fun z=>nomatch z) h
 | flt y=>obtain⟨t,q⟩:=(show ∃ t,u=Value.float y t from rx);cases q;exact PySem.W.kia_one PySem.W.kitx_float I.kIn True.intro e (fun z=>nomatch z) h
 | @lst a xs ea =>
  cases (show u=Value.ref a from rx)
  obtain⟨_,_,n,_,h1⟩:=(show ObjOk X.prog X.w H s.heap a (.lst xs) from I.hok a _ ea)
  exact PySem.W.kia_one PySem.W.kitx_list I.kIn ⟨_,h1,rfl⟩ e (fun z=>nomatch z) h
 | @frz a ob xs ea =>
  cases (show u=Value.ref a from rx)
  obtain⟨_,_,_,n,_,h1⟩:=(show ObjOk X.prog X.w H s.heap a (.frz ob (.lst xs)) from I.hok a _ ea)
  exact PySem.W.kia_one PySem.W.kitx_list I.kIn ⟨_,h1,rfl⟩ e (fun z=>nomatch z) h
 | @tup a xs ea =>
  cases (show u=Value.ref a from rx)
  obtain⟨_,_,_,p⟩:=(show ObjOk X.prog X.w H s.heap a (.tup xs) from I.hok a _ ea)
  obtain⟨o,h1,h2,_⟩:=p
  exact PySem.W.kia_one PySem.W.kitx_tuple I.kIn ⟨o,h1,h2⟩ e (fun z=>nomatch z) h
 | @dK a kvs ea =>
  cases (show u=Value.ref a from rx)
  obtain⟨_,_,vs,_,p⟩:=(show ObjOk X.prog X.w H s.heap a (.dK kvs) from I.hok a _ ea)
  obtain⟨o,es,ep,h1,h2,_⟩:=p
  exact PySem.W.kia_one PySem.W.kitx_dict I.kIn ⟨o,h1,h2.1⟩ e (fun z=>nomatch z) h
 | @dT a kvs ea =>
  cases (show u=Value.ref a from rx)
  obtain⟨_,_,xs,_,o,es,ep,h1,h2,_⟩:=(show ObjOk X.prog X.w H s.heap a (.dT kvs) from I.hok a _ ea)
  exact PySem.W.kia_one PySem.W.kitx_dict I.kIn ⟨o,h1,h2.1⟩ e (fun z=>nomatch z) h
 | @ins a C dx fs ea cl ha hn htk hm =>
  cases (show u=Value.ref a from rx)
  obtain⟨mA,O,_⟩:=ins_get I.hok ea
  obtain⟨od,J,_⟩:=O.look
  exact PySem.W.kia_one (PySem.W.kitx_own (cl.get _) cl.hd ha hn htk hm) I.kIn J e (fun z=>nomatch z) h
end
end L2
namespace L2
open PySem PySem.Spec PyProof.Rows
structure Room(k:Nat)(A:Around):Prop where
 hd:A.handled=none
 dp:A.depth+3*k+5<recursionLimit
 un:A.units+16*k+200<cLine
theorem Room.mono{j k:Nat}{A:Around}(r:Room k A)(h:j≤k):Room j A:=⟨r.hd,by have:=r.dp;omega,by have:=r.un;omega⟩
theorem Room.deeper{k:Nat}{A:Around}(r:Room (k+1) A)(env:Env):Room k (A.deeper env) :=
 ⟨r.hd,by have:=r.dp;show A.depth+1+3*k+5<_;omega,by have:=r.un;show A.units+3+16*k+200<_;omega⟩
theorem make_depth{A:Around}{C:Addr}{us:List Value}{kw:List (Str×Value)}:(A.under (.builtin "type.__call__" ⟨.ref C::us,kw⟩)).depth=A.depth+1:=by
 first|rfl|simp[Around.under,Code.weight,Code.isCreation,Code.isGuard,Code.isCaller,Code.frames,Code.isFrame,guardIds]
theorem make_units{A:Around}{C:Addr}{us:List Value}{kw:List (Str×Value)}:(A.under (.builtin "type.__call__" ⟨.ref C::us,kw⟩)).units=A.units+1:=by
 first|rfl|simp[Around.under,Code.cUnits,Code.frames,Code.isFrame]
theorem Room.make{k:Nat}{A:Around}(r:Room (k+1) A)(C:Addr)(us:List Value)(kw:List (Str×Value)):Room k (A.under (.builtin "type.__call__" ⟨.ref C::us,kw⟩)) :=
 ⟨r.hd,by have:=r.dp;rw[make_depth];omega,by have:=r.un;rw[make_units];omega⟩
theorem Room.depth{k:Nat}{A:Around}(r:Room k A):A.depth<recursionLimit:=by have:=r.dp;omega
theorem Room.units{k:Nat}{A:Around}(r:Room k A):A.units+64<cLine:=by have:=r.un;omega
noncomputable def tNil:TA:=fun _ H Q=>Q [] H
noncomputable def tCons(ta:TE)(tr:TA):TA:=fun σ H Q=>ta σ H fun x H1=>tr σ H1 fun xs H2=>Q (x::xs) H2
section
variable{X:Cx}{e:Expr}{es:List Expr}{te:TE}{t:TA}{pos:Pos}
theorem pa_nil:PA X [] tNil:=fun _ _ _ _ H Q I h=>Calls.spliced_nil ⟨[],H,I,.nil,h⟩
theorem pa_cons(ha:PE X e te)(hr:PA X es t)(hs:starEach (e::es) X.env=(false,eval e X.env)::starEach es X.env:=by rfl):PA X (e::es) (tCons te t):=by
 intro pos pins s σ H Q I h
 rw[hs]
 show wpAny _ _ (spliced ((false,eval e X.env)::backTo pos (starEach es X.env))) _ _ s
 refine Calls.spliced_cons (thn (ha pins s σ H _ I h) fun u s1 ⟨x,H1,I1,r1,q1⟩=>?_)
 exact thn (hr pos pins s1 σ H1 _ I1 q1) fun us s2 ⟨xs,H2,I2,r2,q2⟩=>⟨x::xs,H2,I2,.cons r1 r2,q2⟩
noncomputable def tTup(t:TA):TE:=fun σ H Q=>t σ H fun xs H1=>xs.length≤sizeLine∧∀ p,H1 p=none→Q (.ref p) (upd H1 p (.tup xs))
noncomputable def tLst(t:TA):TE:=fun σ H Q=>t σ H fun xs H1=>xs.length≤sizeLine∧∀ p,H1 p=none→Q (.ref p) (upd H1 p (.lst xs))
theorem pe_tup{x1}(h:PA X es t):PE X (.Tuple es x1 pos) (tTup t):=by
 intro pins s σ H Q I hq
 refine wpAny_Tuple_spliced (thn (h pos pins s σ H _ I hq) fun us s1 ⟨xs,H1,I1,r,z,q⟩=>⟨by rw[← r.length];exact z,?_⟩)
 have hf:H1 s1.heap.objs.size=none:=I1.hok.fresh (Nat.le_refl _)
 refine⟨.ref s1.heap.objs.size,upd H1 s1.heap.objs.size (.tup xs),I1.laid (t':=s1.toks) (fun b u e=>Heap.get?_push_of_some _ e) (Nat.le_refl _) ?_,rfl,q _ hf⟩
 exact⟨z,us,r,⟨_,Heap.get?_push_size _ rfl,rfl,_,rfl⟩⟩
theorem pe_lst(h:PA X es t):PE X (.List es pos) (tLst t):=by
 intro pins s σ H Q I hq
 refine wpAny_List_spliced (thn (h pos pins s σ H _ I hq) fun us s1 ⟨xs,H1,I1,r,z,q⟩=>⟨by rw[← r.length];exact z,?_⟩)
 have hf:H1 s1.heap.objs.size=none:=I1.hok.fresh (Nat.le_refl _)
 refine⟨.ref s1.heap.objs.size,upd H1 s1.heap.objs.size (.lst xs),I1.laid (t':=s1.toks) (fun b u e=>Heap.get?_push_of_some _ e) (Nat.le_refl _) ?_,rfl,q _ hf⟩
 exact⟨z,us,0,r,Heap.get?_push_size _ rfl⟩
end
noncomputable abbrev Sp:=List V→Hp→VK→XK→Prop
noncomputable abbrev CXT:=List Env→Hp→Shared→XK→Value→Shared→Prop
structure Env0(P:Program)(w:World)(K:W.Frag)(mg:Str→Option Value)(base:Heap)(A:Around)(outer:List Env)(s:Shared)(H:Hp):Prop where
 frames:A.frames=some outer
 mod:Mod K mg base
 bs:∀ b o,base.get? b=some o→s.heap.get? b=some o∧H b=none
 bsz:base.objs.size≤s.heap.objs.size
 funs:s.heap.FunFrames base outer
 frf:∀ b∈frs outer,H b=none
 hok:HOk P w H s.heap
 bare:AllBare s.gens
noncomputable def CE(outer:List Env)(P:Program)(w:World)(H:Hp)(s:Shared)(Q:VK)(u:Value)(s':Shared):Prop :=
 ∃ v H',s'.os=s.os∧AllBare s'.gens∧Un (frs outer) [] H H' s.heap s'.heap∧HOk P w H' s'.heap∧RelV v u∧Q v H'
noncomputable def CR(CX:CXT)(outer:List Env)(P:Program)(w:World)(H:Hp)(s:Shared)(Q:VK)(E:XK)(r:Result)(s':Shared):Prop :=
 match r with
 | .ok (.ret u)=>CE outer P w H s Q u s'
 | .ok _=>False
 | .error e=>CX outer H s E e s'
structure FnOk(P:Program)(w:World)(K:W.Frag)(mg:Str→Option Value)(base:Heap)(CX:CXT)(k:Nat)(f:Addr)(fd:FuncData)(ps:List Str)(sp:Sp):Prop where
 len:∀ vs H Q E,sp vs H Q E→vs.length=ps.length
 run:∀ (A:Around) (outer:List Env) (s:Shared) (H:Hp) (args:Args) (us:List Value) (vs:List V) (Q:VK) (E:XK),Room k A→Env0 P w K mg base A outer s H→BindsTo s fd args (ps.zip us)→Vals vs us→sp vs H Q E →
  codeAny (model P w) A (.call (.ref f) args) (CR CX outer P w H s Q E) s
theorem FnOk.mono{P:Program}{w:World}{K:W.Frag}{mg:Str→Option Value}{base:Heap}{CX:CXT}{j k:Nat}{f:Addr}{fd:FuncData}{ps:List Str}{sp:Sp}(F:FnOk P w K mg base CX j f fd ps sp)(h:j≤k) :
  FnOk P w K mg base CX k f fd ps sp:=⟨F.len,fun A outer s H args us vs Q E hr=>F.run A outer s H args us vs Q E (hr.mono h)⟩
theorem FnOk.imp{P:Program}{w:World}{K:W.Frag}{mg:Str→Option Value}{base:Heap}{CX:CXT}{k:Nat}{f:Addr}{fd:FuncData}{ps:List Str}{sp sp':Sp}(F:FnOk P w K mg base CX k f fd ps sp)
  (h:∀ vs H Q E,sp' vs H Q E→sp vs H Q E):FnOk P w K mg base CX k f fd ps sp' :=
 ⟨fun vs H Q E q=>F.len vs H Q E (h _ _ _ _ q),fun A outer s H args us vs Q E hr he hb hv hs=>F.run A outer s H args us vs Q E hr he hb hv (h _ _ _ _ hs)⟩
theorem Env0.make{P:Program}{w:World}{K:W.Frag}{mg:Str→Option Value}{base:Heap}{A:Around}{outer:List Env}{s:Shared}{H:Hp}(e:Env0 P w K mg base A outer s H)(C:Addr)(us:List Value)(kw:List (Str×Value)) :
  Env0 P w K mg base (A.under (.builtin "type.__call__" ⟨.ref C::us,kw⟩)) outer s H:=⟨by first|exact e.frames|(simpa [Around.under,Code.envs,Code.isFrame,pushEnvs] using e.frames),e.mod,e.bs,e.bsz,e.funs,e.frf,e.hok,e.bare⟩
section
variable{X:Cx}{pins:List (Addr×Obj)}{σ:St}{H:Hp}{s s':Shared}
theorem Inv.env0(I:Inv X pins σ H s):Env0 X.prog X.w X.K X.mg X.base X.A X.stack s H :=
 ⟨I.ok.frames,I.ok.mod,I.bs,Nat.le_trans I.ok.bsz I.sz,I.stack,I.stkFree,I.hok,I.bare⟩
theorem Inv.after{Q:VK}{u:Value}(I:Inv X pins σ H s)(h:CE X.stack X.prog X.w H s Q u s'):EP X pins σ Q u s':=by
 obtain⟨v,H',os,bare,un,hok,r,q⟩:=h
 obtain⟨hh,g,d,t,os'⟩:=s'
 obtain rfl:os'=s.os:=os
 exact⟨v,H',I.call (h':=hh) (g':=g) (d':=d) (t':=t) (ch:=[]) un hok bare (fun b z=>absurd z (by simp)),r,q⟩
end
noncomputable def tCall(sp:Sp)(dvs:List V)(E:XK)(t:TA):TE:=fun σ H Q=>t σ H fun vs H1=>sp (vs++dvs) H1 Q E
noncomputable def Binds(K:W.Frag)(fd:FuncData)(ps:List Str)(ds:List Value):Prop :=
 ∀ (s:Shared) (us:List Value),K.In s.heap→(us++ds).length=ps.length→BindsTo s fd ⟨us,[]⟩ (ps.zip (us++ds))
theorem Binds.all{K:W.Frag}{fd:FuncData}{ps:List Str}(h:∀ us:List Value,us.length=ps.length→bindArgs fd ⟨us,[]⟩=pure (ps.zip us)):Binds K fd ps []:=fun s us _ hl=>by
 rw[List.append_nil] at hl ⊢
 exact .of_eq (h us hl)
noncomputable def Passes(CX:CXT)(X:Cx)(E:XK):Prop:=∀ (pins:List (Addr×Obj)) (σ:St) (H:Hp) (s:Shared) (e:Value) (s':Shared),Inv X pins σ H s→CX X.stack H s E e s'→X.xe e s'
section
variable{X:Cx}{CX:CXT}{k:Nat}{f C:Addr}{fd:FuncData}{ps:List Str}{sp:Sp}{dvs:List V}{ds:List Value}{E:XK}{x m:Str}{p pos apos:Pos}{e o:Expr}{es:List Expr}{ta:TE}{t:TA}
theorem run_fn{pins:List (Addr×Obj)}{σ:St}{H:Hp}{s:Shared}{Q:VK}{us:List Value}{vs:List V}(F:FnOk X.prog X.w X.K X.mg X.base CX k f fd ps sp)(hr:Room k X.A)(hb:Binds X.K fd ps ds)(hd:Vals dvs ds)(hx:Passes CX X E)
  (I:Inv X pins σ H s) (r:Vals vs us) (h:sp (vs++dvs) H Q E):wpAny (model X.prog X.w) X.A (call (.ref f) us) (EP X pins σ Q) X.xe s:=by
 have r2:Vals (vs++dvs) (us++ds):=r.append hd
 have hl:(us++ds).length=ps.length:=by rw[← r2.length];exact F.len _ _ _ _ h
 refine wpAny_call (codeAny_mono (F.run X.A X.stack s H ⟨us,[]⟩ (us++ds) (vs++dvs) Q E hr I.env0 (hb s us I.kIn hl) r2 h) fun r s' hq=>?_)
 cases r with
 | error e=>exact hx pins σ H s e s' I hq
 | ok fl =>
  cases fl with
  | ret u=>exact I.after hq
  | next=>exact False.elim hq
  | brk=>exact False.elim hq
  | cont=>exact False.elim hq
theorem pe_call(F:FnOk X.prog X.w X.K X.mg X.base CX k f fd ps sp)(hr:Room k X.A)(hg:Gl X x)(hm:X.mg x=some (.ref f))(hk:PySem.W.keepIn X.K (.ref f)=true)(hb:Binds X.K fd ps ds)(hd:Vals dvs ds)(hx:Passes CX X E)
  (ha:PA X (e::es) t) (hdb:(x == ("__debug__" : Str))=false:=by decide) (he:starEach (e::es) X.env=(false,eval e X.env)::starEach es X.env:=by rfl) (hpl:(backTo pos (starEach es X.env)).any (·.1)=false:=by rfl) :
  PE X (.Call (.Name x p) (e::es) [] pos) (tCall sp dvs E t):=by
 intro pins s σ H Q I h
 refine wpAny_Call_Name_kw (ld_glob I hg hm ?_ hdb)
 refine PySem.W.callWith_K (h₀:=X.base) I.ok.mod.kin hk (thn (ha pos pins s σ H _ I h) fun us s1 ⟨vs,H1,I1,r,q⟩=>⟨I1.kIn,?_⟩) he hpl
 exact run_fn F hr hb hd hx I1 r q
end
section
variable{X:Cx}{CX:CXT}{k:Nat}{f C:Addr}{fd:FuncData}{ps ks:List Str}{sp:Sp}{E:XK}{x m:Str}{p pos apos kpos:Pos}{e o:Expr}{es:List Expr}{kws:List Keyword}{te ta:TE}{t tk:TA}{nm:Option Str}
variable{g:List Value→List Value→List Value}{gV:List V→List V→List V}
end
structure FnScope(N P:List Str)(sc:Scope):Prop where
 kind:sc.kind=.function
 co:sc.isCoroutine=false
 gen:sc.isGenerator=false
 nd:N.Nodup
 pre:N.take P.length=P
 par:∀ x∈P,sc.names.lookup x=some .local∨sc.names.lookup x=some .cell
 nofree:∀ y∈sc.names,y.2≠.free
theorem bindL_out{kindOf:Str→Option NameKind}{x:Str}:∀ {binds:List (Str×Value)} {m:Str→Option Value},(∀ v,(x,v)∉binds)→bindL kindOf binds m x=m x
 | [],_,_=>rfl
 | (n,v)::r,m,h=>by
  unfold bindL
  rw[bindL_out fun w hw=>h w (List.mem_cons_of_mem _ hw)]
  split
  ·have:x≠n:=by rintro rfl;exact h v List.mem_cons_self
   simp[this]
  ·rfl
theorem bindC_out{kindOf:Str→Option NameKind}{x:Str}:∀ {binds:List (Str×Value)} {m:Str→Option Value},(∀ v,(x,v)∉binds)→bindC kindOf binds m x=m x
 | [],_,_=>rfl
 | (n,v)::r,m,h=>by
  unfold bindC
  rw[bindC_out fun w hw=>h w (List.mem_cons_of_mem _ hw)]
  split
  ·rfl
  ·have:x≠n:=by rintro rfl;exact h v List.mem_cons_self
   simp[this]
theorem bindL_get{kindOf:Str→Option NameKind}{x:Str}{v:Value}:∀ {P:List Str} {vs:List Value} {i:Nat} {m:Str→Option Value},P.Nodup→P[i]?=some x→vs[i]?=some v→kindOf x=some .local →
  bindL kindOf (P.zip vs) m x=some v
 | [],_,_,_,_,h,_,_=>by simp at h
 | _::_,[],_,_,_,_,h,_=>by simp at h
 | p::P,w::vs,0,m,nd,h1,h2,hk=>by
  simp at h1 h2;subst h1;subst h2
  show bindL kindOf ((p,w)::P.zip vs) m p=_
  unfold bindL
  rw[bindL_out fun v hv=>(List.nodup_cons.mp nd).1 (List.of_mem_zip hv).1,if_pos hk]
  simp
 | p::P,w::vs,i+1,m,nd,h1,h2,hk=>by
  show bindL kindOf ((p,w)::P.zip vs) m x=_
  unfold bindL
  exact bindL_get (i:=i) (List.nodup_cons.mp nd).2 (by simpa using h1) (by simpa using h2) hk
theorem bindC_get{kindOf:Str→Option NameKind}{x:Str}{v:Value}:∀ {P:List Str} {vs:List Value} {i:Nat} {m:Str→Option Value},P.Nodup→P[i]?=some x→vs[i]?=some v→kindOf x≠some .local →
  bindC kindOf (P.zip vs) m x=some v
 | [],_,_,_,_,h,_,_=>by simp at h
 | _::_,[],_,_,_,_,h,_=>by simp at h
 | p::P,w::vs,0,m,nd,h1,h2,hk=>by
  simp at h1 h2;subst h1;subst h2
  show bindC kindOf ((p,w)::P.zip vs) m p=_
  unfold bindC
  rw[bindC_out fun v hv=>(List.nodup_cons.mp nd).1 (List.of_mem_zip hv).1,if_neg hk]
  simp
 | p::P,w::vs,i+1,m,nd,h1,h2,hk=>by
  show bindC kindOf ((p,w)::P.zip vs) m x=_
  unfold bindC
  exact bindC_get (i:=i) (List.nodup_cons.mp nd).2 (by simpa using h1) (by simpa using h2) hk
noncomputable def start(N:List Str)(vs:List V):St:=vs.map some++List.replicate (N.length-vs.length) none
noncomputable def cxOf(CX:CXT)(P:Program)(w:World)(K:W.Frag)(mg:Str→Option Value)(base:Heap)(N:List Str)(qual:Str)(scope:Scope)(f:Addr)(cd:Value)(A:Around)(outer:List Env)(s:Shared)(H:Hp)(E:XK):Cx where
 prog:=P
 w:=w
 K:=K
 mg:=mg
 base:=base
 A:=A.deeper (envOfC qual scope s.heap.objs.size f cd)
 N:=N
 s₀:=s
 H₀:=H
 env:=envOfC qual scope s.heap.objs.size f cd
 outer:=outer
 stack:=envOfC qual scope s.heap.objs.size f cd::outer
 ex:=[]
 calm:=true
 fn:=fun _=>true
 pn:=[]
 xe:=fun e s'=>wpAny (model P w) (A.deeper (envOfC qual scope s.heap.objs.size f cd)) (leaving (envOfC qual scope s.heap.objs.size f cd) e) (fun _ s''=>CX outer H s E e s'') (fun e' s''=>CX outer H s E e' s'') s'
theorem cell_has{sc:Scope}{n:Nat}{x:Str}(h:sc.names.lookup x=some .cell):∃ c,(cellsFrom n sc.names []).lookup x=some c:=by
 have q:=PySem.W.cellsFrom_some sc.names n [] (.inl h)
 exact Option.isSome_iff_exists.mp q
theorem inv_start{CX:CXT}{P:Program}{w:World}{K:W.Frag}{mg:Str→Option Value}{base:Heap}{N ps:List Str}{qual:Str}{scope:Scope}{f:Addr}{cd:Value}{A:Around}{outer:List Env}{s s1:Shared}{H:Hp}{E:XK}{us:List Value}{vs:List V}
  (S:FnScope N ps scope) (hd:A.handled=none) (e0:Env0 P w K mg base A outer s H) (hl:vs.length=ps.length) (r:Vals vs us)
  (x:InCallC s s.heap.objs.size (bindL (envOfC qual scope s.heap.objs.size f cd).kindOf (ps.zip us) fun _=>none) (cellsFrom (s.heap.objs.size+1) scope.names []) (bindC (envOfC qual scope s.heap.objs.size f cd).kindOf (ps.zip us) fun _=>none) s1) :
  Inv (cxOf CX P w K mg base N qual scope f cd A outer s H E) [] (start N vs) H s1:=by
 have hpl:ps.length≤N.length:=by have:=congrArg List.length S.pre;rw[List.length_take] at this;omega
 obtain⟨h1,tk,rfl,hk⟩:=x.done
 have noA:∀ b:Addr,b∉(cxOf CX P w K mg base N qual scope f cd A outer s H E).ex:=fun b z=>absurd (show b∈([]:List Addr) from z) (by simp)
 refine⟨⟨e0.mod,S.kind,rfl,rfl,Nat.le_refl _,fun y z c h1 h2=>?_,fun y hy=>?_,fun y c _ h=>?_,fun _=>hd,Around.frames_deeper e0.frames,.inr ⟨rfl,rfl⟩,fun b z=>absurd z (noA b),e0.bs,e0.bsz,fun b _ _=>noA b,fun b z=>absurd z (noA b),e0.funs,e0.frf⟩,
  rfl,e0.bare,Un.kept hk,⟨_,x.toInCall.ns,fun i y v h1 h2 h3=>?_⟩,fun y c h=>⟨_,x.cell y c h⟩,e0.hok.fresh (Nat.le_refl _),fun y c h=>?_,fun p hp=>absurd (show p∈([]:List (Addr×Obj)) from hp) (by simp),e0.hok.kept hk,?_⟩
 ·exact name_of_addr x.apart (PySem.mem_of_lookup h1) (PySem.mem_of_lookup h2)
 ·have hy:scope.names.lookup y=some .cell∨scope.names.lookup y=some .free:=hy
  rcases hy with hy|hy
  ·exact cell_has hy
  ·exact absurd rfl (S.nofree _ (PySem.mem_of_lookup hy))
 ·exact Nat.le_of_lt (x.above y c (PySem.mem_of_lookup h))
 ·have hi:i<vs.length:=by
   unfold start at h2
   by_cases hi:i<vs.length
   ·exact hi
   ·rw[List.getElem?_append_right (by simpa using hi)] at h2
    rw[List.getElem?_replicate] at h2
    split at h2<;>cases h2
  have ha:vs[i]?=some v:=by
   unfold start at h2
   rw[List.getElem?_append_left (by simpa using hi),List.getElem?_map] at h2
   cases e:vs[i]? with
   | none=>rw[e] at h2;cases h2
   | some a=>rw[e] at h2;cases h2;rfl
  obtain⟨u,hu,rv⟩:=r.get ha
  have hp:ps[i]?=some y:=by
   rw[← S.pre,List.getElem?_take_of_lt (by omega)];exact h1
  have ndP:ps.Nodup:=by rw[← S.pre];exact S.nd.sublist (List.take_sublist _ _)
  refine⟨u,rv,?_⟩
  rcases S.par y (List.mem_of_getElem? hp) with k|k
  ·exact .inl ⟨k,bindL_get ndP hp hu k⟩
  ·obtain⟨c,e⟩:=cell_has (n:=s.heap.objs.size+1) k
   refine .inr ⟨.inl k,c,e,?_⟩
   have q:=x.cell y c e
   rw[bindC_get ndP hp hu (by show scope.names.lookup y≠_;rw[k];decide)] at q
   exact q
 ·exact e0.hok.fresh (Nat.le_of_lt (x.above y c (PySem.mem_of_lookup h)))
 ·unfold start
  show _=N.length
  rw[List.length_append,List.length_map,List.length_replicate]
  omega
theorem fn_of{CX:CXT}{P:Program}{w:World}{K:W.Frag}{mg:Str→Option Value}{base:Heap}{k:Nat}{f:Addr}{name qual:Str}{params:Arguments}{body:List Stmt}{scope:Scope}{dV kV doc pm cdv ct oc:Value}{an od:Option Addr}
  {osl:Array (Option Value)} {N ps:List Str} {sp:Sp} (lk:K.lookup f=some ⟨oc,od,.func (PySem.W.fnOf name qual params body scope dV kV doc pm an cdv ct),osl⟩) (hcd:PySem.W.codeIn K cdv qual=true) (S:FnScope N ps scope)
  (len:∀ vs H Q E,sp vs H Q E→vs.length=ps.length)
  (hbody:∀ (A:Around) (outer:List Env) (s:Shared) (H:Hp) (vs:List V) (Q:VK) (E:XK),Room k (A.deeper (envOfC qual scope s.heap.objs.size f cdv))→sp vs H Q E →
   ∃ t,PSs (cxOf CX P w K mg base N qual scope f cdv A outer s H E) body t∧t { nx:=fun _ H'=>Q .non H',rt:=Q } (start N vs) H) :
  FnOk P w K mg base CX (k+1) f (PySem.W.fnOf name qual params body scope dV kV doc pm an cdv ct) ps sp:=by
 refine⟨len,fun A outer s H args us vs Q E hr e0 hb r hsp=>?_⟩
 have hl:=len _ _ _ _ hsp
 have KX:K.In s.heap:=e0.mod.kin.keeps fun b o e=>(e0.bs b o e).1
 have lim:s.heap.NoLimit:=e0.mod.nolimit.keeps fun b o e=>(e0.bs b o e).1
 have hkind:∀ y∈ps.zip us,scope.names.lookup y.1=some .local∨(scope.names.lookup y.1=some .cell∧((cellsFrom (s.heap.objs.size+1) scope.names []).lookup y.1).isSome=true):=fun⟨n,v⟩ hy=>by
  rcases S.par n (List.of_mem_zip hy).1 with q|q
  ·exact .inl q
  ·exact .inr ⟨q,PySem.W.cellsFrom_some _ _ _ (.inl q)⟩
 refine codeAny_call_function hr.depth (KX _ _ lk) rfl S.co S.gen rfl (PySem.W.codeRec_of KX hcd) (hb _ _ _ _ ?_)
 refine wpAny_newFunctionEnv_cells S.kind hkind fun env he s1 x=>?_
 subst he
 refine⟨lim.keeps x.toInCall.keep,codeAny_func ?_⟩
 obtain⟨t,ht,hq⟩:=hbody A outer s H vs Q E (hr.deeper _) hsp
 have I:Inv (cxOf CX P w K mg base N qual scope f cdv A outer s H E) [] (start N vs) H s1:=inv_start S hr.hd e0 hl r x
 refine wpAny_mono (ht [] s1 (start N vs) H _ I hq) (fun fl s' hs=>?_) fun e s' hs=>hs
 have fin:∀ {σ':St} {H':Hp} {v:V} {u:Value},Inv (cxOf CX P w K mg base N qual scope f cdv A outer s H E) [] σ' H' s'→RelV v u→Q v H'→CE outer P w H s Q u s' :=
  fun {σ' H' v u} J rv q=>⟨v,H',J.os,J.bare,J.base,J.hok,rv,q⟩
 cases fl with
 | ret u =>
  obtain⟨v,σ',H',J,rv,q⟩:=hs
  exact fin J rv q
 | next =>
  obtain⟨σ',H',J,q⟩:=hs
  exact fin (v:=V.non) (u:=Value.none) J rfl q
 | brk =>
  obtain⟨_,_,_,q⟩:=hs
  exact False.elim q
 | cont =>
  obtain⟨_,_,_,q⟩:=hs
  exact False.elim q
end L2
namespace L2
open PySem PySem.Spec PyProof.Rows
section
variable{X:Cx}{x:Str}{p pos:Pos}{e:Expr}{es:List Expr}{t:TA}{id T:String}{r:List V→Hp→VK→Prop}
noncomputable def tCB(r:List V→Hp→VK→Prop)(t:TA):TE:=fun σ H Q=>t σ H fun vs H1=>r vs H1 Q
theorem pe_callB(hc:CallR X (.builtin id) r)(hg:Gl X x)(hm:X.mg x=none)(hv:bootBuiltins x=some (.builtin id))(ha:PA X (e::es) t)(hn:x ≠ "__name__" := by decide)(hdb:(x == ("__debug__" : Str))=false:=by decide)
  (he:starEach (e::es) X.env=(false,eval e X.env)::starEach es X.env:=by rfl) (hpl:(backTo pos (starEach es X.env)).any (·.1)=false:=by rfl):PE X (.Call (.Name x p) (e::es) [] pos) (tCB r t):=by
 intro pins s σ H Q I h
 refine wpAny_Call_Name_kw (ld_blt I hg hm hv ?_ hn hdb)
 exact PyProof.Rows.callWith_builtin1 (thn (ha pos pins s σ H _ I h) fun us s1 ⟨vs,H1,I1,r1,q1⟩=>hc pins s1 σ H1 vs us Q I1 r1 q1) he hpl
theorem pe_callTy(hc:CallR X (.type T) r)(hg:Gl X x)(hm:X.mg x=none)(hv:bootBuiltins x=some (.type T))(ha:PA X (e::es) t)(hn:x ≠ "__name__" := by decide)(hdb:(x == ("__debug__" : Str))=false:=by decide)
  (he:starEach (e::es) X.env=(false,eval e X.env)::starEach es X.env:=by rfl) (hpl:(backTo pos (starEach es X.env)).any (·.1)=false:=by rfl):PE X (.Call (.Name x p) (e::es) [] pos) (tCB r t):=by
 intro pins s σ H Q I h
 refine wpAny_Call_Name_kw (ld_blt I hg hm hv ?_ hn hdb)
 exact PyProof.Rows.callWith_type1 (thn (ha pos pins s σ H _ I h) fun us s1 ⟨vs,H1,I1,r1,q1⟩=>hc pins s1 σ H1 vs us Q I1 r1 q1) he hpl
end
end L2
namespace HT
open PySem PyProof.Rows
section
open PySem.SeqAt
open PySem.AutoSeq1 (wpAny_loadPart')
open PySem.MeetsSeq PySem.MeetsSeq2 PySem.MeetsSeq3
end
section
variable{prog:Program}{w:World}{A:Around}{E:Value→Shared→Prop}{s:Shared}
theorem cat_tup{t b:Addr}{vs ws:List Value}{Q:Value→Shared→Prop}(ht:IsTup s.heap t vs.toArray)(hb:IsTup s.heap b ws.toArray)(hv:vs≠[])
  (h1:ws=[]→Q (.ref t) s) (h2:ws≠[]→Q (.ref s.heap.objs.size) { s with heap:=s.heap.push { cls:=.type "tuple",data:=.seq (vs++ws).toArray } })
  (hsz:vs.length+ws.length≤sizeLine):wpAny (model prog w) A (binaryOp .Add (.ref t) (.ref b)) Q E s:=by
 obtain⟨⟨cls,dd,data,sl⟩,ho,hc,n,hd⟩:=id ht
 obtain⟨⟨cls2,dd2,data2,sl2⟩,ho2,hc2,n2,hd2⟩:=id hb
 simp only at hc hd hc2 hd2
 subst hc hd hc2 hd2
 have e:vs.toArray++ws.toArray=(vs++ws).toArray:=by simp
 by_cases hw:ws=[]
 ·exact concat_meets ⟨_,ho,rfl⟩ ⟨_,ho2,rfl⟩ noFill_tuple_add seq_tuple_add PySem.F.slot_tuple_add PySem.F.entry_tuple_add (PySem.F.args_tuple_add_2 _ _)
   (tuple_addW1 t b vs.toArray ws.toArray n n2 dd dd2 sl sl2 (by simpa using hv) (by simp[hw])) ⟨ho,ho2,h1 hw⟩
 ·refine concat_meets ⟨_,ho,rfl⟩ ⟨_,ho2,rfl⟩ noFill_tuple_add seq_tuple_add PySem.F.slot_tuple_add PySem.F.entry_tuple_add (PySem.F.args_tuple_add_2 _ _)
   (tuple_addW2 t b vs.toArray ws.toArray n n2 dd dd2 sl sl2 (by simpa using hv) (by simpa using hw) (by rw[List.size_toArray,List.size_toArray];exact hsz)) ⟨ho,ho2,?_⟩
  rw[e]
  exact h2 hw
noncomputable def sIx(n d:Nat):Option Int→Nat
 | none=>d
 | some v=>if v<0 then (v+(n:Int)).toNat else min v.toNat n
theorem sIx_le(n d:Nat)(hd:d≤n)(o:Option Int):sIx n d o≤n:=by
 cases o with
 | none=>exact hd
 | some v =>
  show (if v<0 then (v+(n:Int)).toNat else min v.toNat n)≤n
  by_cases hv:v<0
  ·rw[if_pos hv];omega
  ·rw[if_neg hv];exact Nat.min_le_right _ _
theorem clip_eq(v:Int)(n d:Nat):(if v<0 then max (v+(n:Int)) 0 else min v (n:Int))=((sIx n d (some v):Nat):Int):=by
 show (if v<0 then max (v+(n:Int)) 0 else min v (n:Int))=(((if v<0 then (v+(n:Int)).toNat else min v.toNat n):Nat):Int)
 by_cases hv:v<0
 ·simp only[if_pos hv];omega
 ·simp only[if_neg hv];omega
theorem adjust_gen(lo hi:Option Int)(n:Nat):Builtin.Slice.sliceAdjust lo hi 1 (n:Int)=(((sIx n 0 lo:Nat):Int),((sIx n n hi:Nat):Int)):=by
 have h1:¬ ((1:Int)<0):=by omega
 unfold Builtin.Slice.sliceAdjust
 simp only[h1,if_false]
 refine Prod.ext ?_ ?_
 ·cases lo with
  | none=>rfl
  | some v=>exact clip_eq v n 0
 ·cases hi with
  | none=>rfl
  | some v=>exact clip_eq v n n
theorem places_gen(i j:Nat):Builtin.Slice.slicePlaces (i:Int) (j:Int) 1=j-i:=by
 unfold Builtin.Slice.slicePlaces
 have h1:(1:Int) > 0:=by omega
 simp only[h1,if_true,Int.ediv_one]
 split<;>omega
theorem slicePart_{v:Value}{o:Option Int}{Q:Option Int→Shared→Prop}(p:IsPart v o)(h:Q o s):wpAny (model prog w) A (Builtin.Slice.slicePartIndex v) Q E s:=by
 cases p with
 | none=>exact slicePart_none h
 | int i t=>exact slicePart_int h
theorem sliceApplied_gen{sl:Addr}{vl vu:Value}{lo hi:Option Int}{n:Nat}{Q:Int×Int×Nat→Shared→Prop}(hs:s.heap.IsSliceOf sl vl vu .none)(pl:IsPart vl lo)(pu:IsPart vu hi)
  (h:Q (((sIx n 0 lo:Nat):Int),1,sIx n n hi-sIx n 0 lo) s):wpAny (model prog w) A (Builtin.Slice.sliceApplied (.ref sl) (pure (n:Int))) Q E s:=by
 obtain⟨os,hos,hcs,hds⟩:=id hs
 unfold Builtin.Slice.sliceApplied Builtin.Slice.sliceFields
 refine wpAny_bind (wpAny_bind (wpAny_field hos hds (x:=vl) rfl (wpAny_bind (wpAny_field hos hds (x:=vu) rfl (wpAny_bind (wpAny_field hos hds (x:=.none) rfl (wpAny_pure ?_)))))))
 refine wpAny_bind (slicePart_none ?_)
 show wpAny _ _ (if ((1:Int) == 0)=true then _ else _) _ _ s
 rw[if_neg (by decide)]
 refine wpAny_bind (slicePart_ pl (wpAny_bind (slicePart_ pu (wpAny_bind (wpAny_pure ?_)))))
 show wpAny _ _ (match Builtin.Slice.sliceAdjust lo hi 1 (n:Int) with|(lo,hi)=>pure (lo,(1:Int),Builtin.Slice.slicePlaces lo hi 1)) _ _ s
 rw[adjust_gen lo hi n]
 show wpAny _ _ (pure (((sIx n 0 lo:Nat):Int),(1:Int),Builtin.Slice.slicePlaces ((sIx n 0 lo:Nat):Int) ((sIx n n hi:Nat):Int) 1)) _ _ s
 rw[places_gen]
 exact wpAny_pure h
theorem pick_gen(xs:Array Value)(i k:Nat):((List.range k).filterMap fun (m:Nat)=>xs[((i:Int)+(m:Int)*1).toNat]?).toArray=((xs.toList.drop i).take k).toArray:=by
 have e:(fun (m:Nat)=>xs[((i:Int)+(m:Int)*1).toNat]?)=fun m=>xs[i+m]?:=by
  funext m
  have:((i:Int)+(m:Int)*1).toNat=i+m:=by omega
  rw[this]
 rw[e]
 have:=pick_run xs i k
 rw[List.filterMap_map] at this
 have e2:((fun x=>xs[x]?) ∘ fun x=>i+x)=fun m=>xs[i+m]?:=rfl
 rw[e2] at this
 rw[this]
theorem getItem_tuple_cut{t sl:Addr}{items:Array Value}{vl vu:Value}{lo hi:Option Int}{Q:Value→Shared→Prop}(ht:IsTup s.heap t items)(hs:s.heap.IsSliceOf sl vl vu .none)(pl:IsPart vl lo)(pu:IsPart vu hi)
  (hw:¬ (sIx items.size 0 lo=0∧sIx items.size items.size hi=items.size))
  (h:Q (.ref s.heap.objs.size) { s with heap:=s.heap.push { cls:=.type "tuple",data:=.seq ((items.toList.drop (sIx items.size 0 lo)).take (sIx items.size items.size hi-sIx items.size 0 lo)).toArray } })
  (hsz:items.size≤sizeLine):wpAny (model prog w) A (getItem (.ref t) (.ref sl)) Q E s:=by
 have htake:sizeOk (.seq ((items.toList.drop (sIx items.size 0 lo)).take (sIx items.size items.size hi-sIx items.size 0 lo)).toArray):=by
  show ((items.toList.drop (sIx items.size 0 lo)).take (sIx items.size items.size hi-sIx items.size 0 lo)).toArray.size≤sizeLine
  rw[List.size_toArray,List.length_take,List.length_drop,Array.length_toList]
  omega
 have hj:sIx items.size items.size hi≤items.size:=sIx_le _ _ (Nat.le_refl _) hi
 obtain⟨os,hos,hcs,hds⟩:=id hs
 have hTs:s.TypeIs (.ref sl) "slice" := ⟨os,hos,hcs⟩
 unfold getItem
 try with_reducible refine wpAny_holding ?_
 first|refine wpAny_bind (wpAny_pure ?_)|skip
 refine wpAny_bind (wpAny_sequenceKey ht.typeIs (by decide) ?_)
 refine wpAny_bind (wpAny_callSpecial?_slot (name:=Str.ofString "__getitem__") ht.typeIs PyProof.Rows.slot_tuple_getitem
  (wpAny_call_entry PyProof.Rows.slot_tuple_getitem ht.typeIs entry_tuple_getitem ?_ (args_tuple_getitem _ _)))
 show wpAny _ _ (Builtin.Tuple.tupleItemsOf (.ref t) >>= _) _ _ s
 refine wpAny_bind (tupleItemsOf_ ht ?_)
 refine wpAny_bind (wpAny_typeOf hTs ?_)
 rw[if_pos (by decide)]
 refine wpAny_bind (sliceApplied_gen hs pl pu ?_)
 have hno:¬ ((((sIx items.size 0 lo:Nat):Int) == 0 && (1:Int) == 1 && (sIx items.size items.size hi-sIx items.size 0 lo) == items.size)=true):=by
  intro q
  rw[Bool.and_eq_true,Bool.and_eq_true] at q
  have q1:((sIx items.size 0 lo:Nat):Int)=0:=eq_of_beq q.1.1
  have q2:sIx items.size items.size hi-sIx items.size 0 lo=items.size:=eq_of_beq q.2
  exact hw ⟨by omega,by omega⟩
 show wpAny _ _ (if (((sIx items.size 0 lo:Nat):Int) == 0 && (1:Int) == 1 && (sIx items.size items.size hi-sIx items.size 0 lo) == items.size)=true then _ else _) _ _ s
 rw[if_neg hno,pick_gen]
 first
  | exact wpAny_bind (m:=Builtin.Tuple.tupleExact _) (wpAny_newObj_type (wpAny_pure ⟨_,rfl,wpAny_pure h⟩) htake)
  | exact wpAny_bind (m:=Builtin.Tuple.tupleExact _) (wpAny_newObj_type (wpAny_bind (wpAny_pure (wpAny_pure ⟨_,rfl,wpAny_pure h⟩))) htake)
  | exact wpAny_bind (wpAny_bind (m:=Builtin.Tuple.tupleExact _) (wpAny_newObj_type (wpAny_pure (wpAny_pure ⟨_,rfl,wpAny_pure h⟩)) htake))
  | exact wpAny_bind (wpAny_bind (m:=Builtin.Tuple.tupleExact _) (wpAny_newObj_type (wpAny_pure ⟨_,rfl,wpAny_pure h⟩) htake))
end
end HT
namespace L2
open PySem PySem.Spec PyProof.Rows
noncomputable abbrev TO:=St→Hp→(Option Int→Hp→Prop)→Prop
noncomputable def PO(X:Cx)(e:Option Expr)(t:TO):Prop :=
 ∀ (pins:List (Addr×Obj)) (s:Shared) (σ:St) (H:Hp) (Q:Option Int→Hp→Prop),Inv X pins σ H s→t σ H Q →
  wpAny (model X.prog X.w) X.A (evalPart e X.env) (fun u s'=>∃ o H',Inv X pins σ H' s'∧IsPart u o∧Q o H') X.xe s
noncomputable def tNoPart:TO:=fun _ H Q=>Q none H
noncomputable def tPart(t:TE):TO:=fun σ H Q=>t σ H fun x H1=>∃ i,x=.int i∧Q (some i) H1
theorem intsAre_of{ns:List Int}:∀ {us:List Value},Vals (ns.map V.int) us→IntsAre us ns:=by
 induction ns with
 | nil=>intro us r;rw[List.map_nil] at r;cases r;exact .nil
 | cons n ns ih =>
  intro us r
  rw[List.map_cons] at r
  cases r with
  | cons r1 r2 =>
   obtain⟨t,e⟩:=r1
   subst e
   exact .cons n t (ih r2)
section
variable{X:Cx}{e:Expr}{te:TE}{lo hi:Option Expr}{tl th:TO}{pos p2:Pos}
theorem po_none:PO X none tNoPart:=by
 intro pins s σ H Q I h
 rw[evalPart_none]
 exact wpAny_pure ⟨none,H,I,.none,h⟩
theorem po_some(h:PE X e te):PO X (some e) (tPart te):=by
 intro pins s σ H Q I hw
 rw[evalPart_some]
 refine thn (h pins s σ H _ I hw) fun u s1 ⟨x,H1,I1,r1,q1⟩=>?_
 obtain⟨i,rfl,q⟩:=q1
 obtain⟨t,rfl⟩:=r1
 exact⟨some i,H1,I1,.int i t,q⟩
noncomputable def SlR(X:Cx)(r:V→Option Int→Option Int→Hp→VK→Prop):Prop :=
 ∀ (pins:List (Addr×Obj)) (s:Shared) (σ:St) (H:Hp) (x:V) (v vl vu:Value) (lo hi:Option Int) (sl:Addr) (Q:VK),Inv X pins σ H s→RelV x v→s.heap.IsSliceOf sl vl vu .none→IsPart vl lo→IsPart vu hi→r x lo hi H Q →
  ∃ T id,typeLookup (.type T) "__getitem__" = pure (some (.builtin id))∧s.TypeIs v T∧wpAny (model X.prog X.w) X.A (getItem v (.ref sl)) (EP X pins σ Q) X.xe s
theorem SlR.or{r r':V→Option Int→Option Int→Hp→VK→Prop}(h:SlR X r)(h':SlR X r'):SlR X (fun x lo hi H Q=>r x lo hi H Q∨r' x lo hi H Q):=by
 intro pins s σ H x v vl vu lo hi sl Q I rx hs pl pu q
 rcases q with q|q
 ·exact h pins s σ H x v vl vu lo hi sl Q I rx hs pl pu q
 ·exact h' pins s σ H x v vl vu lo hi sl Q I rx hs pl pu q
noncomputable def tSl(r:V→Option Int→Option Int→Hp→VK→Prop)(te:TE)(tl th:TO):TE:=fun σ H Q=>te σ H fun x H1=>tl σ H1 fun l H2=>th σ H2 fun u H3=>r x l u H3 Q
theorem pe_slice{r:V→Option Int→Option Int→Hp→VK→Prop}(hr:SlR X r)(he:PE X e te)(hl:PO X lo tl)(hu:PO X hi th):PE X (.Subscript e (.Slice lo hi none p2) pos) (tSl r te tl th):=by
 intro pins s σ H Q I h
 refine Subscript_ (thn (he pins s σ H _ I h) fun v s1 ⟨x,H1,I1,r1,q1⟩=>?_)
 refine wpAny_Slice (thn (hl pins s1 σ H1 _ I1 q1) fun vl s2 ⟨l,H2,I2,pl,q2⟩=>thn (hu pins s2 σ H2 _ I2 q2) fun vu s3 ⟨u,H3,I3,pu,q3⟩=>?_)
 rw[evalPart_none]
 refine wpAny_pure ?_
 have I4:Inv X pins σ H3 { s3 with heap:=s3.heap.push { cls:=.type "slice",data:=.fields #[vl,vu,.none] } }:=I3.kept (t':=s3.toks) fun b ob q=>Heap.get?_push_of_some _ q
 obtain⟨T,id,hT,ht,hg⟩:=hr pins { s3 with heap:=s3.heap.push { cls:=.type "slice",data:=.fields #[vl,vu,.none] } } σ H3 x v vl vu l u s3.heap.objs.size Q I4 r1 (Heap.IsSliceOf.new ..) pl pu q3
 show wpAny (model X.prog X.w) X.A (subscriptTail e (.Slice lo hi none p2) v (.ref s3.heap.objs.size)) (EP X pins σ Q) X.xe { s3 with heap:=s3.heap.push { cls:=.type "slice",data:=.fields #[vl,vu,.none] } }
 exact tail_any (ops:=[.ref s3.heap.objs.size,v]) ht hT hg (by with_unfolding_all rfl)
noncomputable def cutV(xs:List V)(lo hi:Option Int):List V:=(xs.drop (HT.sIx xs.length 0 lo)).take (HT.sIx xs.length xs.length hi-HT.sIx xs.length 0 lo)
theorem cutV_length(xs:List V)(lo hi:Option Int):(cutV xs lo hi).length≤xs.length:=by
 unfold cutV
 rw[List.length_take,List.length_drop]
 omega
noncomputable def rSlT(K:W.Frag):V→Option Int→Option Int→Hp→VK→Prop:=fun x lo hi H Q=>∃ a xs,x=.ref a∧SqT K H a xs ∧
 ¬ (HT.sIx xs.length 0 lo=0∧HT.sIx xs.length xs.length hi=xs.length)∧∀ p,H p=none→Q (.ref p) (upd H p (.tup (cutV xs lo hi)))
theorem sl_tup:SlR X (rSlT X.K):=by
 intro pins s σ H x v vl vu lo hi sl Q I rx hs pl pu h
 obtain⟨a,xs,rfl,hx,hw,q⟩:=h
 cases rx
 obtain⟨its,r,ht,hz⟩:=I.tuple hx
 have hlen:its.toArray.size=xs.length:=by rw[List.size_toArray];exact r.length.symm
 refine⟨"tuple",_,PyProof.Rows.slot_tuple_getitem.lookup,ht.typeIs,?_⟩
 refine HT.getItem_tuple_cut ht hs pl pu (by rw[hlen];exact hw) ?_ (by rw[hlen];exact hz)
 rw[hlen]
 refine⟨.ref s.heap.objs.size,_,I.laid (t':=s.toks) (o:=.tup (cutV xs lo hi)) (fun b ob q=>Heap.get?_push_of_some _ q) (Nat.le_refl _) ?_,rfl,q _ (I.hok.fresh (Nat.le_refl _))⟩
 exact⟨Nat.le_trans (cutV_length xs lo hi) hz,_,(r.drop (HT.sIx xs.length 0 lo)).take (HT.sIx xs.length xs.length hi-HT.sIx xs.length 0 lo),IsTup.new _ _⟩
noncomputable def rCatT(K:W.Frag):R2:=fun x y H Q=>∃ a b xs ys,x=.ref a∧y=.ref b∧SqT K H a xs∧SqT K H b ys∧xs≠[]∧xs.length+ys.length≤sizeLine ∧
 (ys=[]→Q (.ref a) H)∧(ys≠[]→∀ p,H p=none→Q (.ref p) (upd H p (.tup (xs++ys))))
theorem Vals.nil_iff{xs:List V}{us:List Value}(r:Vals xs us):us=[]↔xs=[]:=by
 cases r with
 | nil=>simp
 | cons _ _=>simp
theorem op_catT:OpR X (binaryOp .Add) (rCatT X.K):=by
 intro pins s σ H x y v u Q I rx ry h
 obtain⟨a,b,xs,ys,rfl,rfl,ha,hb,hx,hz,q1,q2⟩:=h
 cases rx
 cases ry
 obtain⟨its,r1,p1,_⟩:=I.tuple ha
 obtain⟨its2,r2,p2,_⟩:=I.tuple hb
 refine HT.cat_tup p1 p2 (fun z=>hx (r1.nil_iff.mp z)) (fun z=>⟨.ref a,H,I,rfl,q1 (r2.nil_iff.mp z)⟩) (fun z=>?_) (by rw[← r1.length,← r2.length];exact hz)
 refine⟨.ref s.heap.objs.size,_,I.laid (t':=s.toks) (o:=.tup (xs++ys)) (fun b ob q=>Heap.get?_push_of_some _ q) (Nat.le_refl _) ?_,rfl,q2 (fun w=>z (r2.nil_iff.mpr w)) _ (I.hok.fresh (Nat.le_refl _))⟩
 exact⟨by rw[List.length_append];exact hz,_,r1.append r2,IsTup.new _ _⟩
end
end L2
namespace L2
open PySem PySem.Spec PyProof.Rows
noncomputable def ixN(n:Nat)(i:Int):Option Nat:=if 0≤i then (if i<n then some i.toNat else none) else if -(n:Int)≤i then some (i+n).toNat else none
noncomputable def atI{α:Type}(xs:List α)(i:Int):Option α:=(ixN xs.length i).bind fun j=>xs[j]?
theorem ixN_seq{n:Nat}{i:Int}{j:Nat}(h:ixN n i=some j):seqIndex? i n=some j∧j<n∧-(n:Int)≤i∧i<n:=by
 unfold ixN at h
 by_cases h0:0≤i
 ·rw[if_pos h0] at h
  by_cases h1:i<n
  ·rw[if_pos h1] at h
   have e:i.toNat=j:=Option.some.inj h
   exact⟨by rw[seqIndex_of h0 h1,e],by omega,by omega,h1⟩
  ·rw[if_neg h1] at h;cases h
 ·rw[if_neg h0] at h
  by_cases h1:-(n:Int)≤i
  ·rw[if_pos h1] at h
   have e:(i+n).toNat=j:=Option.some.inj h
   exact⟨by rw[seqIndex_neg (by omega) h1,e],by omega,h1,by omega⟩
  ·rw[if_neg h1] at h;cases h
theorem atI_get{α:Type}{xs:List α}{i:Int}{v:α}(h:atI xs i=some v):∃ j,seqIndex? i xs.length=some j∧xs[j]?=some v∧j<xs.length∧-(xs.length:Int)≤i∧i<xs.length:=by
 unfold atI at h
 cases e:ixN xs.length i with
 | none=>rw[e] at h;cases h
 | some j =>
  rw[e] at h
  obtain⟨h1,h2,h3,h4⟩:=ixN_seq e
  exact⟨j,h1,h,h2,h3,h4⟩
theorem atI_nat{α:Type}{xs:List α}{j:Nat}{v:α}(h:xs[j]?=some v):atI xs (j:Int)=some v:=by
 have hj:j<xs.length:=(List.getElem?_eq_some_iff.mp h).1
 have e:ixN xs.length (j:Int)=some j:=by
  unfold ixN
  rw[if_pos (by omega),if_pos (by omega)];simp
 unfold atI;rw[e];exact h
noncomputable def PlainIx(b:Expr):Prop:=∀ o i,subscripted b false o i=operate [o,i] (getItem o i)
noncomputable def IxR(X:Cx)(r:R2):Prop :=
 ∀ (value slice:Expr) (pins:List (Addr×Obj)) (s:Shared) (σ:St) (H:Hp) (x y:V) (v u:Value) (Q:VK),Inv X pins σ H s→RelV x v→RelV y u→r x y H Q →
  subscripted slice false v u=operate [v,u] (getItem v u)→wpAny (model X.prog X.w) X.A (subscriptTail value slice v u) (EP X pins σ Q) X.xe s
noncomputable def MtR(X:Cx)(id:String)(r:V→List V→Hp→VK→Prop):Prop :=
 ∀ (pins:List (Addr×Obj)) (s:Shared) (σ:St) (H:Hp) (x:V) (xs:List V) (v:Value) (us:List Value) (Q:VK),Inv X pins σ H s→RelV x v→Vals xs us→r x xs H Q →
  wpAny (model X.prog X.w) X.A (call (.builtin id) (v::us)) (EP X pins σ Q) X.xe s
section
variable{X:Cx}{a b:Expr}{ta tb:TE}{pos:Pos}
theorem IxR.or{r r':R2}(h:IxR X r)(h':IxR X r'):IxR X (fun x y H Q=>r x y H Q∨r' x y H Q):=by
 intro value slice pins s σ H x y v u Q I rx ry q hs
 rcases q with q|q
 ·exact h value slice pins s σ H x y v u Q I rx ry q hs
 ·exact h' value slice pins s σ H x y v u Q I rx ry q hs
theorem pe_ix{r:R2}(hr:IxR X r)(ha:PE X a ta)(hb:PE X b tb)(hs:PlainIx b):PE X (.Subscript a b pos) (tOp r ta tb):=by
 intro pins s σ H Q I h
 exact Subscript_ (binT ha hb I h fun v u s2 x y H2 I2 rx ry q=>hr a b pins s2 σ H2 x y v u Q I2 rx ry q (hs _ _))
noncomputable def rIxL(K:W.Frag):R2:=fun x y H Q=>∃ p xs i v,x=.ref p∧y=.int i∧SqL K H p xs∧atI xs i=some v∧Q v H
noncomputable def rIxT(K:W.Frag):R2:=fun x y H Q=>∃ p xs i v,x=.ref p∧y=.int i∧SqT K H p xs∧atI xs i=some v∧Q v H
noncomputable def rIxS:R2:=fun x y H Q=>∃ z i c,x=.str z∧y=.int i∧z.length≤sizeLine∧atI z.cps.toList i=some c∧Q (.str ⟨#[c]⟩) H
theorem ix_list:IxR X (rIxL X.K):=by
 intro value slice pins s σ H x y v u Q I rx ry h hs
 obtain⟨p,xs,i,z,rfl,rfl,hq,he,q⟩:=h
 cases rx
 obtain⟨t,rfl⟩:=ry
 obtain⟨its,r,pl,hz⟩:=I.list hq
 obtain⟨j,h1,h2,h3,h4,h5⟩:=atI_get he
 obtain⟨w,ew,rw'⟩:=r.get h2
 have hl:=r.length
 have hn:=line63
 have fin:EP X pins σ Q w s:=⟨z,H,I,rw',q⟩
 by_cases h0:0≤i
 ·have hj:i.toNat=j:=by
   rw[seqIndex_of h0 h5] at h1
   exact Option.some.inj h1
  exact item_listR pl.isList h0 (by omega) (by rw[hj];simpa using ew) fin hs
 ·have hj:(i+(its.toArray.size:Int)).toNat=j:=by
   rw[seqIndex_neg (by omega) h4] at h1
   rw[List.size_toArray,← hl]
   exact Option.some.inj h1
  exact subscriptTail_builtinR (x:=w) pl.isList.typeIs slot_list_getitem.lookup
   (wpAny_getItem_list_neg (Q:=fun r s'=>r=w∧EP X pins σ Q r s') pl.isList (by omega) (by rw[List.size_toArray]<;>omega) (by omega) (by rw[hj];simpa using ew) ⟨rfl,fin⟩) hs
theorem ix_tup:IxR X (rIxT X.K):=by
 intro value slice pins s σ H x y v u Q I rx ry h hs
 obtain⟨p,xs,i,z,rfl,rfl,hq,he,q⟩:=h
 cases rx
 obtain⟨t,rfl⟩:=ry
 obtain⟨its,r,pl,hz⟩:=I.tuple hq
 obtain⟨j,h1,h2,h3,h4,h5⟩:=atI_get he
 obtain⟨w,ew,rw'⟩:=r.get h2
 have hl:=r.length
 have hn:=line63
 have fin:EP X pins σ Q w s:=⟨z,H,I,rw',q⟩
 exact subscriptTail_builtinR (x:=w) pl.typeIs slot_tuple_getitem.lookup
  (getItem_tuple (j:=j) (Q:=fun r s'=>r=w∧EP X pins σ Q r s') pl (by omega) (by omega) (by rw[List.size_toArray,← hl];exact h1) (by simpa using ew) ⟨rfl,fin⟩) hs
theorem ix_str:IxR X rIxS:=by
 intro value slice pins s σ H x y v u Q I rx ry h hs
 obtain⟨z,i,c,rfl,rfl,hz,he,q⟩:=h
 obtain⟨t,rfl⟩:=rx
 obtain⟨t',rfl⟩:=ry
 obtain⟨j,h1,h2,h3,h4,h5⟩:=atI_get he
 have hl:z.cps.toList.length=z.length:=by simp[Str.length]
 rw[hl] at h1 h4 h5
 have hn:=line63
 exact tail_any (typeIs_str s z t) slot_str_getitem.lookup (getItem_str (c:=c) (by
  have e1:decide (i < -(2 ^ 63:Int))=false:=decide_eq_false (by omega)
  have e2:decide (i≥2 ^ 63)=false:=decide_eq_false (by omega)
  rw[e1,e2,Bool.or_false]) (by rw[h1];simpa using h2) ⟨.str ⟨#[c]⟩,H,I.tok _,⟨_,rfl⟩,q⟩) hs
theorem mapSeq_set(its:List Value)(n j:Nat)(u:Value):Obj.mapSeq (·.setIfInBounds j u) { cls:=.type "list",data:=.seq its.toArray n }={ cls:=.type "list",data:=.seq (its.set j u).toArray n }:=by
 simp[Obj.mapSeq]
theorem Inv.lst{pins:List (Addr×Obj)}{σ:St}{H:Hp}{s:Shared}{p:Addr}{xs:List V}(I:Inv X pins σ H s)(h:H p=some (.lst xs)) :
  ∃ (its:List Value) (n:Nat),Vals xs its∧s.heap.get? p=some { cls:=.type "list",data:=.seq its.toArray n }∧xs.length≤sizeLine:=by
 obtain⟨z,its,n,r,e⟩:=I.hok p _ h
 exact⟨its,n,r,e,z⟩
theorem Inv.lstUpd{pins:List (Addr×Obj)}{σ:St}{H:Hp}{s:Shared}{p:Addr}{xs ys:List V}{its its':List Value}{n n':Nat}{f:Obj→Obj}(I:Inv X pins σ H s)(h:H p=some (.lst xs))
  (ho:s.heap.get? p=some { cls:=.type "list",data:=.seq its.toArray n }) (hf:f { cls:=.type "list",data:=.seq its.toArray n }={ cls:=.type "list",data:=.seq its'.toArray n' }) (r:Vals ys its') (hz:ys.length≤sizeLine) (t:Nat) :
  Inv X pins σ (upd H p (.lst ys)) { s with heap:=s.heap.update p f,toks:=t }:=by
 have e:(s.heap.update p f).get? p=some { cls:=.type "list",data:=.seq its'.toArray n' }:=by
  rw[Heap.get?_update_self f ho (by rw[hf]<;>rfl),hf]
 refine I.write (x:=p) (e:=p) (by rw[h];trivial) (.inl rfl) (fun b u hb q=>(Heap.get?_update_other _ _ (Ne.symm hb)).trans q) ⟨_,e⟩ ?_
 exact⟨hz,its',n',r,e⟩
noncomputable def rSetL:V→V→V→Hp→(Hp→Prop)→Prop:=fun o i v H Q=>∃ p xs k j,o=.ref p∧i=.int k∧H p=some (.lst xs)∧ixN xs.length k=some j∧Q (upd H p (.lst (xs.set j v)))
theorem set_list:PSet X rSetL:=by
 intro pins s σ H o i v ov iv u Q I ro ri rv h
 obtain⟨p,xs,k,j,rfl,rfl,hp,hj,q⟩:=h
 cases ro
 obtain⟨t,rfl⟩:=ri
 obtain⟨its,n,r,ho,hz⟩:=I.lst hp
 obtain⟨h1,h2,h3,h4⟩:=ixN_seq hj
 have hl:=r.length
 have hn:=line63
 have I':Inv X pins σ (upd H p (.lst (xs.set j v))) { s with heap:=s.heap.update p (Obj.mapSeq (·.setIfInBounds j u)) } :=
  I.lstUpd hp ho (mapSeq_set its n j u) (r.set rv j) (by rw[List.length_set];exact hz) s.toks
 by_cases h0:0≤k
 ·have hk:k.toNat=j:=by
   rw[seqIndex_of h0 h4] at h1
   exact Option.some.inj h1
  exact PySem.W.ki_setAt ho h0 (by omega) (by rw[List.size_toArray,← hl];exact h4) (by rw[hk];exact⟨_,I',q⟩)
 ·have hk:(k+(its.toArray.size:Int)).toNat=j:=by
   rw[seqIndex_neg (by omega) h3] at h1
   rw[List.size_toArray,← hl]
   exact Option.some.inj h1
  exact PySem.W.ki_setBack ho (by omega) (by rw[List.size_toArray,← hl];exact h3) (by omega) (by rw[hk];exact⟨_,I',q⟩)
theorem slice_bounds(lo hi:Option Int)(n:Nat):(sliceBounds lo hi none n).1=((HT.sIx n 0 lo:Nat):Int)∧(sliceBounds lo hi none n).2.1=((HT.sIx n n hi:Nat):Int)∧(sliceBounds lo hi none n).2.2=1:=by
 refine⟨?_,?_,rfl⟩
 ·cases lo with
  | none=>simp[sliceBounds,HT.sIx]
  | some i =>
   simp only[sliceBounds,HT.sIx,Option.getD_none,show (1:Int) > 0 by decide,if_true]
   by_cases h:i<0
   ·simp only[h,if_true]<;>omega
   ·simp only[h,if_false]<;>omega
 ·cases hi with
  | none=>simp[sliceBounds,HT.sIx]
  | some i =>
   simp only[sliceBounds,HT.sIx,Option.getD_none,show (1:Int) > 0 by decide,if_true]
   by_cases h:i<0
   ·simp only[h,if_true]<;>omega
   ·simp only[h,if_false]<;>omega
theorem slicePick_cut(its:List Value)(lo hi:Option Int):slicePick its.toArray lo hi none=((its.drop (HT.sIx its.length 0 lo)).take (HT.sIx its.length its.length hi-HT.sIx its.length 0 lo)).toArray:=by
 obtain⟨h1,h2,h3⟩:=slice_bounds lo hi its.toArray.size
 unfold slicePick
 rw[h1,h2,h3]
 simp only[sliceRange_one,pick_run,List.size_toArray]<;>rfl
noncomputable def rSlL(K:W.Frag):V→Option Int→Option Int→Hp→VK→Prop:=fun x lo hi H Q=>∃ a xs,x=.ref a∧SqL K H a xs∧∀ p,H p=none→Q (.ref p) (upd H p (.lst (cutV xs lo hi)))
theorem sl_list:SlR X (rSlL X.K):=by
 intro pins s σ H x v vl vu lo hi sl Q I rx hs pl pu h
 obtain⟨a,xs,rfl,hx,q⟩:=h
 cases rx
 obtain⟨its,r,ht,hz⟩:=I.list hx
 have hlen:=r.length
 refine⟨"list",_,slot_list_getitem.lookup,ht.isList.typeIs,?_⟩
 refine wpAny_getItem_list_slice ht.isList hs pl pu .none (by simp) ?_ (by rw[List.size_toArray]<;>omega)
 rw[slicePick_cut,← hlen]
 refine⟨.ref s.heap.objs.size,_,I.laid (t':=s.toks) (o:=.lst (cutV xs lo hi)) (fun b ob q=>Heap.get?_push_of_some _ q) (Nat.le_refl _) ?_,rfl,q _ (I.hok.fresh (Nat.le_refl _))⟩
 exact⟨Nat.le_trans (cutV_length xs lo hi) hz,_,0,(r.drop (HT.sIx xs.length 0 lo)).take (HT.sIx xs.length xs.length hi-HT.sIx xs.length 0 lo),Heap.get?_push_size _ rfl⟩
theorem op_notIn_str:OpR X (compareOp .NotIn) (fun x y H Q=>∃ i j,x=.str i∧y=.str j∧Q (.bl (!(!(Builtin.Str.occurrences j i 0 j.length 1).isEmpty))) H):=by
 intro pins s σ H x y v u Q I rx ry h
 obtain⟨i,j,rfl,rfl,q⟩:=h
 obtain⟨t,rfl⟩:=rx
 obtain⟨t',rfl⟩:=ry
 exact notIn_str ⟨.bl _,H,I,rfl,q⟩
theorem call_len_seq:CallR X (.builtin "len") (fun xs H Q=>∃ p ys,xs=[.ref p]∧(SqL X.K H p ys∨SqT X.K H p ys)∧Q (.int ys.length) H):=by
 intro pins s σ H xs us Q I r h
 obtain⟨p,ys,rfl,hq,q⟩:=h
 obtain⟨u,rfl,rx⟩:=vals1 r
 cases rx
 have hn:=line63
 rcases hq with hq|hq
 ·obtain⟨its,r',pl,hz⟩:=I.list hq
  have hlen:=r'.length
  exact Calls.call_len_list pl.isList (by simp only[List.size_toArray]<;>omega) ⟨.int ys.length,H,I.tok _,⟨s.toks+1,by rw[List.size_toArray,hlen]⟩,q⟩
 ·obtain⟨its,r',pl,hz⟩:=I.tuple hq
  have hlen:=r'.length
  exact len_tuple pl (by simp only[List.size_toArray]<;>omega) ⟨.int ys.length,H,I.tok _,⟨s.toks+1,by rw[List.size_toArray,hlen]⟩,q⟩
theorem call_len_str:CallR X (.builtin "len") (fun xs H Q=>∃ z,xs=[.str z]∧z.length≤sizeLine∧Q (.int z.length) H):=by
 intro pins s σ H xs us Q I r h
 obtain⟨z,rfl,hz,q⟩:=h
 obtain⟨u,rfl,t,rfl⟩:=vals1 r
 have hn:=line63
 exact len_str (by omega) ⟨.int z.length,H,I.tok _,⟨_,rfl⟩,q⟩
theorem CallR.or{f:Value}{r r':List V→Hp→VK→Prop}(h:CallR X f r)(h':CallR X f r'):CallR X f (fun xs H Q=>r xs H Q∨r' xs H Q):=by
 intro pins s σ H xs us Q I rs q
 rcases q with q|q
 ·exact h pins s σ H xs us Q I rs q
 ·exact h' pins s σ H xs us Q I rs q
theorem call_tuple_of:CallR X (.type "tuple") (fun xs H Q=>∃ p ys,xs=[.ref p]∧((SqL X.K H p ys∧∀ l,H l=none→Q (.ref l) (upd H l (.tup ys)))∨(SqT X.K H p ys∧Q (.ref p) H))):=by
 intro pins s σ H xs us Q I r h
 obtain⟨p,ys,rfl,h⟩:=h
 obtain⟨u,rfl,rx⟩:=vals1 r
 cases rx
 rcases h with⟨hq,q⟩|⟨hq,q⟩
 ·obtain⟨its,r',pl,hz⟩:=I.list hq
  have hlen:=r'.length
  refine call_tuple_list pl.isList (fun h' kp=>?_) (by simp only[List.size_toArray]<;>omega)
  have I1:Inv X pins σ H { s with heap:=h' }:=I.kept (t':=s.toks) kp
  have I2:Inv X pins σ (upd H h'.objs.size (.tup ys)) { s with heap:=h'.push { cls:=.type "tuple",data:=.seq its.toArray } } :=
   I1.laid (t':=s.toks) (fun b o e=>Heap.get?_push_of_some _ e) (Nat.le_refl _) (show ObjOk X.prog X.w _ _ _ (.tup ys) from ⟨hz,its,r',IsTup.new _ _⟩)
  exact⟨.ref h'.objs.size,_,I2,rfl,q _ (I1.hok.fresh (Nat.le_refl _))⟩
 ·obtain⟨its,r',pl,hz⟩:=I.tuple hq
  exact call_tuple_same pl ⟨.ref p,H,I,rfl,q⟩
noncomputable def tyV(K:W.Frag)(T:String)(x:V)(H:Hp):Prop:=match x with
 | .str _=>T = "str"
 | .int _=>T = "int"
 | .ref p=>(T = "list" ∧ ∃ xs,SqL K H p xs)∨(T = "tuple" ∧ ∃ o,K.lookup p=some o∧o.cls=.type "tuple" ∧ o.dict=none) ∨
   (T = "dict" ∧ ((∃ kvs,H p=some (.dK kvs))∨∃ kvs,H p=some (.dT kvs)))∨(T = "set" ∧ ∃ S n,H p=some (.set S n))
 | _=>False
theorem tyV_is{pins:List (Addr×Obj)}{σ:St}{H:Hp}{s:Shared}{T:String}{x:V}{v:Value}(I:Inv X pins σ H s)(r:RelV x v)(ty:tyV X.K T x H) :
  s.TypeIs v T∧∀ a,v=.ref a→∃ ob,s.heap.get? a=some ob∧ob.dict=none:=by
 cases x with
 | str z =>
  obtain⟨t,rfl⟩:=r
  cases (show T = "str" from ty)
  exact⟨typeIs_str s z t,fun _ e=>nomatch e⟩
 | int i =>
  obtain⟨t,rfl⟩:=r
  cases (show T = "int" from ty)
  exact⟨typeIs_int s i t,fun _ e=>nomatch e⟩
 | ref p =>
  cases r
  rcases ty with⟨rfl,xs,hq⟩|⟨rfl,o,hk,hc,hd⟩|⟨rfl,hk⟩|⟨rfl,S,n,hk⟩
  ·obtain⟨its,_,pl,_⟩:=I.list hq
   refine⟨pl.isList.typeIs,fun a e=>?_⟩
   cases e
   obtain⟨o,n,e,c,hd,_⟩:=pl
   exact⟨o,e,hd⟩
  ·refine⟨⟨o,I.kIn p o hk,hc⟩,fun a e=>?_⟩
   cases e
   exact⟨o,I.kIn _ o hk,hd⟩
  ·have z:∃ o,s.heap.get? p=some o∧o.ExactDict:=by
    rcases hk with⟨kvs,hk⟩|⟨kvs,hk⟩
    ·obtain⟨_,_,_,_,o,_,_,e,ex,_⟩:=I.hok p _ hk
     exact⟨o,e,ex⟩
    ·obtain⟨_,_,_,_,o,_,_,e,ex,_⟩:=I.hok p _ hk
     exact⟨o,e,ex⟩
   obtain⟨o,e,ex⟩:=z
   refine⟨⟨o,e,ex.1⟩,fun a e2=>?_⟩
   cases e2
   exact⟨o,e,ex.2.1⟩
  ·obtain⟨o,_,_,_,e,ex,_⟩:=I.hok p _ hk
   refine⟨⟨o,e,ex.1⟩,fun a e2=>?_⟩
   cases e2
   exact⟨o,e,ex.2.1⟩
 | _=>exact False.elim ty
noncomputable def tBM(K:W.Frag)(T:String)(r:V→List V→Hp→VK→Prop)(to:TE)(t:TA):TE:=fun σ H Q=>to σ H fun x H1=>tyV K T x H1∧t σ H1 fun xs H2=>r x xs H2 Q
variable{o e:Expr}{es:List Expr}{to:TE}{t:TA}{name:Str}{apos cpos:Pos}{T id:String}{r:V→List V→Hp→VK→Prop}
theorem pe_bm(pa:PlainAttrs T)(slot:Slot T name id)(hty:typeOf (.builtin id)=pure (.type "method_descriptor"))(hm:MtR X id r)(ho:PE X o to)(ha:PA X (e::es) t)
  (hbase:attributeBase o name X.env (eval o X.env)=eval o X.env:=by rfl)
  (hfew:((backTo cpos (starEach (e::es) X.env)).all (fun x=>!x.1) && (backToKw cpos (keywordEach [] X.env)).all (fun x=>x.1.isSome)
   && decide ((e::es).length+([]:List Keyword).length+(if ([]:List Keyword).isEmpty then 0 else 1)<30))=true:=by rfl)
  (hline:(apos.endLine == cpos.line)=true:=by rfl) (hs:starEach (e::es) X.env=(false,eval e X.env)::starEach es X.env:=by rfl) (hplain:(backTo cpos (starEach es X.env)).any (·.1)=false:=by rfl) :
  PE X (.Call (.Attribute o name apos) (e::es) [] cpos) (tBM X.K T r to t):=by
 intro pins s σ H Q I h
 refine wpAny_Call_method_late hbase hfew hline rfl (thn (ho pins s σ H _ I h) fun v s1 ⟨x,H1,I1,r1,ty,q1⟩=>?_)
 obtain⟨h1,h2⟩:=tyV_is I1 r1 ty
 refine⟨T,id,pa,slot,hty,h1,h2,?_⟩
 have hA:=ha cpos pins s1 σ H1 _ I1 q1
 rw[hs] at hA ⊢
 refine Calls.callWith_builtin (by show (false || (backTo cpos (starEach es X.env)).any (·.1))=false;rw[hplain]<;>rfl) (Calls.evalArgs_plain ?_)
 exact thn hA fun us s2 ⟨vs,H2,I2,r2,q2⟩=>hm pins s2 σ H2 x vs v us Q I2 r1 r2 q2
end
end L2
namespace L2
open PySem PySem.Spec PyProof.Rows
noncomputable def MtM(X:Cx)(id:String)(r:V→List V→Hp→VK→Prop):Prop :=
 ∀ (pins:List (Addr×Obj)) (s:Shared) (σ:St) (H:Hp) (x:V) (xs:List V) (v:Value) (us:List Value) (Q:VK),Inv X pins σ H s→RelV x v→Vals xs us→r x xs H Q →
  wpAny (model X.prog X.w) X.A (call (.builtin id) (v::us)) (EP X pins σ Q) X.xe s
theorem Vals.one:∀ {x:V} {us:List Value},Vals [x] us→∃ u,us=[u]∧RelV x u
 | _,_,.cons r .nil=>⟨_,rfl,r⟩
theorem Vals.two:∀ {x y:V} {us:List Value},Vals [x,y] us→∃ u v,us=[u,v]∧RelV x u∧RelV y v
 | _,_,_,.cons r (.cons q .nil)=>⟨_,_,rfl,r,q⟩
theorem Vals.rep{xs:List V}{us:List Value}(h:Vals xs us):∀ k:Nat,Vals (List.replicate k xs).flatten (List.replicate k us).flatten
 | 0=>.nil
 | k+1=>by
  rw[List.replicate_succ,List.replicate_succ,List.flatten_cons,List.flatten_cons]
  exact Vals.append h (Vals.rep h k)
theorem foldl_rep(its:List Value):∀ (k:Nat) (acc:List Value),
  List.foldl (fun x1 x2=>x1++x2) acc.toArray (List.replicate k its.toArray)=(acc++(List.replicate k its).flatten).toArray
 | 0,acc=>by simp
 | k+1,acc=>by
  have e:acc.toArray++its.toArray=(acc++its).toArray:=by simp
  have e2:(acc++its)++(List.replicate k its).flatten=acc++(List.replicate (k+1) its).flatten:=by
   rw[List.replicate_succ,List.flatten_cons,List.append_assoc]
  rw[← e2,← foldl_rep its k (acc++its),← e,List.replicate_succ,List.foldl_cons]
section
variable{X:Cx}{pins:List (Addr×Obj)}{σ:St}{H:Hp}{s:Shared}{l b:Addr}{xs ys zs:List V}
theorem Inv.lset{its its':List Value}{n:Nat}{f:Array Value→Array Value}{t':Nat}(I:Inv X pins σ H s)(hH:H l=some (.lst xs))
  (e:s.heap.get? l=some { cls:=.type "list",data:=.seq its.toArray n }) (hf:f its.toArray=its'.toArray) (hv:Vals ys its') (hz:ys.length≤sizeLine) :
  Inv X pins σ (upd H l (.lst ys)) { s with heap:=s.heap.update l (Obj.mapSeq f),toks:=t' }:=by
 have q:=PySem.IsL.update e f
 rw[hf] at q
 refine I.write (x:=l) (e:=l) (by rw[hH];exact trivial) (.inl rfl) (fun b' u hb hu=>(Heap.get?_update_other s.heap (Obj.mapSeq f) (Ne.symm hb)).trans hu) ⟨_,q⟩ ?_
 exact⟨hz,its',_,hv,q⟩
theorem Inv.lnew{its:List Value}{t':Nat}(I:Inv X pins σ H s)(hv:Vals ys its)(hz:ys.length≤sizeLine) :
  Inv X pins σ (upd H s.heap.objs.size (.lst ys)) { s with heap:=s.heap.push { cls:=.type "list",data:=.seq its.toArray },toks:=t' } :=
 I.laid (fun _ _ q=>Heap.get?_push_of_some _ q) (Nat.le_refl _) ⟨hz,its,0,hv,Heap.get?_push_size _ rfl⟩
theorem Inv.fresh(I:Inv X pins σ H s):H s.heap.objs.size=none:=I.hok.fresh (Nat.le_refl _)
theorem Inv.lstM(I:Inv X pins σ H s)(hH:H l=some (.lst xs)):xs.length≤sizeLine∧∃ (its:List Value) (n:Nat),Vals xs its∧xs.length=its.length∧s.heap.get? l=some { cls:=.type "list",data:=.seq its.toArray n }:=by
 obtain⟨z,its,n,r,e⟩:=I.hok l _ hH
 exact⟨z,its,n,r,r.length,e⟩
theorem notLongL{n:Nat}(h:n≤sizeLine):Builtin.List.listTooLong n=false:=by
 unfold Builtin.List.listTooLong
 exact decide_eq_false (by omega)
end
section
variable{X:Cx}
noncomputable def rAppend:V→List V→Hp→VK→Prop:=fun x vs H Q=>∃ l xs y,x=.ref l∧vs=[y]∧H l=some (.lst xs)∧xs.length<sizeLine∧Q .non (upd H l (.lst (xs++[y])))
theorem mt_append:MtM X "list.append" rAppend:=by
 intro pins s σ H x vs v us Q I rx rv h
 obtain⟨l,xs,y,rfl,rfl,hH,hz,q⟩:=h
 cases rx
 obtain⟨u,rfl,ru⟩:=rv.one
 obtain⟨z,its,n,r,hl,e⟩:=I.lstM hH
 refine call_meets F.slot_list_append ⟨_,e,rfl⟩ F.entry_list_append (F.args_list_append_2 _ _) (PySem.list_append l its.toArray n u (by rw[List.size_toArray];omega)) ⟨e,?_⟩
 refine⟨.non,_,I.lset (its':=its++[u]) hH e (by simp) (r.append (.cons ru .nil)) ?_,rfl,q⟩
 rw[List.length_append,List.length_singleton]
 omega
noncomputable def rRep:R2:=fun x y H Q=>∃ l k xs,x=.ref l∧y=.int k∧H l=some (.lst xs)∧-(2 ^ 63)≤k∧k<2 ^ 63∧xs.length*k.toNat≤sizeLine ∧
 ∀ p,H p=none→Q (.ref p) (upd H p (.lst (List.replicate k.toNat xs).flatten))
theorem len_rep{α:Type}(xs:List α)(k:Nat):(List.replicate k xs).flatten.length=k*xs.length:=by
 induction k with
 | zero=>simp
 | succ k ih=>rw[List.replicate_succ,List.flatten_cons,List.length_append,ih,Nat.succ_mul,Nat.add_comm]
theorem op_rep:OpR X (binaryOp .Mult) rRep:=by
 intro pins s σ H x y v u Q I rx ry h
 obtain⟨l,k,xs,rfl,rfl,hH,h1,h2,hz,q⟩:=h
 cases rx
 obtain⟨t,rfl⟩:=ry
 obtain⟨z,its,n,r,hl,e⟩:=I.lstM hH
 have hlen:its.toArray.size*k.toNat≤sizeLine:=by rw[List.size_toArray,← hl];exact hz
 have hcap:¬ its.toArray.size*k.toNat > (2 ^ 63-1) / 8:=by
  have:(sizeLine:Nat)≤(2 ^ 63-1) / 8:=by decide
  omega
 have hfit:¬ (!Builtin.List.listFitsIndex k)=true:=by
  rw[fitsIndex_both h1 h2]
  exact Bool.false_ne_true
 have hlong:¬ Builtin.List.listTooLong (its.toArray.size*k.toNat)=true:=by
  rw[notLongL hlen]
  exact Bool.false_ne_true
 have hnew:List.foldl (fun x1 x2=>x1++x2) #[] (List.replicate (if its.toArray.isEmpty=true then 0 else k.toNat) its.toArray)=(List.replicate k.toNat its).flatten.toArray:=by
  have f0:∀ m:Nat,List.foldl (fun x1 x2=>x1++x2) #[] (List.replicate m its.toArray)=(List.replicate m its).flatten.toArray:=fun m=>by
   have:=foldl_rep its m []
   rw[List.nil_append] at this
   exact this
  rw[f0]
  cases its with
  | nil=>simp
  | cons a r'=>rw[if_neg (by simp)]
 refine wpAny_binaryOp_repeat_ref (T := "list") (U := "int") (by decide) ⟨_,e,rfl⟩ (fun s'=>typeIs_int s' k t) noFill_list_mul F.fills_int_mul F.slot_int_rmul repeat_list F.slot_int_index.lookup
  (call_meets F.slot_int_rmul (typeIs_int s k t) F.entry_int_rmul (F.args_int_rmul_2 _ _) (int___rmul___int_list k t l its.toArray n)
   ⟨e,rfl,⟨_,e,rfl⟩,call_meets F.slot_list_mul ⟨_,e,rfl⟩ F.entry_list_mul (F.args_list_mul_2 _ _) (AutoListH.list___mul___list_int_3 l its.toArray n k t hfit hcap hlong) ⟨e,?_⟩⟩)
 rw[hnew]
 exact⟨.ref _,_,I.lnew (t':=s.toks) (r.rep k.toNat) (by rw[len_rep,Nat.mul_comm];exact hz),rfl,q _ I.fresh⟩
end
section
variable{prog:Program}{w:World}{A:Around}{E:Value→Shared→Prop}{s:Shared}
set_option maxRecDepth 100000 in
end
section
variable{X:Cx}
end
end L2
namespace Att
open PySem PySem.W PySem.Calls PyProof.Rows
theorem ints_of_wellAll{P:Params}{h:Heap}:∀ (ns:List Int) (vs:List Value),WellAll P h vs (ns.map WData.int)→IntsAre vs ns:=by
 intro ns
 induction ns with
 | nil =>
  intro vs w
  rw[List.map_nil] at w
  cases w
  exact .nil
 | cons n ns ih =>
  intro vs w
  rw[List.map_cons] at w
  cases w with
  | cons a b =>
   cases a
   exact .cons _ _ (ih _ b)
theorem script_of{l:OpenLaw}{n:Nat}(hn:l.most=some n){P:Params}{h:Heap}{args:List WData}{vals:List Value}
  (hpre:l.row.toRowW.claim.pre args=true) (hwl:WellAll P h vals args) :
  ∃ a vs ns,vals=[Value.ref a]∧args=[WData.list (ns.map WData.int)]∧h.get? a=some { cls:=.type "list",data:=.seq vs.toArray }∧IntsAre vs ns∧ns.length≤n:=by
 have hsh:WShape.hasAll [] args [.list .int]=true:=(pre_splitW hpre).1
 have hc:l.pre.holds [] { args:=args }=true:=(pre_splitW hpre).2
 obtain⟨d,r,rfl,h1,h2⟩:=hasAllW_cons hsh
 obtain rfl:=hasAllW_nil h2
 obtain⟨xs,rfl,h3⟩:=hasW_list h1
 obtain⟨ns,rfl⟩:=items_int h3
 have hlen:ns.length≤n:=by
  unfold OpenLaw.pre at hc
  have h4:(WTm.not (.lt (.lit (.int (n:Int))) (.len (.arg 0)))).holds [] { args:=[.list (ns.map .int)] }=true:=by
   have h4:=(holds_andW hc).1
   rw[hn] at h4
   exact h4
  have h5:=condW_of h4 (w_not (w_lt w_lit (w_len_list (w_arg rfl))))
  rw[List.length_map] at h5
  refine Nat.le_of_not_lt fun q=>?_
  have q':(n:Int)<((ns.length:Nat):Int):=by omega
  first
   | (rw[decide_eq_true q'] at h5;exact absurd h5 (by decide))
   | (simp at h5;omega)
 cases hwl with
 | cons w1 w2 =>
  cases w2
  cases w1 with
  | list ho hall=>exact⟨_,_,ns,rfl,rfl,ho,ints_of_wellAll ns _ hall,hlen⟩
theorem post_true(l:OpenLaw)(args:List WData):l.row.toRowW.claim.post args (.bool true) args=true :=
 postW_of (r:=l.row.toRowW) (X:=(true == true))
  (show WShape.has [] (.bool true) .bool=true by first|rfl|decide|simp[WShape.has,WShape.arms,WShape.armsAll])
  (show (WTm.eq .res (.lit (.bool true))).value [] { args:=args,res:=some (.bool true),after:=args }=some (.bool (true == true)) from w_eq_bool (w_res rfl) w_lit) rfl
section
variable{prog:Program}{w:World}{A:Around}{E:Value→Shared→Prop}{s:Shared}{K:Frag}
end
end Att
namespace L2
open PySem PySem.Spec PyProof.Rows
theorem vals_ints:∀ {vs:List Value} {ns:List Int},IntsAre vs ns→Vals (ns.map V.int) vs
 | _,_,.nil=>.nil
 | _,_,.cons n t h=>.cons ⟨t,rfl⟩ (vals_ints h)
end L2
namespace L2
open PySem PySem.Spec PyProof.Rows
end L2
namespace L2
open PySem PySem.Spec PyProof.Rows
noncomputable def defArgs(s:Stmt):Arguments:=match s with
 | .FunctionDef _ a _ _ _ _ _ _ _ _=>a
 | _=>{ posonlyargs:=[],args:=[],vararg:=none,kwonlyargs:=[],kw_defaults:=[],kwarg:=none,defaults:=[] }
noncomputable def defBody(s:Stmt):List Stmt:=match s with
 | .FunctionDef _ _ b _ _ _ _ _ _ _=>b
 | _=>[]
noncomputable def defScope(s:Stmt):Scope:=match s with
 | .FunctionDef _ _ _ _ _ _ sc _ _ _=>sc
 | _=>{ kind:=.function,names:=[],isGenerator:=false,isCoroutine:=false }
noncomputable abbrev E0:XK:=fun _ _ _=>False
section
variable{P:Program}{w:World}{K:W.Frag}{mg:Str→Option Value}{base:Heap}
end
theorem small1000{n:Nat}(h:n≤1000):n<sizeLine:=Nat.lt_of_le_of_lt h (by decide)
section
variable{X:Cx}
theorem pv(i:Nat){x:Str}{pos:Pos}(hN:X.N[i]?=some x:=by rfl)(hv:Vis X.env.scope x:=by first|exact Or.inl rfl|exact Or.inr (Or.inl rfl)|exact Or.inr (Or.inr rfl))(hd:(x == ("__debug__" : Str))=false:=by decide)
  (hcd:(x == ("__classdict__" : Str))=false:=by decide):PE X (.Name x pos) (tVar i):=pe_var hN hv hd hcd
end
theorem iteF{A B:Prop}(h:B):if false=true then A else B:=by
 rw[if_neg Bool.false_ne_true]
 exact h
theorem iteT{A B:Prop}(h:A):if true=true then A else B:=by
 rw[if_pos rfl]
 exact h
theorem ite2{c A B:Prop}[Decidable c](h1:c→A)(h2:¬ c→B):if c then A else B:=by
 by_cases h:c
 ·rw[if_pos h]
  exact h1 h
 ·rw[if_neg h]
  exact h2 h
theorem iteNS{c A B:Prop}[Decidable c](hc:c)(h:B):if (!decide c)=true then A else B:=by
 rw[decide_eq_true hc]
 exact iteF h
noncomputable def Same(H H':Hp):Prop:=∀ b o,H b=some o→H' b=some o
theorem Same.refl(H:Hp):Same H H:=fun _ _ h=>h
theorem Same.trans{H H1 H2:Hp}(a:Same H H1)(b:Same H1 H2):Same H H2:=fun c o h=>b c o (a c o h)
theorem Same.free{H H':Hp}(e:Same H H'){l:Addr}(h:H' l=Option.none):H l=Option.none:=by
 cases q:H l with
 | none=>rfl
 | some o =>
  rw[e l o q] at h
  cases h
theorem Same.seq{K:W.Frag}{H H':Hp}{a:Addr}{xs:List V}(e:Same H H')(h:SqL K H a xs):SqL K H' a xs:=by
 rcases h with (h|⟨o,h⟩)|h
 ·exact .inl (.inl (e _ _ h))
 ·exact .inl (.inr ⟨o,e _ _ h⟩)
 ·exact .inr h
end L2
namespace L2
open PySem PySem.Spec PyProof.Rows
section
variable{κ:Type}[DecidableEq κ]
noncomputable def valV(kvs:List (κ×V))(k:κ):Option V:=(kvs.find? fun kv=>decide (kv.1=k)).map (·.2)
noncomputable def putK(kvs:List (κ×V))(k:κ)(v:V):List (κ×V) :=
 if (kvs.any fun kv=>decide (kv.1=k))=true then kvs.map (fun kv=>if kv.1=k then (kv.1,v) else kv) else kvs++[(k,v)]
theorem valV_pos{p:κ×V}{r:List (κ×V)}{k:κ}(e:p.1=k):valV (p::r) k=some p.2:=by simp[valV,List.find?_cons,e]
theorem valV_neg{p:κ×V}{r:List (κ×V)}{k:κ}(e:¬ p.1=k):valV (p::r) k=valV r k:=by simp[valV,List.find?_cons,e]
theorem valV_any(k:κ):∀ kvs:List (κ×V),(kvs.any fun kv=>decide (kv.1=k))=(valV kvs k).isSome
 | []=>rfl
 | p::r=>by
  rw[List.any_cons]
  by_cases e:p.1=k
  ·simp only[valV_pos e,decide_eq_true e,Bool.true_or,Option.isSome_some]
  ·rw[valV_neg e,decide_eq_false e,Bool.false_or];exact valV_any k r
theorem length_putK(kvs:List (κ×V))(k:κ)(v:V):(putK kvs k v).length≤kvs.length+1:=by
 unfold putK
 split
 ·rw[List.length_map];omega
 ·rw[List.length_append,List.length_cons,List.length_nil];omega
theorem RelO.isSome_eq{o:Option V}{u:Option Value}(r:RelO o u):o.isSome=u.isSome:=by
 cases o with
 | none=>cases u with
  | none=>rfl
  | some _=>exact (show False from r).elim
 | some _=>cases u with
  | none=>exact (show False from r).elim
  | some _=>rfl
theorem KV.val{kvs:List (κ×V)}{vs:List (κ×Value)}(r:KV kvs vs)(k:κ):RelO (valV kvs k) (valueAt vs k):=by
 unfold KV at r
 induction r with
 | nil=>exact True.intro
 | @cons p q ps qs h t ih =>
  obtain⟨h1,h2⟩:=h
  by_cases e:p.1=k
  ·have e':q.1=k:=h1.symm.trans e
   have b:valueAt (q::qs) k=some q.2:=by simp[valueAt,List.find?_cons,e']
   rw[valV_pos e,b];exact h2
  ·have e':¬ q.1=k:=fun z=>e (h1.trans z)
   have b:valueAt (q::qs) k=valueAt qs k:=by simp[valueAt,List.find?_cons,e']
   rw[valV_neg e,b];exact ih
theorem KV.any{kvs:List (κ×V)}{vs:List (κ×Value)}(r:KV kvs vs)(k:κ):(kvs.any fun kv=>decide (kv.1=k))=vs.any fun kv=>decide (kv.1=k):=by
 unfold KV at r
 induction r with
 | nil=>rfl
 | cons h t ih=>rw[List.any_cons,List.any_cons,ih,h.1]
theorem KV.repl{kvs:List (κ×V)}{vs:List (κ×Value)}(r:KV kvs vs)(k:κ){y:V}{u:Value}(ry:RelV y u) :
  KV (kvs.map fun kv=>if kv.1=k then (kv.1,y) else kv) (vs.map fun kv=>if kv.1=k then (kv.1,u) else kv):=by
 unfold KV at r ⊢
 induction r with
 | nil=>exact .nil
 | @cons p q ps qs h t ih =>
  rw[List.map_cons,List.map_cons]
  refine .cons ?_ ih
  obtain⟨h1,h2⟩:=h
  by_cases e:p.1=k
  ·rw[if_pos e,if_pos (h1.symm.trans e)];exact⟨h1,ry⟩
  ·rw[if_neg e,if_neg (fun z=>e (h1.trans z))];exact⟨h1,h2⟩
theorem KV.put{kvs:List (κ×V)}{vs:List (κ×Value)}(r:KV kvs vs)(k:κ){y:V}{u:Value}(ry:RelV y u):KV (putK kvs k y) (stored vs k u):=by
 unfold putK stored
 rw[r.any k]
 by_cases e:(vs.any fun kv=>decide (kv.1=k))=true
 ·rw[if_pos e,if_pos e];exact r.repl k ry
 ·rw[if_neg e,if_neg e];exact Paired.snoc r ⟨rfl,ry⟩
theorem KV.length{kvs:List (κ×V)}{vs:List (κ×Value)}(r:KV kvs vs):kvs.length=vs.length:=Paired.length r
end
theorem kV_is{P:Program}{w:World}{k:Key}{u:Value}(r:RelV (kV k) u):(mixKind P w).is k u=true:=by
 cases k with
 | inl i=>obtain⟨t,e⟩:=(show ∃ t,u=Value.int i t from r);subst e;exact mixKind_int P w i t
 | inr x=>obtain⟨t,e⟩:=(show ∃ t,u=Value.str x t from r);subst e;exact mixKind_str P w x t
theorem items_are{P:Program}{w:World}:∀ {ks:List Key} {us:List Value},Vals (ks.map kV) us→ItemsAre (mixKind P w) ks us
 | [],_,r=>by rw[List.map_nil] at r;cases r;exact .nil
 | k::ks,_,r=>by
  rw[List.map_cons] at r
  cases r with
  | cons h t=>exact .cons (kV_is h) (items_are t)
noncomputable abbrev KT(H:Hp):List (List Key×V)→List (List Key×Addr×Value)→Prop:=Paired fun p q=>p.1=q.1∧H q.2.1=some (.tup (p.1.map kV))∧RelV p.2 q.2.2
theorem KT.val{H:Hp}{kvs:List (List Key×V)}{xs:List (List Key×Addr×Value)}(r:KT H kvs xs)(k:List Key):RelO (valV kvs k) ((atKey xs k).map (·.2)):=by
 induction r with
 | nil=>exact True.intro
 | @cons p q ps qs h t ih =>
  obtain⟨h1,_,h2⟩:=h
  by_cases e:p.1=k
  ·have e':q.1=k:=h1.symm.trans e
   have b:atKey (q::qs) k=some q.2:=by simp[atKey,List.find?_cons,e']
   rw[valV_pos e,b];exact h2
  ·have e':¬ q.1=k:=fun z=>e (h1.trans z)
   have b:atKey (q::qs) k=atKey qs k:=by simp[atKey,List.find?_cons,e']
   rw[valV_neg e,b];exact ih
theorem KT.repl{H:Hp}{kvs:List (List Key×V)}{xs:List (List Key×Addr×Value)}(r:KT H kvs xs)(k:List Key){y:V}{u:Value}(ry:RelV y u) :
  KT H (kvs.map fun kv=>if kv.1=k then (kv.1,y) else kv) (xs.map (putAt k u)):=by
 induction r with
 | nil=>exact .nil
 | @cons p q ps qs h t ih =>
  rw[List.map_cons,List.map_cons]
  refine .cons ?_ ih
  obtain⟨h1,h2,h3⟩:=h
  unfold putAt
  by_cases e:p.1=k
  ·rw[if_pos e,if_pos (h1.symm.trans e)];exact⟨h1,h2,ry⟩
  ·rw[if_neg e,if_neg (fun z=>e (h1.trans z))];exact⟨h1,h2,h3⟩
theorem KT.put{H:Hp}{kvs:List (List Key×V)}{xs:List (List Key×Addr×Value)}(r:KT H kvs xs)(k:List Key){b:Addr}{y:V}{u:Value}(hb:H b=some (.tup (k.map kV)))(ry:RelV y u) :
  KT H (putK kvs k y) (storedH xs k b u):=by
 have e:(kvs.any fun kv=>decide (kv.1=k))=(atKey xs k).isSome:=by
  rw[valV_any,(r.val k).isSome_eq,Option.isSome_map]
 unfold putK storedH
 rw[e]
 by_cases q:(atKey xs k).isSome=true
 ·rw[if_pos q,if_pos q];exact r.repl k ry
 ·rw[if_neg q,if_neg q];exact Paired.snoc r ⟨rfl,hb,ry⟩
theorem KT.keeps{H H':Hp}{kvs:List (List Key×V)}{xs:List (List Key×Addr×Value)}(r:KT H kvs xs)(ht:∀ b ys,H b=some (.tup ys)→H' b=some (.tup ys)):KT H' kvs xs :=
 Paired.mapP r fun _ _ z=>⟨z.1,ht _ _ z.2.1,z.2.2⟩
section
variable{P:Program}{w:World}{H:Hp}{h:Heap}{a:Addr}
theorem rd_of{u:HO}(ok:HOk P w H h)(e:Rd H a u):ObjOk P w H h a u:=e.ok ok
theorem dk_rd{kvs:List (Key×V)}(ok:HOk P w H h)(e:Rd H a (.dK kvs)):kvs.length≤sizeLine∧(a == sysModules)=false∧∃ vs,KV kvs vs∧h.DictOf (mixKind P w) a vs :=
 show ObjOk P w H h a (.dK kvs) from rd_of ok e
theorem dk_of{kvs:List (Key×V)}(ok:HOk P w H h)(e:H a=some (.dK kvs)):kvs.length≤sizeLine∧(a == sysModules)=false∧∃ vs,KV kvs vs∧h.DictOf (mixKind P w) a vs:=dk_rd ok (.inl e)
theorem key_of{ks:List Key}(ok:HOk P w H h)(e:H a=some (.tup (ks.map kV))):(tupleKind (mixKind P w)).is h ks a:=by
 obtain⟨_,its,r,o,h1,h2,n,h3⟩:=(show ObjOk P w H h a (.tup (ks.map kV)) from ok a _ e)
 exact⟨o,its.toArray,n,h1,h2,h3,by simpa using items_are r⟩
theorem dt_rd{kvs:List (List Key×V)}(ok:HOk P w H h)(e:Rd H a (.dT kvs)):kvs.length≤sizeLine∧(a == sysModules)=false ∧
  ∃ xs,KT H kvs xs∧h.DictOfH (tupleKind (mixKind P w)) a xs:=by
 obtain⟨z,y,xs,r,o,es,ep,h1,h2,h3,h4,h5⟩:=(show ObjOk P w H h a (.dT kvs) from rd_of ok e)
 refine⟨z,y,xs,r,o,es,ep,h1,h2,h3,h4,fun x hx=>?_,h5⟩
 have all:∀ {l:List (List Key×V)} {m:List (List Key×Addr×Value)},KT H l m→∀ x∈m,(tupleKind (mixKind P w)).is h x.1 x.2.1:=by
  intro l m q
  induction q with
  | nil=>intro x hx;exact nomatch hx
  | @cons p q ps qs hq t ih =>
   intro x hx
   rcases List.mem_cons.mp hx with e|hx
   ·subst e
    exact key_of ok (by rw[← hq.1];exact hq.2.1)
   ·exact ih x hx
 exact all r x hx
theorem dt_of{kvs:List (List Key×V)}(ok:HOk P w H h)(e:H a=some (.dT kvs)):kvs.length≤sizeLine∧(a == sysModules)=false ∧
  ∃ xs,KT H kvs xs∧h.DictOfH (tupleKind (mixKind P w)) a xs:=dt_rd ok (.inl e)
end
noncomputable def DGet(H:Hp)(a:Addr)(y:V)(r:Option V):Prop :=
 (∃ kvs k,Rd H a (.dK kvs)∧y=kV k∧r=valV kvs k)∨∃ kvs k b,Rd H a (.dT kvs)∧y=.ref b∧H b=some (.tup (k.map kV))∧r=valV kvs k
noncomputable def DPut(H:Hp)(a:Addr)(y v:V)(H':Hp):Prop :=
 (∃ kvs k,H a=some (.dK kvs)∧y=kV k∧kvs.length<sizeLine∧H'=upd H a (.dK (putK kvs k v))) ∨
 ∃ kvs k b,H a=some (.dT kvs)∧y=.ref b∧H b=some (.tup (k.map kV))∧kvs.length<sizeLine∧H'=upd H a (.dT (putK kvs k v))
theorem DPut.k{H:Hp}{a:Addr}{kvs:List (Key×V)}{k:Key}{v:V}(e:H a=some (.dK kvs))(hl:kvs.length<sizeLine):DPut H a (kV k) v (upd H a (.dK (putK kvs k v))):=.inl ⟨kvs,k,e,rfl,hl,rfl⟩
theorem DPut.t{H:Hp}{a b:Addr}{kvs:List (List Key×V)}{k:List Key}{v:V}(e:H a=some (.dT kvs))(eb:H b=some (.tup (k.map kV)))(hl:kvs.length<sizeLine) :
  DPut H a (.ref b) v (upd H a (.dT (putK kvs k v))):=.inr ⟨kvs,k,b,e,rfl,eb,hl,rfl⟩
section
variable{X:Cx}{pins:List (Addr×Obj)}{σ:St}{H:Hp}{s:Shared}{a:Addr}{y v:V}{u r:Value}{o:Option V}{A:Around}{E:Value→Shared→Prop}
theorem d_getItem{Q:Value→Shared→Prop}(hu:A.units+1<cLine)(I:Inv X pins σ H s)(g:DGet H a y (some v))(ry:RelV y u)(h:∀ w' s',Inv X pins σ H s'→RelV v w'→Q w' s') :
  wpAny (model X.prog X.w) A (getItem (.ref a) u) Q E s:=by
 rcases g with⟨kvs,k,e,ey,l⟩|⟨kvs,k,b,e,ey,eb,l⟩
 ·subst ey
  obtain⟨z,hd,vs,rel,dd⟩:=dk_rd I.hok e
  obtain⟨w',hw,rw'⟩:=RelO.some_of (v:=v) (o:=valueAt vs k) (by rw[l];exact rel.val k)
  exact wpAny_getItem_of (kV_is ry) dd.mapOf hw (h w' _ (I.tok _) rw')
 ·subst ey
  cases (show u=Value.ref b from ry)
  obtain⟨z,hd,xs,rel,dd⟩:=dt_rd I.hok e
  obtain⟨w',hw,rw'⟩:=RelO.some_of (v:=v) (o:=(atKey xs k).map (·.2)) (by rw[l];exact rel.val k)
  obtain⟨p,hp,hp2⟩:=Option.map_eq_some_iff.mp hw
  refine wpAny_getItem_heap (tupleKind_room_in1 hu) (key_of I.hok eb) dd hp ?_
  rw[hp2]
  exact h w' _ (I.tok _) rw'
theorem d_in{Q:Value→Shared→Prop}(hu:A.units+1<cLine)(I:Inv X pins σ H s)(g:DGet H a y o)(ry:RelV y u)(h:∀ s',Inv X pins σ H s'→Q (.bool o.isSome) s') :
  wpAny (model X.prog X.w) A (compareOp .In u (.ref a)) Q E s:=by
 rcases g with⟨kvs,k,e,ey,l⟩|⟨kvs,k,b,e,ey,eb,l⟩
 ·subst ey
  obtain⟨z,hd,vs,rel,dd⟩:=dk_rd I.hok e
  refine wpAny_in_of (kV_is ry) hd dd.mapOf ?_
  rw[← (rel.val k).isSome_eq,← l]
  exact h _ (I.tok _)
 ·subst ey
  cases (show u=Value.ref b from ry)
  obtain⟨z,hd,xs,rel,dd⟩:=dt_rd I.hok e
  refine wpAny_in_heap (tupleKind_room_in1 hu) (key_of I.hok eb) hd dd ?_
  have q:=(rel.val k).isSome_eq
  rw[Option.isSome_map] at q
  rw[← q,← l]
  exact h _ (I.tok _)
theorem d_notIn{Q:Value→Shared→Prop}(hu:A.units+1<cLine)(I:Inv X pins σ H s)(g:DGet H a y o)(ry:RelV y u)(h:∀ s',Inv X pins σ H s'→Q (.bool (!o.isSome)) s') :
  wpAny (model X.prog X.w) A (compareOp .NotIn u (.ref a)) Q E s:=by
 rcases g with⟨kvs,k,e,ey,l⟩|⟨kvs,k,b,e,ey,eb,l⟩
 ·subst ey
  obtain⟨z,hd,vs,rel,dd⟩:=dk_rd I.hok e
  refine wpAny_notIn_of (kV_is ry) hd dd.mapOf ?_
  rw[← (rel.val k).isSome_eq,← l]
  exact h _ (I.tok _)
 ·subst ey
  cases (show u=Value.ref b from ry)
  obtain⟨z,hd,xs,rel,dd⟩:=dt_rd I.hok e
  refine wpAny_notIn_heap (tupleKind_room_in1 hu) (key_of I.hok eb) hd dd ?_
  have q:=(rel.val k).isSome_eq
  rw[Option.isSome_map] at q
  rw[← q,← l]
  exact h _ (I.tok _)
theorem d_write{h':Heap}{t':Nat}{ob:HO}(I:Inv X pins σ H s)(mu:Mut (H a))(hs:Heap.SameBut a s.heap h')(he:∃ q,h'.get? a=some q)(new:ObjOk X.prog X.w (upd H a ob) h' a ob) :
  Inv X pins σ (upd H a ob) { s with heap:=h',toks:=t' } :=
 I.write (x:=a) (e:=a) mu (.inl rfl) (fun b q hb z=>(hs.2 b hb).trans z) he new
theorem dk_new{P:Program}{w:World}{H':Hp}{h':Heap}{kvs:List (Key×V)}{vs:List (Key×Value)}(z:kvs.length≤sizeLine)(hd:(a == sysModules)=false)(rel:KV kvs vs)(dd:h'.DictOf (mixKind P w) a vs) :
  ObjOk P w H' h' a (.dK kvs):=⟨z,hd,vs,rel,dd⟩
theorem d_setItem{H':Hp}{Q:Unit→Shared→Prop}(hu:A.units+1<cLine)(I:Inv X pins σ H s)(g:DPut H a y v H')(ry:RelV y u)(rv:RelV v r)(h:∀ s',Inv X pins σ H' s'→Q () s') :
  wpAny (model X.prog X.w) A (setItem (.ref a) u r) Q E s:=by
 rcases g with⟨kvs,k,e,ey,l,eH⟩|⟨kvs,k,b,e,ey,eb,l,eH⟩
 ·subst ey eH
  obtain⟨z,hd,vs,rel,dd⟩:=dk_of I.hok e
  have hz:vs.length≤sizeLine:=by rw[← rel.length];exact z
  have hl:(putK kvs k v).length≤sizeLine:=by have:=length_putK kvs k v;omega
  refine wpAny_setItem_pairs (hsz:=hz) (kV_is ry) dd fun h' dd' hs=>h _ ?_
  have he:∃ q,h'.get? a=some q:=let ⟨q,_,_,hq,_⟩:=dd';⟨q,hq⟩
  exact d_write I (by rw[e];exact True.intro) hs he (dk_new hl hd (rel.put k rv) dd')
 ·subst ey eH
  cases (show u=Value.ref b from ry)
  obtain⟨z,hd,xs,rel,dd⟩:=dt_of I.hok e
  have hz:xs.length≤sizeLine:=by rw[← Paired.length rel];exact z
  have hl:(putK kvs k v).length≤sizeLine:=by have:=length_putK kvs k v;omega
  refine wpAny_setItem_heap (hsz:=hz) (tupleKind_room_in1 hu) (key_of I.hok eb) dd fun h' dd' hs=>h _ ?_
  obtain⟨q,es,ep,hq,h2,h3,h4,_,h5⟩:=dd'
  refine d_write I (by rw[e];exact True.intro) hs ⟨q,hq⟩ ⟨hl,hd,_,(rel.put k eb rv).keeps fun c ys ec=>?_,q,es,ep,hq,h2,h3,h4,h5⟩
  rw[upd_ne (ne_of ec e (fun z=>nomatch z))]
  exact ec
end
section
variable{X:Cx}{pins:List (Addr×Obj)}{σ:St}{H:Hp}{s:Shared}{a:Addr}{kvs:List (Key×V)}{k:Key}{u:Value}{A:Around}{E:Value→Shared→Prop}
end
theorem dict_typeIs{X:Cx}{pins:List (Addr×Obj)}{σ:St}{H:Hp}{s:Shared}{a:Addr}{y:V}{o:Option V}(I:Inv X pins σ H s)(g:DGet H a y o):s.TypeIs (.ref a) "dict" := by
 rcases g with⟨kvs,k,e,_,_⟩|⟨kvs,k,b,e,_,_,_⟩
 ·obtain⟨_,_,vs,_,dd⟩:=dk_rd I.hok e
  exact dd.typeIs
 ·obtain⟨_,_,xs,_,dd⟩:=dt_rd I.hok e
  exact dd.typeIs
section
variable{X:Cx}{o i e value:Expr}{pos pos' tpos:Pos}{td ty tv:TE}
end
section
variable{X:Cx}{pos:Pos}
end
section
variable{X:Cx}{pins:List (Addr×Obj)}{σ:St}{H:Hp}{s:Shared}{a:Addr}{y d:V}{u r:Value}{o:Option V}{A:Around}{E:Value→Shared→Prop}
end
section
variable{X:Cx}{o e f:Expr}{apos cpos:Pos}{td ty tx:TE}
end
section
variable{X:Cx}{pins:List (Addr×Obj)}{σ:St}{H:Hp}{s:Shared}{a:Addr}{kvs:List (Key×V)}{A:Around}{E:Value→Shared→Prop}
end
section
variable{X:Cx}{pins:List (Addr×Obj)}{σ:St}{H:Hp}{s:Shared}{a:Addr}{y:V}{u:Value}{A:Around}{E:Value→Shared→Prop}
end
end L2
section
namespace L2
open PySem PySem.Spec PyProof.Rows
theorem cellsFrom_inj:∀ (names:List (Str×NameKind)) (n:Nat) (acc:List (Str×Addr)),
  (∀ x y c,acc.lookup x=some c→acc.lookup y=some c→x=y)→(∀ x c,acc.lookup x=some c→c<n) →
  ∀ x y c,(cellsFrom n names acc).lookup x=some c→(cellsFrom n names acc).lookup y=some c→x=y
 | [],_,_,h,_=>h
 | (z,k)::r,n,acc,h,hb=>by
  unfold cellsFrom
  split
  ·refine cellsFrom_inj r (n+1) ((z,n)::acc) ?_ ?_
   ·intro x y c hx hy
    rw[List.lookup_cons] at hx hy
    cases ex:x == z with
    | true =>
     rw[ex] at hx
     have e1:n=c:=Option.some.inj hx
     cases ey:y == z with
     | true=>rw[beq_iff_eq.mp ex,beq_iff_eq.mp ey]
     | false =>
      rw[ey] at hy
      have:=hb y c hy
      rw[← e1] at this
      exact absurd this (Nat.lt_irrefl _)
    | false =>
     rw[ex] at hx
     cases ey:y == z with
     | true =>
      rw[ey] at hy
      have e1:n=c:=Option.some.inj hy
      have:=hb x c hx
      rw[← e1] at this
      exact absurd this (Nat.lt_irrefl _)
     | false =>
      rw[ey] at hy
      exact h x y c hx hy
   ·intro x c hx
    rw[List.lookup_cons] at hx
    cases ex:x == z with
    | true =>
     rw[ex] at hx
     have e1:n=c:=Option.some.inj hx
     rw[← e1]
     exact Nat.lt_succ_self n
    | false =>
     rw[ex] at hx
     exact Nat.lt_succ_of_lt (hb x c hx)
  ·exact cellsFrom_inj r n acc h hb
theorem cellsFrom_low(x:Str)(lo:Nat):∀ (names:List (Str×NameKind)) (n:Nat) (acc:List (Str×Addr)),lo≤n →
  ((x,NameKind.cell)∈names∨∀ c,acc.lookup x=some c→lo≤c)→∀ c,(cellsFrom n names acc).lookup x=some c→lo≤c
 | [],_,_,_,h=>h.elim (fun z=>nomatch z) id
 | (z,k)::r,n,acc,hl,h=>by
  unfold cellsFrom
  split
  ·refine cellsFrom_low x lo r (n+1) ((z,n)::acc) (by omega) ?_
   by_cases ex:x=z
   ·refine .inr fun c hc=>?_
    rw[List.lookup_cons,ex,beq_self_eq_true] at hc
    have:n=c:=Option.some.inj hc
    omega
   ·rcases h with h|h
    ·rcases List.mem_cons.mp h with e|h
     ·exact absurd (Prod.mk.inj e).1 ex
     ·exact .inl h
    ·refine .inr fun c hc=>h c ?_
     rw[List.lookup_cons,beq_false_of_ne ex] at hc
     exact hc
  ·rename_i hk
   refine cellsFrom_low x lo r n acc hl ?_
   rcases h with h|h
   ·rcases List.mem_cons.mp h with e|h
    ·rw[← (Prod.mk.inj e).2] at hk
     exact absurd rfl hk
    ·exact .inl h
   ·exact .inr h
theorem cellsFrom_out{x:Str}:∀ (names:List (Str×NameKind)) (n:Nat) (acc:List (Str×Addr)),(∀ y∈names,y.1=x→y.2≠.cell)→(cellsFrom n names acc).lookup x=acc.lookup x
 | [],_,_,_=>rfl
 | (z,k)::r,n,acc,h=>by
  unfold cellsFrom
  split
  ·rename_i hk
   rw[cellsFrom_out r (n+1) ((z,n)::acc) fun y hy=>h y (List.mem_cons_of_mem _ hy),List.lookup_cons]
   have:x≠z:=fun e=>h (z,k) List.mem_cons_self e.symm (by simpa using hk)
   rw[beq_false_of_ne this]
  ·exact cellsFrom_out r n acc fun y hy=>h y (List.mem_cons_of_mem _ hy)
theorem cellsFrom_or(x:Str):∀ (names:List (Str×NameKind)) (n:Nat) (acc:List (Str×Addr)) (c:Addr),(cellsFrom n names acc).lookup x=some c→n≤c∨acc.lookup x=some c
 | [],_,_,_,h=>.inr h
 | (z,k)::r,n,acc,c,h=>by
  unfold cellsFrom at h
  split at h
  ·rcases cellsFrom_or x r (n+1) ((z,n)::acc) c h with q|q
   ·exact .inl (by omega)
   ·rw[List.lookup_cons] at q
    cases ex:x == z with
    | true=>rw[ex] at q;have:n=c:=Option.some.inj q;exact .inl (by omega)
    | false=>rw[ex] at q;exact .inr q
  ·exact cellsFrom_or x r n acc c h
theorem cellsFrom_isCell:∀ (names:List (Str×NameKind)) (h:Heap) (acc:List (Str×Addr)),(∀ x c,acc.lookup x=some c→∃ v,h.IsCell c v) →
  ∀ x c,(cellsFrom h.objs.size names acc).lookup x=some c→∃ v,(pushCells h names).IsCell c v
 | [],_,_,h=>h
 | (z,k)::r,h,acc,ha=>by
  unfold cellsFrom pushCells
  split
  ·have:=cellsFrom_isCell r (h.push { cls:=.type "cell",data:=.cell none }) ((z,h.objs.size)::acc) (fun x c hx=>by
    rw[List.lookup_cons] at hx
    cases ex:x == z with
    | true =>
     rw[ex] at hx
     cases hx
     exact⟨none,_,Heap.get?_push_size _ rfl,rfl⟩
    | false =>
     rw[ex] at hx
     obtain⟨v,q⟩:=ha x c hx
     exact⟨v,q.keeps fun b o e=>Heap.get?_push_of_some _ e⟩)
   rwa [Heap.size_push] at this
  ·exact cellsFrom_isCell r h acc ha
theorem newEnvC{M:Model}{A:Around}{E:Value→Shared→Prop}{s:Shared}{scope:Scope}{globals:Addr}{cl:List (Str×Addr)}{qual:Str}{env:Env}{Q:Env→Shared→Prop}
  (hQ:Q (newEnv scope s.heap.objs.size globals (cellsFrom (s.heap.objs.size+1) scope.names cl) qual none .none (some env) builtinsNs)
   { s with heap:=pushCells (s.heap.push { cls:=.type "dict",data:=.dict #[] }) scope.names }) :
  wpAny M A (newFunctionEnv scope globals cl [] qual none .none (some env)) Q E s:=by
 simp only[newFunctionEnv,Option.isSome_some,if_true]
 refine wpAny_bind (wpAny_alloc ?_)
 refine wpAny_bind (wpAny_layCells _ (fun name kind cells=>by cases hkc:kind == NameKind.cell<;>simp[hkc]) _ _ _ _ ?_)
 rw[show ({ s with heap:=s.heap.push { cls:=.type "dict",data:=.dict #[] } }:Shared).heap.objs.size=s.heap.objs.size+1 from Heap.size_push ..]
 rw[List.forIn_nil]
 exact wpAny_bind (wpAny_pure (wpAny_pure hQ))
theorem closure_go{env:Env}:∀ (l:List (Str×NameKind)) (acc:List (Str×Addr)),(∀ y∈l,y.2=.free→∃ c,env.cells.lookup y.1=some c) →
  (∀ x c,acc.lookup x=some c→env.cells.lookup x=some c) →
  ∃ cl,(forIn l acc fun (x:Str×NameKind) r=>if (x.2 == .free)=true then (do let a ← cellOf env x.1;pure (ForInStep.yield ((x.1,a)::r))) else pure (ForInStep.yield r):Sem (List (Str×Addr)))=pure cl ∧
   (∀ x c,cl.lookup x=some c→env.cells.lookup x=some c)∧(∀ x,((∃ c,acc.lookup x=some c)∨(x,NameKind.free)∈l)→∃ c,cl.lookup x=some c)
 | [],acc,_,ha=>⟨acc,by rw[List.forIn_nil],ha,fun x hx=>hx.elim id fun z=>nomatch z⟩
 | (z,k)::r,acc,hl,ha=>by
  by_cases hk:k=.free
  ·subst hk
   obtain⟨c,hc⟩:=hl (z,.free) List.mem_cons_self rfl
   obtain⟨cl,h1,h2,h3⟩:=closure_go r ((z,c)::acc) (fun y hy=>hl y (List.mem_cons_of_mem _ hy)) (fun x c' hx=>by
    rw[List.lookup_cons] at hx
    cases ex:x == z with
    | true=>rw[ex] at hx;cases hx;rw[beq_iff_eq.mp ex];exact hc
    | false=>rw[ex] at hx;exact ha x c' hx)
   refine⟨cl,?_,h2,fun x hx=>h3 x ?_⟩
   ·rw[List.forIn_cons]
    have e:cellOf env z=pure c:=by unfold cellOf;rw[show env.cells.lookup z=some c from hc]
    simp only[beq_self_eq_true,if_true,e]
    exact h1
   ·rcases hx with⟨c',hx⟩|hx
    ·refine .inl ?_
     rw[List.lookup_cons]
     cases ex:x == z with
     | true=>exact⟨c,rfl⟩
     | false=>exact⟨c',hx⟩
    ·rcases List.mem_cons.mp hx with e|hx
     ·refine .inl ⟨c,?_⟩
      rw[(Prod.mk.inj e).1,List.lookup_cons,beq_self_eq_true]
     ·exact .inr hx
  ·obtain⟨cl,h1,h2,h3⟩:=closure_go r acc (fun y hy=>hl y (List.mem_cons_of_mem _ hy)) ha
   refine⟨cl,?_,h2,fun x hx=>h3 x ?_⟩
   ·rw[List.forIn_cons]
    have e:(k == NameKind.free)=false:=by simpa using hk
    simp only[e,Bool.false_eq_true,if_false]
    exact h1
   ·rcases hx with hx|hx
    ·exact .inl hx
    ·rcases List.mem_cons.mp hx with e|hx
     ·exact absurd (Prod.mk.inj e).2.symm hk
     ·exact .inr hx
theorem closure_ex{scope:Scope}{env:Env}(h:∀ y∈scope.names,y.2=.free→∃ c,env.cells.lookup y.1=some c) :
  ∃ cl,closureFor scope env=pure cl∧(∀ x c,cl.lookup x=some c→env.cells.lookup x=some c)∧(∀ x,(x,NameKind.free)∈scope.names→∃ c,cl.lookup x=some c):=by
 obtain⟨cl,h1,h2,h3⟩:=closure_go scope.names [] h (fun x c e=>by simp at e)
 refine⟨cl,?_,h2,fun x hx=>h3 x (.inr hx)⟩
 unfold closureFor
 simp only[bind_pure]
 exact h1
noncomputable def relabelS(scope sc:Scope):Scope :=
 { scope with names:=scope.names.map fun (n,k)=>if (k == .free && sc.kind == .function && sc.names.lookup n == some .cell) then (n,.cell) else (n,k) }
theorem relabel_eq(scope:Scope)(env:Env):relabel scope env=relabelS scope env.scope:=rfl
theorem lookup_map_val{α β:Type}(g:Str→α→β)(x:Str):∀ l:List (Str×α),(l.map fun (n,k)=>(n,g n k)).lookup x=(l.lookup x).map (g x)
 | []=>rfl
 | (n,k)::r=>by
  rw[List.map_cons,List.lookup_cons,List.lookup_cons]
  cases e:x == n with
  | true=>rw[beq_iff_eq.mp e];rfl
  | false=>exact lookup_map_val g x r
theorem lookup_relabelS(scope sc:Scope)(x:Str):(relabelS scope sc).names.lookup x=(scope.names.lookup x).map fun k=>if (k == .free && sc.kind == .function && sc.names.lookup x == some .cell) then NameKind.cell else k:=by
 have e:(relabelS scope sc).names=scope.names.map fun (n,k)=>(n,if (k == .free && sc.kind == .function && sc.names.lookup n == some .cell) then NameKind.cell else k):=by
  unfold relabelS
  refine List.map_congr_left fun y _=>?_
  obtain⟨n,k⟩:=y
  show (if _ then _ else _)=(n,if _ then _ else _)
  split<;>rfl
 rw[e]
 exact lookup_map_val (fun n k=>if (k == .free && sc.kind == .function && sc.names.lookup n == some .cell) then NameKind.cell else k) x scope.names
noncomputable def capOk(N0:List Str)(sc0 scope:Scope):List Str→List (Option Nat)→Bool
 | [],[]=>true
 | x::N,none::c=>capOk N0 sc0 scope N c
 | x::N,some j::c=>(N0[j]? == some x) && (sc0.names.lookup x == some .cell || sc0.names.lookup x == some .free) && (scope.names.lookup x == some .free) && (scope.names.all fun y=>y.1 != x || y.2 != .cell) && capOk N0 sc0 scope N c
 | _,_=>false
noncomputable def compOk(N0:List Str)(sc0 scope:Scope)(N:List Str)(cap:List (Option Nat)):Bool :=
 (scope.kind == .function) && (scope.names.all fun y=>y.2 != .local || scope.names.lookup y.1 == some .local) && (scope.names.all fun y=>y.2 != .free || (sc0.names.lookup y.1 == some .cell || sc0.names.lookup y.1 == some .free)) &&
 (scope.names.all fun y=>y.2 != .cell || scope.names.lookup y.1 == some .cell) && capOk N0 sc0 scope N cap
noncomputable def capS(cap:List (Option Nat))(σ:St):St:=cap.map fun o=>match o with
 | none=>none
 | some j=>(σ[j]?).join
theorem capOk_len{N0:List Str}{sc0 scope:Scope}:∀ {N:List Str} {cap:List (Option Nat)},capOk N0 sc0 scope N cap=true→cap.length=N.length
 | [],[],_=>rfl
 | x::N,none::c,h=>by
  have:=capOk_len (N:=N) (cap:=c) h
  simp[this]
 | x::N,some j::c,h=>by
  simp only[capOk,Bool.and_eq_true] at h
  have:=capOk_len (N:=N) (cap:=c) h.2
  simp[this]
 | [],_::_,h=>by simp[capOk] at h
 | _::_,[],h=>by simp[capOk] at h
theorem capOk_at{N0:List Str}{sc0 scope:Scope}:∀ {N:List Str} {cap:List (Option Nat)} {i j:Nat} {x:Str},capOk N0 sc0 scope N cap=true→N[i]?=some x→cap[i]?=some (some j) →
  N0[j]?=some x∧(sc0.names.lookup x=some .cell∨sc0.names.lookup x=some .free)∧scope.names.lookup x=some .free∧∀ y∈scope.names,y.1=x→y.2≠.cell
 | [],[],i,j,x,_,h,_=>by simp at h
 | y::N,none::c,0,j,x,_,_,h=>by simp at h
 | y::N,none::c,i+1,j,x,h,h1,h2=>capOk_at (N:=N) (cap:=c) (i:=i) h (by simpa using h1) (by simpa using h2)
 | y::N,some j'::c,0,j,x,h,h1,h2=>by
  simp at h1 h2
  subst h1 h2
  simp only[capOk,Bool.and_eq_true,Bool.or_eq_true,beq_iff_eq,List.all_eq_true,bne_iff_ne] at h
  exact⟨h.1.1.1.1,h.1.1.1.2,h.1.1.2,fun z hz e=>(h.1.2 z hz).elim (fun q=>absurd e q) id⟩
 | y::N,some j'::c,i+1,j,x,h,h1,h2=>by
  simp only[capOk,Bool.and_eq_true] at h
  exact capOk_at (N:=N) (cap:=c) (i:=i) h.2 (by simpa using h1) (by simpa using h2)
 | [],_::_,_,_,_,h,_,_=>by simp[capOk] at h
 | _::_,[],_,_,_,h,_,_=>by simp[capOk] at h
noncomputable def cxC(X:Cx)(scope:Scope)(cl:List (Str×Addr))(N:List Str)(s:Shared)(H:Hp)(fp:List Addr):Cx where
 prog:=X.prog
 w:=X.w
 K:=X.K
 mg:=X.mg
 base:=X.base
 A:=X.A
 N:=N
 s₀:=s
 H₀:=H
 env:=compEnvC scope (cellsFrom (s.heap.objs.size+1+1) scope.names cl) (s.heap.objs.size+1) X.env
 outer:=X.stack
 stack:=X.stack
 ex:=fp
 fn:=fun x=>scope.names.lookup x == some .cell
 calm:=X.calm
 pn:=[]
 xe:=fun _ _=>False
theorem cxC_inv{X:Cx}{pins:List (Addr×Obj)}{σ:St}{H:Hp}{s:Shared}{scope sc0:Scope}{cl:List (Str×Addr)}{N N0:List Str}{cap:List (Option Nat)}{fp:List Addr}
  (I:Inv X pins σ H s) (hf:∀ b∈fp,FpOk X pins H b) (ho:∀ b∈fp,∃ o,s.heap.get? b=some o∧∀ v,o.data≠.cell v)
  (hs0:X.env.scope=sc0) (hN:X.N=N0) (ok:compOk N0 sc0 scope N cap=true)
  (hcl:∀ x c,cl.lookup x=some c→X.env.cells.lookup x=some c) (hfr:∀ x,(x,NameKind.free)∈scope.names→∃ c,cl.lookup x=some c) :
  Inv (cxC X scope cl N s H fp) [] (capS cap σ) (upd H s.heap.objs.size (.lst [])) { s with heap:=pushCells ((s.heap.push { cls:=.type "list",data:=.seq ([]:List Value).toArray }).push { cls:=.type "dict",data:=.dict #[] }) scope.names }:=by
 simp only[compOk,Bool.and_eq_true,beq_iff_eq] at ok
 obtain⟨⟨⟨⟨hk,hloc⟩,hfree⟩,hcell⟩,hcap⟩:=ok
 have e1:(s.heap.push { cls:=.type "list",data:=.seq ([]:List Value).toArray }).objs.size=s.heap.objs.size+1:=Heap.size_push ..
 have e2:((s.heap.push { cls:=.type "list",data:=.seq ([]:List Value).toArray }).push { cls:=.type "dict",data:=.dict #[] }).objs.size=s.heap.objs.size+1+1:=by rw[Heap.size_push,e1]
 have k1:∀ b o,s.heap.get? b=some o→(pushCells ((s.heap.push { cls:=.type "list",data:=.seq ([]:List Value).toArray }).push { cls:=.type "dict",data:=.dict #[] }) scope.names).get? b=some o :=
  fun b o e=>pushCells_keeps _ _ b o (Heap.get?_push_of_some _ (Heap.get?_push_of_some _ e))
 have kD:(pushCells ((s.heap.push { cls:=.type "list",data:=.seq ([]:List Value).toArray }).push { cls:=.type "dict",data:=.dict #[] }) scope.names).get? s.heap.objs.size=some { cls:=.type "list",data:=.seq ([]:List Value).toArray } :=
  pushCells_keeps _ _ _ _ (Heap.get?_push_of_some _ (Heap.get?_push_size _ rfl))
 have kC:(pushCells ((s.heap.push { cls:=.type "list",data:=.seq ([]:List Value).toArray }).push { cls:=.type "dict",data:=.dict #[] }) scope.names).Ns (s.heap.objs.size+1) fun _=>none:=by
  have q:=(Heap.Ns.new (s.heap.push { cls:=.type "list",data:=.seq ([]:List Value).toArray }) (.type "dict")).keeps (pushCells_keeps scope.names _)
  rw[e1] at q
  exact q
 have hD:H s.heap.objs.size=none:=I.hok.fresh (Nat.le_refl _)
 have clLt:∀ x c,cl.lookup x=some c→c<s.heap.objs.size:=fun x c e=>by
  obtain⟨v,q⟩:=I.cell x c (hcl x c e)
  exact q.lt
 have cells:∀ x c,(cellsFrom (s.heap.objs.size+1+1) scope.names cl).lookup x=some c→s.heap.objs.size+1+1≤c∨cl.lookup x=some c:=fun x c e=>cellsFrom_or x _ _ _ c e
 have fpLt:∀ b∈fp,b<s.heap.objs.size:=fun b hb=>by
  obtain⟨o,e,_⟩:=ho b hb
  exact Heap.lt_size e
 refine⟨⟨I.ok.mod,hk,I.ok.glob,I.ok.blt,Nat.le_succ _,?_,?_,?_,I.ok.hd,I.ok.frames,.inl rfl,?_,I.bs,Nat.le_trans I.ok.bsz I.sz,?_,?_,I.stack,I.stkFree⟩,
  rfl,I.bare,?_,?_,?_,?_,?_,fun p hp=>absurd (show p∈([]:List (Addr×Obj)) from hp) (by simp),?_,?_⟩
 ·-- inj
  refine cellsFrom_inj scope.names _ cl (fun x y c h1 h2=>I.ok.inj x y c (hcl x c h1) (hcl y c h2)) fun x c h=>?_
  exact Nat.lt_succ_of_lt (Nat.lt_succ_of_lt (clLt x c h))
 ·-- has
  intro x hx
  have hx:(relabel scope X.env).names.lookup x=some .cell∨(relabel scope X.env).names.lookup x=some .free:=hx
  rw[relabel_eq,lookup_relabelS] at hx
  have:scope.names.lookup x=some .cell∨scope.names.lookup x=some .free:=by
   cases e:scope.names.lookup x with
   | none=>rw[e] at hx;simp at hx
   | some k =>
    rw[e] at hx
    cases k<;>simp at hx<;>simp
  refine Option.isSome_iff_exists.mp (PySem.W.cellsFrom_some scope.names _ cl ?_)
  rcases this with h|h
  ·exact .inl h
  ·exact .inr (Option.isSome_iff_exists.mpr (hfr x (PySem.mem_of_lookup h)))
 ·-- cab
  intro x c hx hc
  have hx:scope.names.lookup x=some .cell:=by simpa [cxC] using hx
  have:=cellsFrom_low x (s.heap.objs.size+1+1) scope.names (s.heap.objs.size+1+1) cl (Nat.le_refl _) (.inl (PySem.mem_of_lookup hx)) c hc
  exact Nat.le_trans (Nat.le_succ _) (Nat.le_trans (Nat.le_succ _) this)
 ·-- exf
  intro b hb
  have hlt:=fpLt b hb
  refine⟨Nat.ne_of_lt (Nat.lt_succ_of_lt hlt),fun x c e=>?_⟩
  rcases cells x c e with q|q
  ·exact Nat.ne_of_gt (Nat.lt_of_lt_of_le (Nat.lt_succ_of_lt (Nat.lt_succ_of_lt hlt)) q)
  ·exact (hf b hb).2.2.2.2.1 x c (hcl x c q)
 ·-- noex
  intro b o e hb
  rcases (hf b hb).2.2.2.1 with q|q
  ·exact I.ok.noex b o e q
  ·exact absurd (Nat.lt_of_lt_of_le (Heap.lt_size (I.ok.bs b o e).1) q) (Nat.lt_irrefl _)
 ·-- exfs
  intro b hb z
  rcases List.mem_cons.mp (I.stkSub b z) with q|q
  ·exact (hf b hb).2.1 q
  ·exact (hf b hb).2.2.1 q
 ·-- base
  exact Un.laid k1 (Nat.le_refl _) hD
 ·-- loc
  refine⟨_,kC,fun i x v h1 h2 h3=>?_⟩
  have h2:(capS cap σ)[i]?=some (some v):=h2
  unfold capS at h2
  rw[List.getElem?_map] at h2
  cases e:cap[i]? with
  | none=>rw[e] at h2;cases h2
  | some o =>
   rw[e] at h2
   cases o with
   | none=>cases h2
   | some j =>
    have h2:some ((σ[j]?).join)=some (some v):=h2
    have h2:(σ[j]?).join=some v:=Option.some.inj h2
    obtain⟨q1,q2,q3,q4⟩:=capOk_at hcap h1 e
    have q5:σ[j]?=some (some v):=by
     cases es:σ[j]? with
     | none=>rw[es] at h2;cases h2
     | some w'=>rw[es] at h2;cases w' with
      | none=>cases h2
      | some w''=>have:some w''=some v:=h2;rw[this]
    obtain⟨m,hn,hl⟩:=I.loc
    have hk0:X.env.kindOf x=some .cell∨X.env.kindOf x=some .free:=by
     show X.env.scope.names.lookup x=_∨X.env.scope.names.lookup x=_
     rw[hs0];exact q2
    obtain⟨u,r,l⟩:=hl j x v (by rw[hN];exact q1) q5 (hk0.elim (fun z=>.inr (.inl z)) fun z=>.inr (.inr z))
    refine⟨u,r,?_⟩
    rcases l with⟨z,_⟩|⟨_,c,e1,z⟩
    ·rcases hk0 with y|y<;>(rw[y] at z;cases z)
    ·obtain⟨c',hc'⟩:=hfr x (PySem.mem_of_lookup q3)
     have ec:c'=c:=by
      have:=hcl x c' hc'
      rw[e1] at this
      exact (Option.some.inj this).symm
     subst ec
     refine .inr ⟨?_,c',?_,z.keeps k1⟩
     ·show (relabel scope X.env).names.lookup x=_∨(relabel scope X.env).names.lookup x=_
      rw[relabel_eq,lookup_relabelS,q3]
      by_cases hz:(NameKind.free == NameKind.free && X.env.scope.kind == ScopeKind.function && X.env.scope.names.lookup x == some NameKind.cell)=true
      ·left;show some (if _ then _ else _)=_;rw[if_pos hz]
      ·right;show some (if _ then _ else _)=_;rw[if_neg hz]
     ·show (cellsFrom (s.heap.objs.size+1+1) scope.names cl).lookup x=some c'
      rw[cellsFrom_out _ _ _ q4]
      exact hc'
 ·-- cell
  intro x c e
  have e:(cellsFrom (s.heap.objs.size+1+1) scope.names cl).lookup x=some c:=e
  rw[← e2] at e
  exact cellsFrom_isCell scope.names _ cl (fun y d hy=>by
   obtain⟨v,q⟩:=I.cell y d (hcl y d hy)
   exact⟨v,q.keeps fun b o z=>Heap.get?_push_of_some _ (Heap.get?_push_of_some _ z)⟩) x c e
 ·-- free
  show upd H s.heap.objs.size (.lst []) (s.heap.objs.size+1)=none
  rw[upd_ne (Nat.ne_of_gt (Nat.lt_succ_self _))]
  exact I.hok.fresh (Nat.le_succ _)
 ·-- freeC
  intro x c e
  rcases cells x c e with q|q
  ·have q2:s.heap.objs.size<c:=Nat.lt_of_lt_of_le (Nat.lt_succ_of_lt (Nat.lt_succ_self _)) q
   rw[upd_ne (Nat.ne_of_gt q2)]
   exact I.hok.fresh (Nat.le_of_lt q2)
  ·have:=clLt x c q
   rw[upd_ne (Nat.ne_of_lt this)]
   exact I.freeC x c (hcl x c q)
 ·-- hok
  refine I.hok.laid k1 (Nat.le_refl _) ⟨Nat.zero_le _,[],0,.nil,kD⟩
 ·show (capS cap σ).length=N.length
  unfold capS
  rw[List.length_map,capOk_len hcap]
end L2
end
section
namespace L2
open PySem PySem.Spec PyProof.Rows
noncomputable def PIfs(X:Cx)(ifs:List Expr)(t:TT):Prop:=∀ (pins:List (Addr×Obj)) (s:Shared) (σ:St) (H:Hp) (Q:Bool→Hp→Prop),Inv X pins σ H s→t σ H Q →
 wpAny (model X.prog X.w) X.A (forIn ifs true fun c r=>if r=true then do let ok ← isTrue c X.env (eval c X.env);pure (ForInStep.yield ok) else pure (ForInStep.yield r)) (TP X pins σ Q) X.xe s
noncomputable def tAll:TT:=fun _ H Q=>Q true H
theorem pifs_nil{X:Cx}:PIfs X [] tAll:=fun _ _ _ H _ I h=>wpAny_tests_nil ⟨H,I,h⟩
noncomputable def CompW(J:It)(g:TG)(tt:TT)(te:TE)(D:Addr)(σ:St)(H:Hp)(Qe:Hp→Prop):Prop :=
 ∃ W:Nat→Nat→St→Hp→Prop,(∃ m,W 0 m σ H)∧∀ i m σ H,W i m σ H →
  (J.stop i H∧Qe H)∨(J.go i H∧∃ N:St→Hp→Prop,(∀ σ' H',N σ' H'→∃ m',m' < m∧W (i+1) m' σ' H') ∧
   ∀ x H',J.yld i H x H'→g x σ H' fun σ2 H2=>tt σ2 H2 fun b H3=>if b=true then te σ2 H3 fun y H4=>∃ xs,H4 D=some (.lst xs)∧xs.length<sizeLine∧N σ2 (upd H4 D (.lst (xs++[y]))) else N σ2 H3)
theorem comp_turns{X:Cx}{tg iter elt:Expr}{ifs:List Expr}{scope:Scope}{pos:Pos}{it D:Addr}{fp:List Addr}{tn:Nat→Heap→Prop}{J:It}{g:TG}{tt:TT}{te:TE}{R:Result→Shared→Prop}{s:Shared}{σ:St}{H:Hp}{Qe:Hp→Prop}
  (hc:X.calm=true) (hxe:∀ e s,X.xe e s→False) (hg:PG X tg g) (ht:PIfs X ifs tt) (he:PE X elt te) (T:Turn X.prog X.w X.K tg J fp it tn)
  (fpk:∀ H',(∀ b∈fp,H' b=none)→∀ b∈fp,FpOk X [] H' b) (I:Inv X [] σ H s) (st:tn 0 s.heap) (fr:∀ b∈fp,H b=none)
  (h:CompW J g tt te D σ H Qe) (hR:∀ σ' H' s',Inv X [] σ' H' s'→Qe H'→R (.ok .next) s') :
  codeAny (model X.prog X.w) X.A (.compLoop (.ListComp elt [⟨tg,iter,ifs,0⟩] scope pos) 0 (.ref it) (.ref D) X.env) R s:=by
 obtain⟨W,⟨m0,w0⟩,turn⟩:=h
 refine codeAny_loop rfl (fun n s'=>∃ i σ' H',Inv X [] σ' H' s'∧tn i s'.heap∧(∀ b∈fp,H' b=none)∧W i n σ' H') (fun n s3 hI=>?_) m0 ⟨0,σ,H,I,st,fr,w0⟩
 obtain⟨i,σ3,H3,I3,st3,fr3,w3⟩:=hI
 show wpAny _ X.A ((compTurn (.ListComp elt [⟨tg,iter,ifs,0⟩] scope pos) 0 (.ref it) (.ref D) X.env).onRaise (fun x=>do noteFrame x X.env;theTreesLotGoes x)) _ _ s3
 refine wpAny_noted ?_
 rw[compTurn_list]
 refine wpAny_bind (wpAny_standAt (wpAny_bind ?_))
 rcases turn i n σ3 H3 w3 with⟨stop,qn⟩|⟨go,N,hN,step⟩
 ·refine wpAny_mono (T.done X rfl rfl rfl hc i [] s3 σ3 H3 (fun _ _=>False) I3 (fpk H3 fr3) st3 stop) (fun r s4 hr=>?_) (fun _ _ f=>f.elim)
  obtain⟨hr,I4⟩:=hr
  subst hr
  exact wpAny_pure (hR σ3 H3 s4 I4 qn)
 ·refine wpAny_mono (T.item X rfl rfl rfl hc i [] s3 σ3 H3 (fun _ _=>False) I3 (fpk H3 fr3) st3 go) (fun r s4 hr=>?_) (fun _ _ f=>f.elim)
  obtain⟨u,hr,h4⟩:=hr
  subst hr
  refine wpAny_bind (wpAny_mono h4 (fun _ s5 h5=>?_) fun _ _ f=>f.elim)
  obtain⟨x,H5,I5,r5,y5,st5,fr5⟩:=h5
  have I5':=I5.pinned (fpk H5 fr5) (T.obj _ _ st5)
  refine wpAny_bind (wpAny_mono (hg _ s5 σ3 H5 x u _ I5' r5 (step x H5 y5)) (fun _ s6 h6=>?_) fun e s f=>(hxe e s f).elim)
  obtain⟨σ6,H6,I6,q6⟩:=h6
  refine wpAny_bind (wpAny_mono (ht _ s6 σ6 H6 _ I6 q6) (fun ok s7 h7=>?_) fun e s f=>(hxe e s f).elim)
  obtain⟨H7,I7,q7⟩:=h7
  have again:∀ {s7:Shared} {σ7:St} {H7:Hp},Inv X ([]++pinsAt fp s5.heap) σ7 H7 s7→N σ7 H7→∃ m,m<n∧∃ i σ' H',Inv X [] σ' H' s7∧tn i s7.heap∧(∀ b∈fp,H' b=none)∧W i m σ' H':=fun {s7 σ7 H7} I7 n7=>by
   obtain⟨m',hm,w7⟩:=hN σ7 H7 n7
   refine⟨m',hm,i+1,σ7,H7,I7.unpinned,T.keep _ _ _ st5 fun b hb o e=>(I7.pin (b,o) (List.mem_append_right _ (List.mem_append_right _ (mem_pinsAt hb e)))).1,fun b hb=>?_,w7⟩
   obtain⟨o,e,d⟩:=T.obj _ _ st5 b hb
   exact (I7.pin (b,o) (List.mem_append_right _ (List.mem_append_right _ (mem_pinsAt hb e)))).2.1
  cases ok with
  | false=>exact wpAny_pure ⟨rfl,again I7 q7⟩
  | true =>
   refine wpAny_bind (wpAny_bind (wpAny_mono (he _ s7 σ6 H7 _ I7 q7) (fun y s8 h8=>wpAny_bind ?_) fun e s f=>(hxe e s f).elim))
   obtain⟨v8,H8,I8,r8,xs,hD,hz,n8⟩:=h8
   refine wpAny_mono (mt_append (X:=X) _ s8 σ6 H8 (.ref D) [v8] (.ref D) [y] (fun _ H9=>N σ6 H9) I8 rfl (.cons r8 .nil) ⟨D,xs,v8,rfl,rfl,hD,hz,n8⟩) (fun _ s9 h9=>?_) fun e s f=>(hxe e s f).elim
   obtain⟨_,H9,I9,_,n9⟩:=h9
   exact wpAny_pure (wpAny_pure ⟨rfl,again I9 n9⟩)
theorem cxC_back{X:Cx}{pins pins':List (Addr×Obj)}{σ σ':St}{H H':Hp}{s s':Shared}{scope:Scope}{cl:List (Str×Addr)}{N:List Str}{fp:List Addr}(I:Inv X pins σ H s)(hf:∀ b∈fp,FpOk X pins H b)
  (J:Inv (cxC X scope cl N s H fp) pins' σ' H' s'):Inv X pins σ H' s' :=
 I.call' (ch:=fp) J.os J.base J.hok J.bare fun b hb=>⟨(hf b hb).2.2.2.1,(hf b hb).2.1,(hf b hb).2.2.2.2.1,(hf b hb).2.2.2.2.2⟩
noncomputable def tComp(cap:List (Option Nat))(wi:TI)(g:TG)(tt:TT)(te:TE):TE:=fun σ H Q=>wi σ H fun J H1=>∀ D,H1 D=none→CompW J g tt te D (capS cap σ) (upd H1 D (.lst [])) fun H2=>Q (.ref D) H2
theorem comp_core{X:Cx}{sc0 scope:Scope}{N0 N:List Str}{cap:List (Option Nat)}{tg iter elt:Expr}{ifs:List Expr}{pos pos':Pos}{wi:TI}{g:TG}{tt:TT}{te:TE}{use:Option (Value→Sem Unit)}{Qv:Value→Shared→Prop}
  {pins:List (Addr×Obj)} {s:Shared} {σ:St} {H:Hp} {Q:VK}
  (hc:X.calm=true) (hs0:X.env.scope=sc0) (hN:X.N=N0) (ok:compOk N0 sc0 scope N cap=true) (hi:PI X tg iter wi)
  (hg:∀ cl s H fp,PG (cxC X scope cl N s H fp) tg g) (ht:∀ cl s H fp,PIfs (cxC X scope cl N s H fp) ifs tt) (he:∀ cl s H fp,PE (cxC X scope cl N s H fp) elt te) (hfs:∀ x,foldedSetIterable iter X.env x=pure x)
  (I:Inv X pins σ H s) (h:tComp cap wi g tt te σ H Q)
  (hend:∀ (D C:Addr) (m:Str→Option Value) (H':Hp) (s':Shared),Inv X pins σ H' s'→s'.heap.Ns C m→H' C=none→C≠X.env.locals→X.s₀.heap.objs.size≤C→(∀ x c,X.env.cells.lookup x=some c→c≠C)→(∀ p∈X.pn++pins,p.1≠C)→Q (.ref D) H' →
   compPost (model X.prog X.w) X.A X.xe use Qv (.ref D) C (.ok .next) s') :
  wpAny (model X.prog X.w) X.A (comprehension (.ListComp elt [⟨tg,iter,ifs,0⟩] scope pos) scope X.env pos' (newList []) false (eval iter X.env) use) Qv X.xe s:=by
 have ok':=ok
 simp only[compOk,Bool.and_eq_true,beq_iff_eq,List.all_eq_true,Bool.or_eq_true,bne_iff_ne] at ok'
 obtain⟨⟨⟨⟨hk,hloc⟩,hfree⟩,hcell⟩,hcap⟩:=ok'
 obtain⟨cl,hcl1,hcl2,hcl3⟩:=closure_ex (scope:=scope) (env:=X.env) (fun y hy e=>I.ok.has y.1 (by
  show X.env.scope.names.lookup y.1=_∨X.env.scope.names.lookup y.1=_
  rw[hs0]
  rcases hfree y hy with z|z
  ·exact absurd e z
  ·exact z))
 refine wpAny_comprehension_free rfl hfs hcl1 hk (fun y hy e=>by
  rcases hloc y hy with z|z
  ·exact absurd e z
  ·exact z) (wpAny_mono (hi pins s σ H _ I h) (fun v s1 h1=>wpAny_mono h1 (fun itv s2 h2=>?_) fun _ _ e=>e) fun _ _ e=>e)
 obtain⟨it,fp,tn,J,H2,e,I2,T,st2,f2,q2⟩:=h2
 subst e
 refine wpAny_newObj_type (newEnvC ?_)
 have I3:=cxC_inv I2 f2 (T.obj _ _ st2) hs0 hN ok hcl2 hcl3
 have eC:(s2.heap.push { cls:=.type "list",data:=.seq ([]:List Value).toArray }).objs.size=s2.heap.objs.size+1:=Heap.size_push ..
 show codeAny _ _ (.compStart (.ListComp elt [⟨tg,iter,ifs,0⟩] scope pos) 0 (.ref it) (.ref s2.heap.objs.size)
  (compEnvC scope (cellsFrom ((s2.heap.push { cls:=.type "list",data:=.seq ([]:List Value).toArray }).objs.size+1) scope.names cl) ((s2.heap.push { cls:=.type "list",data:=.seq ([]:List Value).toArray }).objs.size) X.env))
  (compPost _ _ _ use Qv (.ref s2.heap.objs.size) ((s2.heap.push { cls:=.type "list",data:=.seq ([]:List Value).toArray }).objs.size)) _
 rw[eC]
 have fpk:∀ H',(∀ b∈fp,H' b=none)→∀ b∈fp,FpOk (cxC X scope cl N s2 H2 fp) [] H' b:=fun H' hn b hb =>
  ⟨hn b hb,(I3.ok.exf b hb).1,I3.ok.exfs b hb,.inl hb,(I3.ok.exf b hb).2,fun p hp=>absurd (show p∈([]:List (Addr×Obj)) from hp) (by simp)⟩
 have fpLt:∀ b∈fp,b<s2.heap.objs.size:=fun b hb=>by
  obtain⟨o,e,_⟩:=T.obj _ _ st2 b hb
  exact Heap.lt_size e
 have k1:∀ b o,s2.heap.get? b=some o→(pushCells ((s2.heap.push { cls:=.type "list",data:=.seq ([]:List Value).toArray }).push { cls:=.type "dict",data:=.dict #[] }) scope.names).get? b=some o :=
  fun b o e=>pushCells_keeps _ _ b o (Heap.get?_push_of_some _ (Heap.get?_push_of_some _ e))
 have st3:=T.keep 0 s2.heap (pushCells ((s2.heap.push { cls:=.type "list",data:=.seq ([]:List Value).toArray }).push { cls:=.type "dict",data:=.dict #[] }) scope.names) st2 fun b _ o e=>k1 b o e
 have loop:=comp_turns (X:=cxC X scope cl N s2 H2 fp) (iter:=iter) (scope:=scope) (pos:=pos) (it:=it) (D:=s2.heap.objs.size) (R:=compPost (model X.prog X.w) X.A X.xe use Qv (.ref s2.heap.objs.size) (s2.heap.objs.size+1)) hc (fun _ _ f=>f) (hg cl s2 H2 fp) (ht cl s2 H2 fp) (he cl s2 H2 fp) T fpk I3 st3
  (fun b hb=>by rw[upd_ne (Nat.ne_of_lt (fpLt b hb))];exact (f2 b hb).1) (q2 _ (I2.hok.fresh (Nat.le_refl _))) (fun σ' H' s' J' q=>by
   obtain⟨m,hm,_⟩:=id J'.loc
   refine hend _ _ m H' s' (cxC_back I2 f2 J') hm J'.free ?_ ?_ ?_ ?_ q
   ·exact Nat.ne_of_gt (Nat.lt_succ_of_lt I2.lt)
   ·exact Nat.le_succ_of_le I2.sz
   ·intro x c e
    obtain⟨v,q⟩:=I2.cell x c e
    exact Nat.ne_of_lt (Nat.lt_succ_of_lt q.lt)
   ·intro p hp
    exact Nat.ne_of_lt (Nat.lt_succ_of_lt (Heap.lt_size (I2.pin p hp).1)))
 exact codeAny_compStart_list loop (T.self X.A 0 _ _ _ st3 loop)
theorem pe_comp{X:Cx}{sc0 scope:Scope}{N0 N:List Str}{cap:List (Option Nat)}{tg iter elt:Expr}{ifs:List Expr}{pos:Pos}{wi:TI}{g:TG}{tt:TT}{te:TE}
  (hc:X.calm=true) (hs0:X.env.scope=sc0) (hN:X.N=N0) (ok:compOk N0 sc0 scope N cap=true) (hi:PI X tg iter wi)
  (hg:∀ cl s H fp,PG (cxC X scope cl N s H fp) tg g) (ht:∀ cl s H fp,PIfs (cxC X scope cl N s H fp) ifs tt) (he:∀ cl s H fp,PE (cxC X scope cl N s H fp) elt te) (hfs:∀ x,foldedSetIterable iter X.env x=pure x:=by intro _;rfl) :
  PE X (.ListComp elt [⟨tg,iter,ifs,0⟩] scope pos) (tComp cap wi g tt te):=by
 intro pins s σ H Q I h
 rw[eval_ListComp]
 refine comp_core hc hs0 hN ok hi hg ht he hfs I h fun D C m H' s' J hm hC1 hC2 hC3 hC4 hC5 q=>⟨m,hm,fun h' hs=>?_⟩
 exact⟨.ref D,H',J.turned (t':=s'.toks) (fun b o hb e=>(hs.2 b hb).trans e) hC1 hC2 (.inr hC3) hC4 hC5,rfl,q⟩
theorem ps_setC{X:Cx}{sc0 scope:Scope}{N0 N:List Str}{cap:List (Option Nat)}{tg iter elt:Expr}{ifs:List Expr}{pos spos pos':Pos}{wi:TI}{g:TG}{tt:TT}{te:TE}{i:Nat}{x:Str}
  (hNd:X.N.Nodup) (hix:X.N[i]?=some x) (hx:X.env.scope.names.lookup x=some .local)
  (hc:X.calm=true) (hs0:X.env.scope=sc0) (hN:X.N=N0) (ok:compOk N0 sc0 scope N cap=true) (hi:PI X tg iter wi)
  (hg:∀ cl s H fp,PG (cxC X scope cl N s H fp) tg g) (ht:∀ cl s H fp,PIfs (cxC X scope cl N s H fp) ifs tt) (he:∀ cl s H fp,PE (cxC X scope cl N s H fp) elt te) (hfs:∀ x,foldedSetIterable iter X.env x=pure x:=by intro _;rfl)
  (hsw:swapsWith (.ListComp elt [⟨tg,iter,ifs,0⟩] scope pos) (some (.Name x pos')) spos.line X.env=pure true:=by rfl) :
  PS X (.Assign [.Name x pos'] (.ListComp elt [⟨tg,iter,ifs,0⟩] scope pos) spos) (tAsg (tComp cap wi g tt te) (gName i)):=by
 intro pins s σ H D I h
 rw[exec_Assign_Name_used _ _ _ _ hsw]
 refine wpAny_bind (wpAny_standAt (wpAny_bind ?_))
 show wpAny _ X.A (do let _ ← comprehension (.ListComp elt [⟨tg,iter,ifs,0⟩] scope pos) scope X.env _ (newList []) false (eval iter X.env) (some (assign (.Name x pos') X.env))) _ _ s
 refine wpAny_bind (wpAny_mono (comp_core (use:=some (assign (.Name x pos') X.env)) (Qv:=fun _ s'=>SP X pins D .next s') hc hs0 hN ok hi hg ht he hfs I h fun A C m H' s' J hm hC1 hC2 hC3 hC4 hC5 q=>?_) (fun _ s' hq=>wpAny_pure (wpAny_pure hq)) fun _ _ e=>e)
 show wpAny _ X.A (assign (.Name x pos') X.env (.ref A)) _ _ s'
 refine wpAny_assign_Name (store_ok2 (v:=.ref A) J hNd hix (.inl hx) rfl (fun s2 J2 hs2=>?_) (.inr hx))
 obtain⟨a,hs2,ha⟩:=hs2
 have hCa:C≠a:=by
  rcases ha with z|z
  ·rw[z];exact hC2
  ·exact fun e=>hC4 _ _ z e.symm
 refine⟨m,hm.sameBut hs2 hCa,fun h' hs=>?_⟩
 exact⟨_,H',J2.turned (t':=s2.toks) (fun b o hb e=>(hs.2 b hb).trans e) hC1 hC2 (.inr hC3) hC4 hC5,q⟩
end L2
end
section
namespace L2
open PySem PySem.Spec PyProof.Rows
structure FunD(K:W.Frag)(x qual:Str)(st:Stmt)(dV:Value)(f:Addr)(fd:FuncData):Prop where
 ex:∃ (oc:Value) (od:Option Addr) (kV doc pm:Value) (an:Option Addr) (cdv ct:Value) (osl:Array (Option Value)),
  fd=PySem.W.fnOf x qual (defArgs st) (defBody st) (defScope st) dV kV doc pm an cdv ct∧K.lookup f=some ⟨oc,od,.func fd,osl⟩∧PySem.W.codeIn K cdv qual=true
 kp:PySem.W.keepIn K (.ref f)=true
section
variable{P:Program}{w:World}{K:W.Frag}{mg:Str→Option Value}{base:Heap}{CX:CXT}
theorem FunD.ok{x qual:Str}{st:Stmt}{dV:Value}{f:Addr}{fd:FuncData}{N ps:List Str}{k:Nat}{sp:Sp}(F:FunD K x qual st dV f fd)(S:FnScope N ps (defScope st))(len:∀ vs H Q E,sp vs H Q E→vs.length=ps.length)
  (hbody:∀ (cdv:Value) (A:Around) (outer:List Env) (s:Shared) (H:Hp) (vs:List V) (Q:VK) (E:XK),Room k (A.deeper (envOfC qual (defScope st) s.heap.objs.size f cdv))→sp vs H Q E →
   ∃ t,PSs (cxOf CX P w K mg base N qual (defScope st) f cdv A outer s H E).nox (defBody st) t∧t { nx:=fun _ H'=>Q .non H',rt:=Q } (start N vs) H):FnOk P w K mg base CX (k+1) f fd ps sp:=by
 obtain⟨oc,od,kV,doc,pm,an,cdv,ct,osl,rfl,lk,hcd⟩:=F.ex
 refine fn_of lk hcd S len fun A outer s H vs Q E hr hsp=>?_
 obtain⟨t,h,q⟩:=hbody cdv A outer s H vs Q E hr hsp
 exact⟨t,h.nox,q⟩
end
structure Cal(P:Program)(w:World)(K:W.Frag)(mg:Str→Option Value)(base:Heap)(CX:CXT)(k:Nat)(x:Str)(ps:List Str)(dvs:List V)(sp:Sp):Prop where
 ex:∃ (f:Addr) (fd:FuncData) (ds:List Value),FnOk P w K mg base CX k f fd ps sp∧mg x=some (.ref f)∧PySem.W.keepIn K (.ref f)=true∧Binds K fd ps ds∧Vals dvs ds
structure Tx(K:W.Frag)(mg:Str→Option Value)(x:Str)(st:Stmt)(ps:List Str)(dvss:List (List V)):Prop where
 ex:∃ (dV:Value) (f:Addr) (fd:FuncData),FunD K x x st dV f fd∧mg x=some (.ref f)∧∀ dvs∈dvss,∃ ds,Binds K fd ps ds∧Vals dvs ds
theorem Cal.mono{P:Program}{w:World}{K:W.Frag}{mg:Str→Option Value}{base:Heap}{CX:CXT}{j k:Nat}{x:Str}{ps:List Str}{dvs:List V}{sp:Sp}(c:Cal P w K mg base CX j x ps dvs sp)(h:j≤k):Cal P w K mg base CX k x ps dvs sp :=
 let ⟨f,fd,ds,h1,h2⟩:=c.ex
 ⟨f,fd,ds,h1.mono h,h2⟩
theorem Tx.cal{P:Program}{w:World}{K:W.Frag}{mg:Str→Option Value}{base:Heap}{CX:CXT}{x:Str}{st:Stmt}{N ps:List Str}{dvss:List (List V)}{k:Nat}{sp:Sp}(T:Tx K mg x st ps dvss)(S:FnScope N ps (defScope st))
  (len:∀ vs H Q E,sp vs H Q E→vs.length=ps.length)
  (hbody:∀ (f:Addr) (cdv:Value) (A:Around) (outer:List Env) (s:Shared) (H:Hp) (vs:List V) (Q:VK) (E:XK),Room k (A.deeper (envOfC x (defScope st) s.heap.objs.size f cdv))→sp vs H Q E →
   ∃ t,PSs (cxOf CX P w K mg base N x (defScope st) f cdv A outer s H E).nox (defBody st) t∧t { nx:=fun _ H'=>Q .non H',rt:=Q } (start N vs) H) :
  ∀ dvs∈dvss,Cal P w K mg base CX (k+1) x ps dvs sp:=by
 obtain⟨dV,f,fd,F,m,b⟩:=T.ex
 intro dvs hd
 obtain⟨ds,b1,b2⟩:=b dvs hd
 exact⟨f,fd,ds,F.ok S len (fun cdv A outer s H vs Q E hr h=>hbody f cdv A outer s H vs Q E hr h),m,F.kp,b1,b2⟩
section
variable{X:Cx}{CX:CXT}{k:Nat}{ps:List Str}{sp:Sp}{dvs:List V}{E:XK}{x:Str}{p pos:Pos}{e:Expr}{es:List Expr}{t:TA}
theorem pe_cal(c:Cal X.prog X.w X.K X.mg X.base CX k x ps dvs sp)(hr:Room k X.A)(hg:Gl X x)(hx:Passes CX X E)(ha:PA X (e::es) t)(hdb:(x == ("__debug__" : Str))=false:=by decide)
  (he:starEach (e::es) X.env=(false,eval e X.env)::starEach es X.env:=by rfl) (hpl:(backTo pos (starEach es X.env)).any (·.1)=false:=by rfl) :
  PE X (.Call (.Name x p) (e::es) [] pos) (tCall sp dvs E t):=by
 obtain⟨f,fd,ds,h1,h2,h3,h4,h5⟩:=c.ex
 exact pe_call h1 hr hg h2 h3 h4 h5 hx ha hdb he hpl
end
section
variable{X:Cx}
noncomputable def clsV:V→Option Value
 | .ty n=>some (.type n)
 | .ref a=>some (.ref a)
 | _=>none
theorem clsV_rel{c:V}{cv u:Value}(h:clsV c=some cv)(r:RelV c u):u=cv:=by
 cases c<;>simp[clsV] at h
 ·subst h;exact r
 ·subst h;exact r
noncomputable def rIsi(K:W.Frag):List V→Hp→VK→Prop:=fun xs H Q=>∃ x c t cv b,xs=[x,c]∧clsV c=some cv∧TyOf K H x t∧PySem.W.kitOne K t cv=some b∧Q (.bl b) H
noncomputable def rLen(K:W.Frag):List V→Hp→VK→Prop:=fun xs H Q=>∃ p ys,xs=[.ref p]∧(SqL K H p ys∨SqT K H p ys)∧Q (.int ys.length) H
noncomputable def rTpl(K:W.Frag):List V→Hp→VK→Prop:=fun xs H Q=>∃ p ys,xs=[.ref p]∧((SqL K H p ys∧∀ l,H l=none→Q (.ref l) (upd H l (.tup ys)))∨(SqT K H p ys∧Q (.ref p) H))
theorem call_lenS:CallR X (.builtin "len") (rLen X.K):=call_len_seq
theorem call_tupS:CallR X (.type "tuple") (rTpl X.K):=call_tuple_of
theorem call_isiS:CallR X (.builtin "isinstance") (rIsi X.K):=by
 intro pins s σ H xs us Q I r h
 obtain⟨x,c,t,cv,b,rfl,hc,ty,e,q⟩:=h
 obtain⟨u,w',rfl,r1,r2⟩:=vals2 r
 rw[clsV_rel hc r2]
 exact isinst_ok I r1 ty e fun tk=>⟨.bl b,H,I.tok tk,rfl,q⟩
end
section
variable{X:Cx}
end
noncomputable def XObj(ea:Addr)(c:Value)(d:Option Addr):Heap→Prop:=fun h=>∃ o vs,h.get? ea=some o∧o.cls=c∧o.dict=d∧o.data=.fields vs
noncomputable def hX(ea:Addr)(c:Value)(d:Option Addr):HO:=.ext (XObj ea c d)
noncomputable def XDct(d:Addr)(fs:List (Str×V)):Heap→Prop:=fun h=>∃ mA,h.Ns1 d mA∧(∀ f,RelO (fs.lookup f) (mA f))∧PySem.Within mA (fs.map (·.1))
noncomputable def hXD(d:Addr)(fs:List (Str×V)):HO:=.ext (XDct d fs)
noncomputable def keyD:Key→PyData
 | .inl i=>.int i
 | .inr x=>.str x
noncomputable abbrev dJ:PyData:=.dict [(.none,.none)]
mutual
inductive Rep(K:W.Frag)(H:Hp):V→PyData→Prop
 | non:Rep K H .non .none
 | bl (b:Bool):Rep K H (.bl b) (.bool b)
 | int (i:Int):Rep K H (.int i) (.int i)
 | str (x:Str):Rep K H (.str x) (.str x)
 | lst {a:Addr} {xs:List V} {ds:List PyData}:SqL K H a xs→Reps K H xs ds→Rep K H (.ref a) (.list ds)
 | tup {a:Addr} {xs:List V} {ds:List PyData}:H a=some (.tup xs)→Reps K H xs ds→Rep K H (.ref a) (.tuple ds)
 | exc {ea C:Addr} {kvs:List (PyData×PyData)}:H ea=some (hX ea (.ref C) none)→kvs=[(.none,.int C)]→Rep K H (.ref ea) (.dict kvs)
 | excF {ea C a:Addr} {vs:List (Str×V)} {ds:List PyData} {kvs:List (PyData×PyData)}:H ea=some (hX ea (.ref C) (some a))→H a=some (hXD a vs)→Reps K H (vs.map Prod.snd) ds→kvs=(.none,.int C)::(vs.map fun p=>PyData.str p.1).zip ds→Rep K H (.ref ea) (.dict kvs)
 | dK {a:Addr} {ks:List (Key×V)} {ds:List PyData} {kvs:List (PyData×PyData)}:Rd H a (.dK ks)→Reps K H (ks.map Prod.snd) ds→kvs=(ks.map fun p=>keyD p.1).zip ds→Rep K H (.ref a) (.dict kvs)
 | dT {a:Addr} {ks:List (List Key×V)} {ds:List PyData} {kvs:List (PyData×PyData)}:Rd H a (.dT ks)→Reps K H (ks.map Prod.snd) ds→kvs=(ks.map fun p=>PyData.tuple (p.1.map keyD)).zip ds→Rep K H (.ref a) (.dict kvs)
 | dN {a:Addr} {ks:List ((Key×List Key)×V)} {ds:List PyData} {kvs:List (PyData×PyData)}:ks≠[]→Rd H a (.dN ks)→Reps K H (ks.map Prod.snd) ds→kvs=(ks.map fun p=>PyData.tuple [keyD p.1.1,.tuple (p.1.2.map keyD)]).zip ds→Rep K H (.ref a) (.dict kvs)
 | junk {v:V}:Rep K H v dJ
inductive Reps(K:W.Frag)(H:Hp):List V→List PyData→Prop
 | nil:Reps K H [] []
 | cons {x:V} {d:PyData} {xs:List V} {ds:List PyData}:Rep K H x d→Reps K H xs ds→Reps K H (x::xs) (d::ds)
end
theorem zipK_ne{ks:List (Key×V)}{ds:List PyData}{y:PyData}{r:List (PyData×PyData)}:(.none,y)::r≠(ks.map fun p=>keyD p.1).zip ds:=by
 cases ks with
 | nil=>simp
 | cons k ks=>cases ds with
  | nil=>simp
  | cons d ds =>
   intro z
   have:=congrArg Prod.fst (List.cons.inj z).1
   obtain⟨k|k,v⟩:=k<;>cases this
theorem zipT_ne{ks:List (List Key×V)}{ds:List PyData}{y:PyData}{r:List (PyData×PyData)}:(.none,y)::r≠(ks.map fun p=>PyData.tuple (p.1.map keyD)).zip ds:=by
 cases ks with
 | nil=>simp
 | cons k ks=>cases ds with
  | nil=>simp
  | cons d ds =>
   intro z
   have:=congrArg Prod.fst (List.cons.inj z).1
   cases this
theorem zipN_ne{ks:List ((Key×List Key)×V)}{ds:List PyData}{y:PyData}{r:List (PyData×PyData)}:(.none,y)::r≠(ks.map fun p=>PyData.tuple [keyD p.1.1,.tuple (p.1.2.map keyD)]).zip ds:=by
 cases ks with
 | nil=>simp
 | cons k ks=>cases ds with
  | nil=>simp
  | cons d ds =>
   intro z
   have:=congrArg Prod.fst (List.cons.inj z).1
   cases this
section
variable{X:Cx}{pins:List (Addr×Obj)}{σ:St}{H H':Hp}{s:Shared}{K:W.Frag}
theorem Rep.indF{K:W.Frag}{H:Hp}{M:V→PyData→Prop}{N:List V→List PyData→Prop}(h1:M .non .none)(h2:∀ b,M (.bl b) (.bool b))(h3:∀ i,M (.int i) (.int i))(h4:∀ x,M (.str x) (.str x))
  (h5:∀ {a xs ds},SqL K H a xs→N xs ds→M (.ref a) (.list ds)) (h6:∀ {a xs ds},H a=some (.tup xs)→N xs ds→M (.ref a) (.tuple ds)) (h7:∀ v l,M v (.dict l)) (n:N [] []) (c:∀ {x d xs ds},M x d→N xs ds→N (x::xs) (d::ds)):(∀ {v d},Rep K H v d→M v d)∧∀ {vs ds},Reps K H vs ds→N vs ds :=
 ⟨fun h=>Rep.rec (motive_1:=fun v d _=>M v d) (motive_2:=fun v d _=>N v d) h1 h2 h3 h4 (fun h _=>h5 h) (fun h _=>h6 h) (fun _ _=>h7 _ _) (fun _ _ _ _ _=>h7 _ _) (fun _ _ _ _=>h7 _ _) (fun _ _ _ _=>h7 _ _) (fun _ _ _ _ _=>h7 _ _) (h7 _ _) n (fun _ _=>c) h,
  fun h=>Reps.rec (motive_1:=fun v d _=>M v d) (motive_2:=fun v d _=>N v d) h1 h2 h3 h4 (fun h _=>h5 h) (fun h _=>h6 h) (fun _ _=>h7 _ _) (fun _ _ _ _ _=>h7 _ _) (fun _ _ _ _=>h7 _ _) (fun _ _ _ _=>h7 _ _) (fun _ _ _ _ _=>h7 _ _) (h7 _ _) n (fun _ _=>c) h⟩
theorem Rep.reads(I:Inv X pins σ H s){v:V}{d:PyData}{u:Value}(hn:d.canLay0=true)(h:Rep X.K H v d)(r:RelV v u):∃ as,Reads s.heap u d as:=by
 refine (Rep.indF (M:=fun v d=>∀ u,d.canLay0=true→RelV v u→∃ as,Reads s.heap u d as) (N:=fun vs ds=>∀ us,PyData.canLayAll0 ds=true→Vals vs us→∃ as,ReadsAll s.heap us ds as) ?_ ?_ ?_ ?_ ?_ ?_ ?_ ?_ ?_).1 h u hn r
 ·intro u _ r;cases (show u=Value.none from r);exact⟨_,Reads.none⟩
 ·intro b u _ r;cases (show u=Value.bool b from r);exact⟨_,Reads.bool b⟩
 ·intro i u _ r;obtain⟨t,q⟩:=(show ∃ t,u=Value.int i t from r);cases q;exact⟨_,Reads.int i t⟩
 ·intro x u _ r;obtain⟨t,q⟩:=(show ∃ t,u=Value.str x t from r);cases q;exact⟨_,Reads.str x t⟩
 ·intro a xs ds h ih u hn r
  cases (show u=Value.ref a from r)
  obtain⟨its,rv,p,_⟩:=I.list h
  obtain⟨as,q⟩:=ih _ (by simpa [PyData.canLay0] using hn) rv
  obtain⟨o,h1,h2,n,h3⟩:=p.isList
  exact⟨_,Reads.list h1 h2 h3 (by simpa using q)⟩
 ·intro a xs ds h ih u hn r
  cases (show u=Value.ref a from r)
  obtain⟨its,rv,p,_⟩:=I.tuple (SqT.of h)
  obtain⟨as,q⟩:=ih _ (by simpa [PyData.canLay0] using hn) rv
  obtain⟨o,h1,h2,n,h3⟩:=p
  exact⟨_,Reads.tuple h1 h2 h3 (by simpa using q)⟩
 ·intro v l u hn;simp[PyData.canLay0] at hn
 ·intro us _ q;cases q;exact⟨_,ReadsAll.nil⟩
 ·intro x d xs ds i1 i2 us hn q
  simp only[PyData.canLayAll0,Bool.and_eq_true] at hn
  cases q with
  | cons q qs =>
   obtain⟨as,h1⟩:=i1 _ hn.1 q
   obtain⟨bs,h2⟩:=i2 _ hn.2 qs
   exact⟨_,ReadsAll.cons h1 h2⟩
theorem Same.tupS(e:Same H H'){a:Addr}{xs:List V}(h:SqT K H a xs):SqT K H' a xs:=by
 rcases h with (h|⟨o,h⟩)|h
 ·exact .inl (.inl (e _ _ h))
 ·exact .inl (.inr ⟨o,e _ _ h⟩)
 ·exact .inr h
noncomputable def Low(G G':Hp):Prop:=∀ b o,G b=some o→(∀ ob c,o≠.frz ob (.own c))→G' b=some o
theorem Low.rd(e:Low H H'){a:Addr}{u:HO}(n:∀ ob c,u≠.frz ob (.own c))(n2:∀ c,u≠.own c)(h:Rd H a u):Rd H' a u:=h.imp (fun h=>e _ _ h n) fun⟨o,h⟩=>⟨o,e _ _ h fun ob c z=>by cases z;exact n2 _ rfl⟩
theorem Low.seq(e:Low H H'){a:Addr}{xs:List V}(h:SqL K H a xs):SqL K H' a xs:=by
 rcases h with (h|⟨o,h⟩)|h
 ·exact .inl (.inl (e _ _ h fun _ _ z=>by cases z))
 ·exact .inl (.inr ⟨o,e _ _ h fun _ _ z=>by cases z⟩)
 ·exact .inr h
theorem Rep.low(e:Low H H'){v:V}{d:PyData}(h:Rep K H v d):Rep K H' v d :=
 Rep.rec (motive_1:=fun v d _=>Rep K H' v d) (motive_2:=fun v d _=>Reps K H' v d) .non .bl .int .str (fun h _ i=>.lst (e.seq h) i) (fun h _ i=>.tup (e _ _ h (by intro _ _ z;cases z)) i) (fun h z=>.exc (e _ _ h (by intro _ _ z;cases z)) z) (fun h k _ z i=>.excF (e _ _ h (by intro _ _ z;cases z)) (e _ _ k (by intro _ _ z;cases z)) i z)
  (fun h _ z i=>.dK (e.rd (by intro _ _ z;cases z) (by intro _ z;cases z) h) i z) (fun h _ z i=>.dT (e.rd (by intro _ _ z;cases z) (by intro _ z;cases z) h) i z) (fun n h _ z i=>.dN n (e.rd (by intro _ _ z;cases z) (by intro _ z;cases z) h) i z) .junk .nil (fun _ _=>.cons) h
theorem Reps.imp(f:∀ {v d},Rep K H v d→Rep K H' v d):∀ {vs:List V} {ds:List PyData},Reps K H vs ds→Reps K H' vs ds
 | _,_,.nil=>.nil
 | _,_,.cons r rs=>.cons (f r) (Reps.imp f rs)
theorem Rep.same(e:Same H H'){v:V}{d:PyData}(h:Rep K H v d):Rep K H' v d:=h.low fun b o z _=>e b o z
theorem Reps.same(e:Same H H'){vs:List V}{ds:List PyData}(h:Reps K H vs ds):Reps K H' vs ds:=Reps.imp (fun r=>r.same e) h
theorem Reps.length:∀ {vs:List V} {ds:List PyData},Reps K H vs ds→vs.length=ds.length
 | _,_,.nil=>rfl
 | _,_,.cons _ rs=>by rw[List.length_cons,List.length_cons,Reps.length rs]
theorem Reps.get:∀ {vs:List V} {ds:List PyData} {i:Nat} {d:PyData},Reps K H vs ds→ds[i]?=some d→∃ v,vs[i]?=some v∧Rep K H v d
 | _,_,i,d,.nil,e=>by simp at e
 | _,_,0,d,.cons r _,e=>by simp at e;subst e;exact⟨_,rfl,r⟩
 | _,_,i+1,d,.cons _ rs,e=>by
  obtain⟨v,h1,h2⟩:=Reps.get (i:=i) rs (by simpa using e)
  exact⟨v,by simpa using h1,h2⟩
theorem Reps.append:∀ {vs ws:List V} {ds es:List PyData},Reps K H vs ds→Reps K H ws es→Reps K H (vs++ws) (ds++es)
 | _,_,_,_,.nil,h=>h
 | _,_,_,_,.cons r rs,h=>.cons r (Reps.append rs h)
theorem Reps.ints(ns:List Int):Reps K H (ns.map V.int) (ns.map PyData.int):=by
 induction ns with
 | nil=>exact .nil
 | cons n ns ih=>exact .cons (.int n) ih
theorem same_new{p:Addr}{o:HO}(h:H p=none):Same H (upd H p o):=fun b u e=>by rw[upd_ne (ne_of_none e h)];exact e
noncomputable def dOk(d:PyData):Prop:=SeqAt.shaped d=true
noncomputable def rEqD(K:W.Frag):R2:=fun x y H Q=>∃ d e,Rep K H x d∧Rep K H y e∧dOk d∧dOk e∧Q (.bl (PyData.eqv d e)) H
noncomputable def rNeD(K:W.Frag):R2:=fun x y H Q=>∃ d e,Rep K H x d∧Rep K H y e∧dOk d∧dOk e∧Q (.bl (!PyData.eqv d e)) H
theorem op_eqD(hu:X.A.units+64<cLine):OpR X (compareOp .Eq) (rEqD X.K):=by
 intro pins s σ H x y v u Q I rx ry h
 obtain⟨d,e,h1,h2,h3,h4,q⟩:=h
 obtain⟨as,k1⟩:=Rep.reads I (SeqAt.canLay_of_shaped h3) h1 rx
 obtain⟨bs,k2⟩:=Rep.reads I (SeqAt.canLay_of_shaped h4) h2 ry
 exact eq_dataH k1 k2 h3 h4 hu ⟨.bl _,H,I,rfl,q⟩
theorem op_neD(hu:X.A.units+64<cLine):OpR X (compareOp .NotEq) (rNeD X.K):=by
 intro pins s σ H x y v u Q I rx ry h
 obtain⟨d,e,h1,h2,h3,h4,q⟩:=h
 obtain⟨as,k1⟩:=Rep.reads I (SeqAt.canLay_of_shaped h3) h1 rx
 obtain⟨bs,k2⟩:=Rep.reads I (SeqAt.canLay_of_shaped h4) h2 ry
 exact ne_dataH k1 k2 h3 h4 hu ⟨.bl _,H,I,rfl,q⟩
end
structure Enc{α:Type}(f:α→PyData)(n:Nat):Prop where
 eqv:∀ a b,PyData.eqv (f a) (f b)=true↔a=b
 lay:∀ a,(f a).canLay0=true
 dep:∀ a,(f a).depth≤n
theorem Enc.ok{α:Type}{f:α→PyData}{n:Nat}(E:Enc f n)(hn:n≤32)(a:α):dOk (f a):=by
 unfold dOk SeqAt.shaped
 rw[E.lay a,Bool.true_and]
 exact decide_eq_true (Nat.le_trans (E.dep a) (Nat.le_trans hn (by decide)))
theorem Enc.int:Enc PyData.int 0:=⟨fun a b=>by simp[PyData.eqv],fun _=>by simp[PyData.canLay0],fun _=>by simp[PyData.depth]⟩
theorem eqvAll_map{α:Type}{f:α→PyData}(h:∀ a b,PyData.eqv (f a) (f b)=true↔a=b):∀ xs ys:List α,PyData.eqvAll (xs.map f) (ys.map f)=true↔xs=ys
 | [],[]=>by simp[PyData.eqvAll]
 | [],_::_=>by simp[PyData.eqvAll]
 | _::_,[]=>by simp[PyData.eqvAll]
 | x::xs,y::ys=>by simp[PyData.eqvAll,h x y,eqvAll_map h xs ys]
theorem layAll_map{α:Type}{f:α→PyData}(h:∀ a,(f a).canLay0=true):∀ xs:List α,PyData.canLayAll0 (xs.map f)=true
 | []=>rfl
 | x::xs=>by simp[PyData.canLayAll0,h x,layAll_map h xs]
theorem depAll_map{α:Type}{f:α→PyData}{n:Nat}(h:∀ a,(f a).depth≤n):∀ xs:List α,PyData.depthAll (xs.map f)≤n
 | []=>Nat.zero_le _
 | x::xs=>by
  have h1:=h x
  have h2:=depAll_map h xs
  simp only[List.map_cons,PyData.depthAll]
  omega
theorem Enc.list{α:Type}{f:α→PyData}{n:Nat}(E:Enc f n):Enc (fun xs:List α=>PyData.list (xs.map f)) (n+1) :=
 ⟨fun a b=>by simp only[PyData.eqv];exact eqvAll_map E.eqv a b,fun a=>by simp only[PyData.canLay0];exact layAll_map E.lay a,fun a=>by simp only[PyData.depth];have:=depAll_map E.dep a;omega⟩
theorem Enc.tuple{α:Type}{f:α→PyData}{n:Nat}(E:Enc f n):Enc (fun xs:List α=>PyData.tuple (xs.map f)) (n+1) :=
 ⟨fun a b=>by simp only[PyData.eqv];exact eqvAll_map E.eqv a b,fun a=>by simp only[PyData.canLay0];exact layAll_map E.lay a,fun a=>by simp only[PyData.depth];have:=depAll_map E.dep a;omega⟩
theorem Enc.pair{α β:Type}{f:α→PyData}{g:β→PyData}{n:Nat}(E:Enc f n)(G:Enc g n):Enc (fun p:α×β=>PyData.tuple [f p.1,g p.2]) (n+1) :=
 ⟨fun a b=>by
  obtain⟨a1,a2⟩:=a
  obtain⟨b1,b2⟩:=b
  simp[PyData.eqv,PyData.eqvAll,E.eqv,G.eqv],fun a=>by simp[PyData.canLay0,PyData.canLayAll0,E.lay,G.lay],fun a=>by
  have h1:=E.dep a.1
  have h2:=G.dep a.2
  simp only[PyData.depth,PyData.depthAll]
  omega⟩
theorem Enc.dec{α:Type}{f:α→PyData}{n:Nat}[DecidableEq α](E:Enc f n)(a b:α):PyData.eqv (f a) (f b)=decide (a=b):=by
 by_cases h:a=b
 ·rw[decide_eq_true h];exact (E.eqv a b).mpr h
 ·rw[decide_eq_false h];exact Bool.eq_false_iff.mpr fun z=>h ((E.eqv a b).mp z)
end L2
end
section
namespace L2
open PySem PySem.Spec PyProof.Rows
theorem pe_cst{X:Cx}{x:Str}{i:Int}{pos:Pos}(hm:∃ t,X.mg x=some (.int i t))(hg:Gl X x)(hd:(x == ("__debug__" : Str))=false:=by decide):PE X (.Name x pos) (tC (.int i)):=by
 obtain⟨t,h⟩:=hm
 exact pe_glob hg h ⟨t,rfl⟩ hd
section
variable{σ:St}{H:Hp}{Q:VK}{v:V}{ta tb te:TE}{nx bk ct:St→Hp→Prop}{rt:VK}{t u:TS}{i j:Int}
theorem rd_eqI(h:Q (.bl (decide (i=j))) H):rEq (.int i) (.int j) H Q:=⟨rfl,by have e:decide (V.int i=V.int j)=decide (i=j):=by { by_cases z:i=j<;>simp[z] };rw[e];exact h⟩
theorem rd_neI(h:Q (.bl (!decide (i=j))) H):rNe (.int i) (.int j) H Q:=⟨rfl,by have e:decide (V.int i=V.int j)=decide (i=j):=by { by_cases z:i=j<;>simp[z] };rw[e];exact h⟩
theorem rd_tyL{K:W.Frag}{a:Addr}{xs:List V}{P:Prop}(h:H a=some (.lst xs))(q:P):tyV K "list" (.ref a) H∧P:=⟨.inl ⟨rfl,xs,SqL.of h⟩,q⟩
end
end L2
end
section
namespace L2
open PySem PySem.Spec PyProof.Rows
section
variable{K:W.Frag}{h:Heap}{mg:Str→Option Value}
theorem tx_mk{x:Str}{st:Stmt}{ps:List Str}{f:Addr}{oc kV doc pm cd ct:Value}{od an:Option Addr}{sl:Array (Option Value)}(X:K.In h)(G:h.Ns mainGlobals mg)
  (a:PySem.W.nsIn K mainGlobals x=some (some (.ref f))) (l:K.lookup f=some ⟨oc,od,.func (PySem.W.fnOf x x (defArgs st) (defBody st) (defScope st) .none kV doc pm an cd ct),sl⟩)
  (c:PySem.W.codeIn K cd x=true) (k:PySem.W.keepIn K (.ref f)=true)
  (hb:∀ (us:List Value),us.length=ps.length→bindArgs (PySem.W.fnOf x x (defArgs st) (defBody st) (defScope st) .none kV doc pm an cd ct) ⟨us,[]⟩=pure (ps.zip us)):Tx K mg x st ps [[]] :=
 ⟨.none,f,_,⟨⟨oc,od,kV,doc,pm,an,cd,ct,sl,rfl,l,c⟩,k⟩,PySem.W.mg_of X G a,fun dvs hd=>by
  have e:dvs=[]:=by simpa using hd
  subst e
  exact⟨[],.all hb,.nil⟩⟩
theorem cst_mk{x:Str}{i:Int}{t:Tok}(X:K.In h)(G:h.Ns mainGlobals mg)(a:PySem.W.nsIn K mainGlobals x=some (some (.int i t))):∃ t,mg x=some (.int i t):=⟨t,PySem.W.mg_of X G a⟩
end
end L2
end
section
namespace L2
open PySem PySem.Spec PyProof.Rows
theorem kit_int_bool{K:W.Frag}:PySem.W.kitOne K (.type "int") (.type "bool")=some false :=
 (by decide +kernel:(if (Value.type "int" == Value.type "bool")=true then some true else if PySem.W.kitMeta "bool" = true then (fastBuiltinMro "int").map (·.contains (Value.type "bool")) else none)=some false)
theorem rd_eqD{α:Type}[DecidableEq α]{f:α→PyData}{n:Nat}{K:W.Frag}{H:Hp}{x y:V}{a b:α}{Q:VK}(E:Enc f n)(h1:Rep K H x (f a))(h2:Rep K H y (f b))(q:Q (.bl (decide (a=b))) H)(hn:n≤32:=by decide):rEqD K x y H Q :=
 ⟨_,_,h1,h2,E.ok hn a,E.ok hn b,by rw[E.dec];exact q⟩
theorem rd_neD{α:Type}[DecidableEq α]{f:α→PyData}{n:Nat}{K:W.Frag}{H:Hp}{x y:V}{a b:α}{Q:VK}(E:Enc f n)(h1:Rep K H x (f a))(h2:Rep K H y (f b))(q:Q (.bl (!decide (a=b))) H)(hn:n≤32:=by decide):rNeD K x y H Q :=
 ⟨_,_,h1,h2,E.ok hn a,E.ok hn b,by rw[E.dec];exact q⟩
theorem Rep.ints{K:W.Frag}{H:Hp}{a:Addr}{ns:List Int}(h:SqL K H a (ns.map V.int)):Rep K H (.ref a) (PyData.list (ns.map PyData.int)):=.lst h (Reps.ints ns)
end L2
end
section
namespace L2
open PySem PySem.Spec PyProof.Rows
section
variable{K:W.Frag}{H H':Hp}{v x:V}{Q:VK}{k i:Int}{d:PyData}{ds:List PyData}
theorem Rep.int_inv(h:Rep K H v (.int i)):v=.int i:=by cases h;rfl
theorem Rep.list_inv(h:Rep K H v (.list ds)):∃ a xs,v=.ref a∧SqL K H a xs∧Reps K H xs ds:=by
 cases h with
 | lst h r=>exact⟨_,_,rfl,h,r⟩
theorem Rep.tuple_inv(h:Rep K H v (.tuple ds)):∃ a xs,v=.ref a∧SqT K H a xs∧Reps K H xs ds:=by
 cases h with
 | tup h r=>exact⟨_,_,rfl,SqT.of h,r⟩
theorem atI_of{α:Type}{xs:List α}{y:α}(h0:0≤k)(h:xs[k.toNat]?=some y):atI xs k=some y:=by
 obtain⟨j,rfl⟩:∃ j:Nat,k=j:=⟨k.toNat,by omega⟩
 exact atI_nat (by simpa using h)
theorem rd_lenRL(h:Rep K H x (.list ds))(q:Q (.int ds.length) H):rLen K [x] H Q:=by
 obtain⟨a,xs,rfl,h1,h2⟩:=h.list_inv
 exact⟨a,xs,rfl,.inl h1,by rw[h2.length];exact q⟩
theorem rd_lenRT(h:Rep K H x (.tuple ds))(q:Q (.int ds.length) H):rLen K [x] H Q:=by
 obtain⟨a,xs,rfl,h1,h2⟩:=h.tuple_inv
 exact⟨a,xs,rfl,.inr h1,by rw[h2.length];exact q⟩
mutual
noncomputable def noLst:PyData→Bool
 | .none=>true
 | .bool _=>true
 | .int _=>true
 | .str _=>true
 | .list _=>false
 | .tuple ds=>noLsts ds
 | .dict _=>false
noncomputable def noLsts:List PyData→Bool
 | []=>true
 | d::ds=>noLst d && noLsts ds
end
theorem noLsts_ints:∀ ns:List Int,noLsts (ns.map PyData.int)=true
 | []=>rfl
 | n::ns=>by simp[noLsts,noLst,noLsts_ints ns]
theorem noLsts_map{α:Type}{f:α→PyData}(h:∀ a,noLst (f a)=true):∀ xs:List α,noLsts (xs.map f)=true
 | []=>rfl
 | x::xs=>by simp[noLsts,h x,noLsts_map h xs]
theorem Same.updF{D:Addr}{o:HO}(s:Same H H')(hD:H D=none):Same H (upd H' D o):=fun b u e=>by rw[upd_ne (ne_of_none e hD)];exact s b u e
noncomputable def dI(ns:List Int):PyData:=.list (ns.map .int)
noncomputable def tI(ns:List Int):PyData:=.tuple (ns.map .int)
noncomputable def dRows(rows:List (List Int)):PyData:=.list (rows.map dI)
end
end L2
end
section
namespace L2
open PySem PySem.Spec PyProof.Rows
noncomputable def cat(ns:List Int)(k:Int):Int:=if k<ns.length then ns.getD k.toNat 0 else 0
noncomputable def sprd(ns:List Int)(k:Int):Int:=(cat ns k%1000000007*48271+(k+3)*(k+5)*69621)%2147483647*16807%2147483629
theorem sprd_range(ns:List Int)(k:Int):0≤sprd ns k∧sprd ns k<2147483629:=⟨Int.emod_nonneg _ (by decide),Int.emod_lt_of_pos _ (by decide)⟩
end L2
end
section
namespace L2
open PySem PySem.Spec PyProof.Rows
section
variable{X:Cx}{K:W.Frag}
theorem call_tupK(h:X.K=K):CallR X (.type "tuple") (rTpl K):=h▸call_tupS
theorem op_catTK(h:X.K=K):OpR X (binaryOp .Add) (rCatT K):=h▸op_catT
theorem op_eqDK(h:X.K=K)(hu:X.A.units+64<cLine):OpR X (compareOp .Eq) (rEqD K):=h▸op_eqD hu
theorem op_neDK(h:X.K=K)(hu:X.A.units+64<cLine):OpR X (compareOp .NotEq) (rNeD K):=h▸op_neD hu
theorem pg_tupK{es:List Expr}{k:Nat}{t:TGs}{n:Nat}{pos:Pos}(h:X.K=K)(hc:X.calm=true)(hg:PGs X es t)(hn:(assignEach es X.env).length=n:=by rfl)(hst:(assignEach es X.env).findIdx? (·.1)=none:=by rfl):PG X (.Tuple es k pos) (gTup K n t):=h▸pg_tup hc hg hn hst
variable{o e:Expr}{es:List Expr}{to:TE}{t:TA}{name:Str}{apos cpos:Pos}{T id:String}{r:V→List V→Hp→VK→Prop}
theorem pe_bmK(h:X.K=K)(pa:PlainAttrs T)(slot:Slot T name id)(hty:typeOf (.builtin id)=pure (.type "method_descriptor"))(hm:MtR X id r)(ho:PE X o to)(ha:PA X (e::es) t)
  (hbase:attributeBase o name X.env (eval o X.env)=eval o X.env:=by rfl)
  (hfew:((backTo cpos (starEach (e::es) X.env)).all (fun x=>!x.1) && (backToKw cpos (keywordEach [] X.env)).all (fun x=>x.1.isSome)
   && decide ((e::es).length+([]:List Keyword).length+(if ([]:List Keyword).isEmpty then 0 else 1)<30))=true:=by rfl)
  (hline:(apos.endLine == cpos.line)=true:=by rfl) (hs:starEach (e::es) X.env=(false,eval e X.env)::starEach es X.env:=by rfl) (hplain:(backTo cpos (starEach es X.env)).any (·.1)=false:=by rfl) :
  PE X (.Call (.Attribute o name apos) (e::es) [] cpos) (tBM K T r to t):=h▸pe_bm pa slot hty hm ho ha hbase hfew hline hs hplain
end
end L2
end
section
namespace L2
open PySem PySem.Spec PyProof.Rows
noncomputable def Ite(K:W.Frag)(a:Addr):It :=
  ⟨fun i H=>∃ xs x,SqL K H a xs∧xs[i]?=some x,
   fun i H v H'=>∃ p x,H p=none∧v=.ref p∧H'=upd H p (.tup [.int i,x])∧∀ xs,SqL K H a xs→xs[i]?=some x,
   fun i H=>∃ xs,SqL K H a xs∧xs.length≤i⟩
theorem Inv.enumed{X:Cx}{pins:List (Addr×Obj)}{σ:St}{H:Hp}{s:Shared}{h':Heap}{t':Nat}{e it:Addr}{xs:List V}{us:List Value}(I:Inv X pins σ H s)
  (fe:FpOk X pins H e) (fi:FpOk X pins H it) (k:∀ b o,b≠e→b≠it→s.heap.get? b=some o→h'.get? b=some o)
  (ht:h'.get? s.heap.objs.size=some { cls:=.type "tuple",data:=.seq us.toArray }) (hv:Vals xs us) (hz:xs.length≤sizeLine) :
  Inv X pins σ (upd H s.heap.objs.size (.tup xs)) { s with heap:=h',toks:=t' }:=by
 have hp:H s.heap.objs.size=none:=I.hok.fresh (Nat.le_refl _)
 have ne:∀ b o,s.heap.get? b=some o→b≠s.heap.objs.size:=fun b o q=>Nat.ne_of_lt (Heap.lt_size q)
 have nt:∀ b u,H b=some u→b≠e∧b≠it:=fun b u q=>⟨(ne_of_none q fe.1),(ne_of_none q fi.1)⟩
 have np:∀ b u,H b=some u→b≠s.heap.objs.size:=fun b u q=>ne_of_none q hp
 refine I.step (g':=s.gens) (d':=s.drawn) (ch:=[e,it]) (fun b hb=>?_) (fun b o _ _ hc q _=>k b o (fun z=>hc (by simp[z])) (fun z=>hc (by simp[z])) q)
  (fun b o _ _ hc q _=>⟨o.slots,k b o (fun z=>hc (by simp[z])) (fun z=>hc (by simp[z])) q⟩) (fun b o _ q n=>by rw[upd_ne (ne b o q)];exact n)
  (fun b o hc q=>⟨o,k b o (fun z=>hc (by simp[z])) (fun z=>hc (by simp[z])) q⟩) (fun b ys q=>by rw[upd_ne (np b _ q)];exact q) (fun b o u q=>by rw[upd_ne (np b _ q)];exact q)
  (fun b ps q=>⟨#[],by rw[upd_ne (np b _ q),q];simp⟩) (fun m hm=>?_) (fun b u q=>?_) I.bare
 ·have hb:b=e∨b=it:=by simpa using hb
  rcases hb with rfl|rfl
  ·exact⟨fe.2.2.2.1,fe.2.1,fe.2.2.2.2.1,fe.2.2.2.2.2⟩
  ·exact⟨fi.2.2.2.1,fi.2.1,fi.2.2.2.2.1,fi.2.2.2.2.2⟩
 ·obtain⟨o,es,ep,ho,r⟩:=hm
  exact⟨o,es,ep,k _ o (Ne.symm fe.2.1) (Ne.symm fi.2.1) ho,r⟩
 ·by_cases hb:b=s.heap.objs.size
  ·subst hb
   rw[upd_same] at q
   cases q
   exact⟨hz,us,hv,⟨_,ht,rfl,_,rfl⟩⟩
  ·rw[upd_ne hb] at q
   refine (I.hok b u q).stay (fun c v hc r=>?_) (fun c r=>by rw[upd_ne (np c _ r)];exact r) fun c ys r=>by rw[upd_ne (np c _ r)];exact r
   rcases hc with z|z
   ·rw[z] at r ⊢;exact k _ _ (nt b u q).1 (nt b u q).2 r
   ·exact k _ _ (nt c _ z).1 (nt c _ z).2 r
theorem turn_enum{P:Program}{w:World}{K:W.Frag}{es:List Expr}{x1}{tp:Pos}(a e it:Addr)(hne:e≠it):Turn P w K (.Tuple es x1 tp) (Ite K a) [e,it] e (fun i h=>(∃ old,IsEnum h e it i old)∧h.IsListIter it a i) where
 mem:=by simp
 obj:=fun i h st b hb=>by
  obtain⟨⟨old,he⟩,o,hi,hc,hd⟩:=st
  have hb:b=e∨b=it:=by simpa using hb
  rcases hb with rfl|rfl
  ·exact⟨_,he,fun v z=>by cases (show Data.fields _=Data.cell v from z)⟩
  ·exact⟨o,hi,fun v z=>by rw[hd] at z;cases z⟩
 keep:=fun i h h' st k=>by
  obtain⟨⟨old,he⟩,hi⟩:=st
  exact⟨⟨old,k e (by simp) _ he⟩,hi.at fun o q=>k it (by simp) o q⟩
 item:=by
  intro X hP hw hK hc i pins s σ H E I hf st hg
  subst hP hw hK
  obtain⟨xs,x,hq,hx⟩:=hg
  obtain⟨⟨old,he⟩,hi⟩:=st
  obtain⟨its,rv,p,hz⟩:=I.list hq
  obtain⟨u,hu,ru⟩:=rv.get hx
  refine wpAny_pyNext_enum_item he hi p.isList (x:=u) (by simpa using hu) hne fun h' ho hi' ht hsz k=>?_
  refine⟨_,rfl,wpAny_letOwnedTupleGo_enum ho fun h2 he2 hs2=>?_⟩
  have fe:=hf e (by simp)
  have fi:=hf it (by simp)
  have I1:Inv X pins σ (upd H s.heap.objs.size (.tup [.int i,x])) { s with heap:=h',toks:=s.toks+1 }:=I.enumed fe fi k ht (.cons ⟨_,rfl⟩ (.cons ru .nil)) (by show 2≤sizeLine;decide)
  have he1:e≠s.heap.objs.size:=Nat.ne_of_lt (Heap.lt_size he)
  have hi1:it≠s.heap.objs.size:=by obtain⟨_,q,_⟩:=hi;exact Nat.ne_of_lt (Heap.lt_size q)
  have I2:=I1.turned (h':=h2) (t':=s.toks+1) (it:=e) (fun b o hb q=>(hs2.2 b hb).trans q) (by rw[upd_ne he1];exact fe.1) fe.2.1 fe.2.2.2.1 fe.2.2.2.2.1 fe.2.2.2.2.2
  refine⟨.ref s.heap.objs.size,_,I2,rfl,⟨s.heap.objs.size,x,I.hok.fresh (Nat.le_refl _),rfl,rfl,fun ys hy=>by rw[I.list_inj hy hq];exact hx⟩,⟨⟨u,by simpa using he2⟩,hi'.at fun o q=>(hs2.2 it hne.symm).trans q⟩,fun b hb=>?_⟩
  have hb:b=e∨b=it:=by simpa using hb
  rcases hb with rfl|rfl
  ·rw[upd_ne he1];exact fe.1
  ·rw[upd_ne hi1];exact fi.1
 done:=by
  intro X hP hw hK hc i pins s σ H E I hf st hg
  subst hP hw hK
  obtain⟨xs,hq,hx⟩:=hg
  obtain⟨⟨old,he⟩,hi⟩:=st
  obtain⟨its,rv,p,hz⟩:=I.list hq
  obtain⟨f0,f1,f2,f3,f4,f5⟩:=hf it (by simp)
  have hl:=rv.length
  exact wpAny_pyNext_enum_end (I.ok.hd hc) he hi p.isList (by simp;omega) fun h' eb=>⟨rfl,I.turned (t':=s.toks) (fun b o hb e=>eb b o hb e) f0 f1 f3 f4 f5⟩
 self:=fun _ _ _ _ _ st h=>by
  obtain⟨⟨old,he⟩,_⟩:=st
  exact wpAny_pyIter_enum he h
noncomputable def iEnum(K:W.Frag)(ta:TA):TI:=fun σ H R=>ta σ H fun vs H1=>∃ a,vs=[.ref a]∧(∃ xs,SqL K H1 a xs)∧R (Ite K a) H1
theorem pi_enumK{X:Cx}{K:W.Frag}{a:Expr}{ta:TA}{es:List Expr}{x1}{tp p pos:Pos}(hK:X.K=K)(hg:Gl X "enumerate")(hm:X.mg "enumerate" = none)(ha:PA X [a] ta)(hs:starEach [a] X.env=[(false,eval a X.env)]:=by rfl) :
  PI X (.Tuple es x1 tp) (.Call (.Name "enumerate" p) [a] [] pos) (iEnum K ta):=by
 subst hK
 intro pins s σ H R I h
 refine Call_ (ld_blt I hg hm PyProof.Rows.boot_enumerate (PyProof.Rows.callWith_type1 (thn (ha pos pins s σ H _ I h) fun us s1 h1=>?_) hs rfl))
 obtain⟨vs,H1,I1,r1,a,e,⟨xs,hq⟩,q⟩:=h1
 subst e
 cases r1 with
 | cons r rr =>
  cases rr
  cases (show _=Value.ref a from r)
  obtain⟨its,rv,p,hz⟩:=I1.list hq
  refine call_enumerate_list p.isList fun h' he hi hsz k=>?_
  refine wpAny_pyIter_enum he ?_
  have I2:Inv X pins σ H1 { s1 with heap:=h' }:=I1.kept (t':=s1.toks) k
  refine⟨_,[s1.heap.objs.size+1,s1.heap.objs.size],_,Ite X.K a,H1,rfl,I2,turn_enum a _ _ (Nat.ne_of_gt (Nat.lt_succ_self _)),⟨⟨_,he⟩,hi⟩,fun b hb=>?_,q⟩
  have hb:b=s1.heap.objs.size+1∨b=s1.heap.objs.size:=by simpa using hb
  rcases hb with rfl|rfl
  ·exact I1.fpOk (Nat.le_succ _) (I1.hok.fresh (Nat.le_succ _))
  ·exact I1.fpOk (Nat.le_refl _) (I1.hok.fresh (Nat.le_refl _))
end L2
end
section
namespace L2
open PySem PySem.Spec PyProof.Rows
noncomputable def tyD:PyData→String
 | .none => "NoneType"
 | .bool _ => "bool"
 | .int _ => "int"
 | .str _ => "str"
 | .list _ => "list"
 | .tuple _ => "tuple"
 | .dict _ => "dict"
noncomputable def isD:PyData→Bool
 | .dict _=>true
 | _=>false
noncomputable def rIsiD(K:W.Frag):List V→Hp→VK→Prop:=fun xs H Q=>∃ x c d cv b,xs=[x,c]∧clsV c=some cv∧isD d=false∧Rep K H x d∧PySem.W.kitOne K (.type (tyD d)) cv=some b∧Q (.bl b) H
theorem call_isiD{X:Cx}:CallR X (.builtin "isinstance") (rIsiD X.K):=by
 intro pins s σ H xs us Q I r h
 obtain⟨x,c,d,cv,b,rfl,hc,nd,hd,e,q⟩:=h
 obtain⟨u,w',rfl,rx,r2⟩:=vals2 r
 rw[clsV_rel hc r2]
 have fin:∀ tk,EP X pins σ Q (.bool b) { s with toks:=tk }:=fun tk=>⟨.bl b,H,I.tok tk,rfl,q⟩
 cases hd with
 | non=>cases (show u=Value.none from rx);exact PySem.W.kia_one PySem.W.kitx_none I.kIn True.intro e (fun z=>nomatch z) fin
 | bl y=>cases (show u=Value.bool y from rx);exact PySem.W.kia_one PySem.W.kitx_bool I.kIn True.intro e (fun z=>nomatch z) fin
 | int i=>obtain⟨t,q'⟩:=(show ∃ t,u=Value.int i t from rx);cases q';exact PySem.W.kia_one PySem.W.kitx_int I.kIn True.intro e (fun z=>nomatch z) fin
 | str y=>obtain⟨t,q'⟩:=(show ∃ t,u=Value.str y t from rx);cases q';exact PySem.W.kia_one PySem.W.kitx_str I.kIn True.intro e (fun z=>nomatch z) fin
 | @lst a ys ds h1 h2 =>
  cases (show u=Value.ref a from rx)
  obtain⟨its,rv,p,_⟩:=I.list h1
  obtain⟨o,k1,k2,_⟩:=p.isList
  exact PySem.W.kia_one PySem.W.kitx_list I.kIn ⟨o,k1,k2⟩ e (fun z=>nomatch z) fin
 | @tup a ys ds h1 h2 =>
  cases (show u=Value.ref a from rx)
  obtain⟨its,rv,p,_⟩:=I.tuple (SqT.of h1)
  obtain⟨o,k1,k2,_⟩:=p
  exact PySem.W.kia_one PySem.W.kitx_tuple I.kIn ⟨o,k1,k2⟩ e (fun z=>nomatch z) fin
 | exc _ _=>cases nd
 | excF _ _ _ _=>cases nd
 | dK _ _ _=>cases nd
 | dT _ _ _=>cases nd
 | dN _ _ _ _=>cases nd
 | junk=>cases nd
noncomputable def rIsi2(K:W.Frag):List V→Hp→VK→Prop:=fun xs H Q=>rIsi K xs H Q∨rIsiD K xs H Q
theorem call_isi2K{X:Cx}{K:W.Frag}(h:X.K=K):CallR X (.builtin "isinstance") (rIsi2 K):=h▸CallR.or call_isiS call_isiD
theorem rd_isiD{K:W.Frag}{H:Hp}{Q:VK}{x c:V}{d:PyData}{cv:Value}{b:Bool}(hd:Rep K H x d)(nd:isD d=false)(hc:clsV c=some cv)(e:PySem.W.kitOne K (.type (tyD d)) cv=some b)(q:Q (.bl b) H):rIsi2 K [x,c] H Q:=.inr ⟨x,c,d,cv,b,rfl,hc,nd,hd,e,q⟩
theorem Enc.mono{α:Type}{f:α→PyData}{n m:Nat}(E:Enc f n)(h:n≤m):Enc f m:=⟨E.eqv,E.lay,fun a=>Nat.le_trans (E.dep a) h⟩
noncomputable abbrev FK:=Value→Option Addr→St→Hp→Prop
noncomputable def toF(E:XK):FK:=fun c d _ H=>E c d H
end L2
end
section
namespace L2
open PySem PySem.Spec PyProof.Rows
theorem d_KT{P:Program}{w:World}{h:Heap}{a:Addr}(x:h.DictOf (mixKind P w) a []):h.DictOfH (tupleKind (mixKind P w)) a []:=by
 obtain⟨o,es,ep,h3,h4,h5,h6,h7,h8⟩:=x
 refine⟨o,es,ep,h3,h4,h5,?_,⟨fun x z=>absurd z (by simp),List.nodup_nil⟩⟩
 generalize es.toList=l at h7
 cases h7
 rfl
theorem d_TK{P:Program}{w:World}{h:Heap}{a:Addr}(x:h.DictOfH (tupleKind (mixKind P w)) a []):h.DictOf (mixKind P w) a []:=by
 obtain⟨o,es,ep,h3,h4,h5,h6,h7,h8⟩:=x
 have e:es.toList=[]:=by simpa using h6
 refine⟨o,es,ep,h3,h4,h5,fun k hk=>?_,by rw[e];exact .nil,List.nodup_nil⟩
 have:k∈es.toList:=by simpa using hk
 rw[e] at this
 exact nomatch this
theorem dk_dt{P:Program}{w:World}{H H':Hp}{h:Heap}{a:Addr}(x:ObjOk P w H h a (.dK [])):ObjOk P w H' h a (.dT []):=by
 obtain⟨h1,h2,vs,rel,dd⟩:=x
 cases rel
 obtain⟨o,es,ep,h3,h4,h5,h6,_,h7⟩:=d_KT dd
 exact⟨h1,h2,[],.nil,o,es,ep,h3,h4,h5,h6,h7⟩
theorem dt_dk{P:Program}{w:World}{H H':Hp}{h:Heap}{a:Addr}(x:ObjOk P w H h a (.dT [])):ObjOk P w H' h a (.dK []):=by
 obtain⟨h1,h2,xs,rel,o,es,ep,h3,h4,h5,h6,h7⟩:=x
 cases rel
 exact⟨h1,h2,[],.nil,d_TK ⟨o,es,ep,h3,h4,h5,h6,⟨fun x z=>absurd z (by simp),h7⟩⟩⟩
noncomputable def KeyN(H:Hp)(b:Addr)(k:Key×List Key):Prop:=∃ c,H b=some (.tup [kV k.1,.ref c])∧H c=some (.tup (k.2.map kV))
theorem keyN_of{P:Program}{w:World}{H:Hp}{h:Heap}{b:Addr}{k:Key×List Key}(ok:HOk P w H h)(e:KeyN H b k):(pairKind (mixKind P w)).is h k b:=by
 obtain⟨c,e1,e2⟩:=e
 obtain⟨_,its,r,o,h1,h2,n,h3⟩:=(show ObjOk P w H h b (.tup [kV k.1,.ref c]) from ok b _ e1)
 cases r with
 | cons r1 r =>
  cases r with
  | cons r2 r =>
   cases r
   have r2:_=Value.ref c:=r2
   subst r2
   exact⟨o,_,n,_,c,h1,h2,h3,rfl,kV_is r1,key_of ok e2⟩
noncomputable abbrev KN(H:Hp):List ((Key×List Key)×V)→List ((Key×List Key)×Addr×Value)→Prop:=Paired fun p q=>p.1=q.1∧(∃ b,H q.2.1=some (.tup [kV p.1.1,.ref b])∧H b=some (.tup (p.1.2.map kV)))∧RelV p.2 q.2.2
theorem KN.val{H:Hp}{kvs:List ((Key×List Key)×V)}{xs:List ((Key×List Key)×Addr×Value)}(r:KN H kvs xs)(k:Key×List Key):RelO (valV kvs k) ((atKey xs k).map (·.2)):=by
 induction r with
 | nil=>exact True.intro
 | @cons p q ps qs h t ih =>
  by_cases e:p.1=k
  ·have b:atKey (q::qs) k=some q.2:=by simp[atKey,List.find?_cons,h.1.symm.trans e]
   rw[valV_pos e,b];exact h.2.2
  ·have e':¬ q.1=k:=fun z=>e (h.1.trans z)
   have b:atKey (q::qs) k=atKey qs k:=by simp[atKey,List.find?_cons,e']
   rw[valV_neg e,b];exact ih
theorem KN.put{H:Hp}{kvs:List ((Key×List Key)×V)}{xs:List ((Key×List Key)×Addr×Value)}(r:KN H kvs xs)(k:Key×List Key){b:Addr}{y:V}{u:Value}(hb:KeyN H b k)(ry:RelV y u):KN H (putK kvs k y) (storedH xs k b u):=by
 have e:(kvs.any fun kv=>decide (kv.1=k))=(atKey xs k).isSome:=by
  rw[valV_any,(r.val k).isSome_eq,Option.isSome_map]
 unfold putK storedH
 rw[e]
 by_cases q:(atKey xs k).isSome=true
 ·rw[if_pos q,if_pos q]
  clear e q
  induction r with
  | nil=>exact .nil
  | @cons p q ps qs h t ih =>
   rw[List.map_cons,List.map_cons]
   refine .cons ?_ ih
   unfold putAt
   by_cases e:p.1=k
   ·rw[if_pos e,if_pos (h.1.symm.trans e)];exact⟨h.1,h.2.1,ry⟩
   ·rw[if_neg e,if_neg (fun z=>e (h.1.trans z))];exact h
 ·rw[if_neg q,if_neg q]
  exact Paired.snoc r ⟨rfl,hb,ry⟩
theorem KN.keeps{H H':Hp}{kvs:List ((Key×List Key)×V)}{xs:List ((Key×List Key)×Addr×Value)}(r:KN H kvs xs)(ht:∀ b ys,H b=some (.tup ys)→H' b=some (.tup ys)):KN H' kvs xs :=
 Paired.mapP r fun _ _ z=>⟨z.1,let ⟨b,z1,z2⟩:=z.2.1;⟨b,ht _ _ z1,ht _ _ z2⟩,z.2.2⟩
theorem dn_rd{P:Program}{w:World}{H:Hp}{h:Heap}{a:Addr}{kvs:List ((Key×List Key)×V)}(ok:HOk P w H h)(e:Rd H a (.dN kvs)):kvs.length≤sizeLine∧(a == sysModules)=false∧∃ xs,KN H kvs xs∧h.DictOfH (pairKind (mixKind P w)) a xs:=by
 obtain⟨z,y,xs,r,o,es,ep,h1,h2,h3,h4,h5⟩:=(show ObjOk P w H h a (.dN kvs) from rd_of ok e)
 refine⟨z,y,xs,r,o,es,ep,h1,h2,h3,h4,fun x hx=>?_,h5⟩
 have all:∀ {l:List ((Key×List Key)×V)} {m:List ((Key×List Key)×Addr×Value)},KN H l m→∀ x∈m,(pairKind (mixKind P w)).is h x.1 x.2.1:=by
  intro l m q
  induction q with
  | nil=>intro x hx;exact nomatch hx
  | @cons p q ps qs hq t ih =>
   intro x hx
   rcases List.mem_cons.mp hx with e|hx
   ·subst e
    exact keyN_of ok (by rw[← hq.1];exact hq.2.1)
   ·exact ih x hx
 exact all r x hx
theorem d_KN{P:Program}{w:World}{h:Heap}{a:Addr}(x:h.DictOf (mixKind P w) a []):h.DictOfH (pairKind (mixKind P w)) a []:=by
 obtain⟨o,es,ep,h3,h4,h5,h6,h7,h8⟩:=x
 refine⟨o,es,ep,h3,h4,h5,?_,⟨fun x z=>absurd z (by simp),List.nodup_nil⟩⟩
 generalize es.toList=l at h7
 cases h7
 rfl
theorem dk_dn{P:Program}{w:World}{H H':Hp}{h:Heap}{a:Addr}(x:ObjOk P w H h a (.dK [])):ObjOk P w H' h a (.dN []):=by
 obtain⟨h1,h2,vs,rel,dd⟩:=x
 cases rel
 obtain⟨o,es,ep,h3,h4,h5,h6,_,h7⟩:=d_KN dd
 exact⟨h1,h2,[],.nil,o,es,ep,h3,h4,h5,h6,h7⟩
theorem dk_rdE{P:Program}{w:World}{H:Hp}{h:Heap}{a:Addr}(ok:HOk P w H h)(e:Rd H a (.dK [])∨Rd H a (.dT [])):(a == sysModules)=false∧h.DictOf (mixKind P w) a []:=by
 rcases e with e|e
 ·obtain⟨z,hd,vs,rel,dd⟩:=dk_rd ok e
  cases rel
  exact⟨hd,dd⟩
 ·obtain⟨z,hd,vs,rel,dd⟩:=dt_rd ok e
  cases rel
  exact⟨hd,d_TK dd⟩
theorem pair_room{P:Program}{w:World}{A:Around}(hu:A.units+2<cLine):(pairKind (mixKind P w)).room A.in1:=⟨by show A.units+1<cLine;omega,by show A.units+1+1<cLine;omega⟩
noncomputable def DGetN(H:Hp)(a:Addr)(y:V)(r:Option V):Prop:=∃ kvs k b,Rd H a (.dN kvs)∧y=.ref b∧KeyN H b k∧r=valV kvs k
noncomputable def DGetA(H:Hp)(a:Addr)(y:V)(r:Option V):Prop:=DGet H a y r∨DGetN H a y r
noncomputable def DGet0(H:Hp)(a:Addr)(y:V)(r:Option V):Prop:=DGet H a y r∨(r=none∧(∃ k,y=kV k)∧Rd H a (.dT []))∨(r=none∧(∃ (k:List Key) (b:Addr),y=.ref b∧H b=some (.tup (k.map kV)))∧Rd H a (.dK []))∨DGetN H a y r∨(r=none∧(∃ (k:Key×List Key) (b:Addr),y=.ref b∧KeyN H b k)∧(Rd H a (.dK [])∨Rd H a (.dT [])))
noncomputable def DPut0(H:Hp)(a:Addr)(y v:V)(H':Hp):Prop:=DPut H a y v H'∨(∃ k,y=kV k∧H a=some (.dT [])∧H'=upd H a (.dK [(k,v)]))∨(∃ (k:List Key) (b:Addr),y=.ref b∧H b=some (.tup (k.map kV))∧H a=some (.dK [])∧H'=upd H a (.dT [(k,v)]))∨(∃ kvs k b,H a=some (.dN kvs)∧y=.ref b∧KeyN H b k∧kvs.length<sizeLine∧H'=upd H a (.dN (putK kvs k v)))∨(∃ (k:Key×List Key) (b:Addr),y=.ref b∧KeyN H b k∧(H a=some (.dK [])∨H a=some (.dT []))∧H'=upd H a (.dN [(k,v)]))
section
variable{X:Cx}{pins:List (Addr×Obj)}{σ:St}{H:Hp}{s:Shared}{a:Addr}{y v:V}{u r:Value}{o:Option V}{A:Around}{E:Value→Shared→Prop}
theorem d_setN{kvs:List ((Key×List Key)×V)}{k:Key×List Key}{b:Addr}{Q:Unit→Shared→Prop}(hu:A.units+2<cLine)(I:Inv X pins σ H s)(e:H a=some (.dN kvs))(eb:KeyN H b k)(l:kvs.length<sizeLine)(ry:RelV (.ref b) u)(rv:RelV v r)(h:∀ s',Inv X pins σ (upd H a (.dN (putK kvs k v))) s'→Q () s') :
  wpAny (model X.prog X.w) A (setItem (.ref a) u r) Q E s:=by
 cases (show u=Value.ref b from ry)
 obtain⟨z,hd,xs,rel,dd⟩:=dn_rd I.hok (.inl e)
 have hz:xs.length≤sizeLine:=by rw[← Paired.length rel];exact z
 have hl:(putK kvs k v).length≤sizeLine:=by have:=length_putK kvs k v;omega
 refine wpAny_setItem_heap (hsz:=hz) (pair_room hu) (keyN_of I.hok eb) dd fun h' dd' hs=>h _ ?_
 obtain⟨q,es,ep,hq,h2,h3,h4,_,h5⟩:=dd'
 refine d_write I (by rw[e];exact True.intro) hs ⟨q,hq⟩ ⟨hl,hd,_,(rel.put k eb rv).keeps fun c ys ec=>?_,q,es,ep,hq,h2,h3,h4,h5⟩
 rw[upd_ne (ne_of ec e (fun z=>nomatch z))]
 exact ec
theorem d_getN{k:Key×List Key}{b:Addr}{kvs:List ((Key×List Key)×V)}{Q:Value→Shared→Prop}(hu:A.units+2<cLine)(I:Inv X pins σ H s)(e:Rd H a (.dN kvs))(eb:KeyN H b k)(l:some v=valV kvs k)(ry:RelV (.ref b) u)(h:∀ w' s',Inv X pins σ H s'→RelV v w'→Q w' s') :
  wpAny (model X.prog X.w) A (getItem (.ref a) u) Q E s:=by
 cases (show u=Value.ref b from ry)
 obtain⟨z,hd,xs,rel,dd⟩:=dn_rd I.hok e
 obtain⟨w',hw,rw'⟩:=RelO.some_of (v:=v) (o:=(atKey xs k).map (·.2)) (by rw[l];exact rel.val k)
 obtain⟨p,hp,hp2⟩:=Option.map_eq_some_iff.mp hw
 refine wpAny_getItem_heap (pair_room hu) (keyN_of I.hok eb) dd hp ?_
 rw[hp2]
 exact h w' _ (I.tok _) rw'
theorem d_in0{Q:Value→Shared→Prop}(hu:A.units+2<cLine)(I:Inv X pins σ H s)(g:DGet0 H a y o)(ry:RelV y u)(h:∀ s',Inv X pins σ H s'→Q (.bool o.isSome) s') :
  wpAny (model X.prog X.w) A (compareOp .In u (.ref a)) Q E s:=by
 rcases g with g|⟨rfl,⟨k,rfl⟩,e⟩|⟨rfl,⟨k,b,rfl,eb⟩,e⟩|⟨kvs,k,b,e,rfl,eb,rfl⟩|⟨rfl,⟨k,b,rfl,eb⟩,e⟩
 ·exact d_in (by omega) I g ry h
 ·obtain⟨z,hd,vs,rel,dd⟩:=dt_rd I.hok e
  cases rel
  exact wpAny_in_of (kV_is ry) hd (d_TK dd).mapOf (h _ (I.tok _))
 ·obtain⟨z,hd,vs,rel,dd⟩:=dk_rd I.hok e
  cases rel
  cases (show u=Value.ref b from ry)
  exact wpAny_in_heap (tupleKind_room_in1 (by omega)) (key_of I.hok eb) hd (d_KT dd) (h _ (I.tok _))
 ·obtain⟨z,hd,xs,rel,dd⟩:=dn_rd I.hok e
  cases (show u=Value.ref b from ry)
  refine wpAny_in_heap (pair_room hu) (keyN_of I.hok eb) hd dd ?_
  have q:=(rel.val k).isSome_eq
  rw[Option.isSome_map] at q
  rw[← q]
  exact h _ (I.tok _)
 ·obtain⟨hd,dd⟩:=dk_rdE I.hok e
  cases (show u=Value.ref b from ry)
  exact wpAny_in_heap (pair_room hu) (keyN_of I.hok eb) hd (d_KN dd) (h _ (I.tok _))
theorem d_notIn0{Q:Value→Shared→Prop}(hu:A.units+2<cLine)(I:Inv X pins σ H s)(g:DGet0 H a y o)(ry:RelV y u)(h:∀ s',Inv X pins σ H s'→Q (.bool (!o.isSome)) s') :
  wpAny (model X.prog X.w) A (compareOp .NotIn u (.ref a)) Q E s:=by
 rcases g with g|⟨rfl,⟨k,rfl⟩,e⟩|⟨rfl,⟨k,b,rfl,eb⟩,e⟩|⟨kvs,k,b,e,rfl,eb,rfl⟩|⟨rfl,⟨k,b,rfl,eb⟩,e⟩
 ·exact d_notIn (by omega) I g ry h
 ·obtain⟨z,hd,vs,rel,dd⟩:=dt_rd I.hok e
  cases rel
  exact wpAny_notIn_of (kV_is ry) hd (d_TK dd).mapOf (h _ (I.tok _))
 ·obtain⟨z,hd,vs,rel,dd⟩:=dk_rd I.hok e
  cases rel
  cases (show u=Value.ref b from ry)
  exact wpAny_notIn_heap (tupleKind_room_in1 (by omega)) (key_of I.hok eb) hd (d_KT dd) (h _ (I.tok _))
 ·obtain⟨z,hd,xs,rel,dd⟩:=dn_rd I.hok e
  cases (show u=Value.ref b from ry)
  refine wpAny_notIn_heap (pair_room hu) (keyN_of I.hok eb) hd dd ?_
  have q:=(rel.val k).isSome_eq
  rw[Option.isSome_map] at q
  rw[← q]
  exact h _ (I.tok _)
 ·obtain⟨hd,dd⟩:=dk_rdE I.hok e
  cases (show u=Value.ref b from ry)
  exact wpAny_notIn_heap (pair_room hu) (keyN_of I.hok eb) hd (d_KN dd) (h _ (I.tok _))
theorem d_setItem0{H':Hp}{Q:Unit→Shared→Prop}(hu:A.units+2<cLine)(I:Inv X pins σ H s)(g:DPut0 H a y v H')(ry:RelV y u)(rv:RelV v r)(h:∀ s',Inv X pins σ H' s'→Q () s') :
  wpAny (model X.prog X.w) A (setItem (.ref a) u r) Q E s:=by
 have big:([]:List (Key×V)).length<sizeLine:=by decide
 have big':([]:List (List Key×V)).length<sizeLine:=by decide
 rcases g with g|⟨k,rfl,e,rfl⟩|⟨k,b,rfl,eb,e,rfl⟩|⟨kvs,k,b,e,rfl,eb,l,rfl⟩|⟨k,b,rfl,eb,e,rfl⟩
 ·exact d_setItem (by omega) I g ry rv h
 ·have x:=I.hok a _ e
  obtain⟨q,hq⟩:∃ q,s.heap.get? a=some q:=by obtain⟨_,_,_,_,q,_,_,hq,_⟩:=x;exact⟨q,hq⟩
  have J:Inv X pins σ (upd H a (.dK [])) s:=d_write (t':=s.toks) I (by rw[e];exact True.intro) (Heap.SameBut.refl a s.heap) ⟨q,hq⟩ (dt_dk x)
  refine d_setItem (by omega) J (DPut.k (k:=k) (v:=v) upd_same big) ry rv fun s' J'=>h s' ?_
  rw[upd_upd] at J'
  exact J'
 ·have x:=I.hok a _ e
  obtain⟨q,hq⟩:∃ q,s.heap.get? a=some q:=by obtain⟨_,_,_,_,q,_,_,hq,_⟩:=x;exact⟨q,hq⟩
  have J:Inv X pins σ (upd H a (.dT [])) s:=d_write (t':=s.toks) I (by rw[e];exact True.intro) (Heap.SameBut.refl a s.heap) ⟨q,hq⟩ (dk_dt x)
  refine d_setItem (by omega) J (DPut.t (k:=k) (v:=v) upd_same (by rw[upd_ne (ne_of eb e (fun z=>nomatch z))];exact eb) big') ry rv fun s' J'=>h s' ?_
  rw[upd_upd] at J'
  exact J'
 ·exact d_setN hu I e eb l ry rv h
 ·have x:ObjOk X.prog X.w H s.heap a (.dK []):=by
   rcases e with e|e
   ·exact I.hok a _ e
   ·exact dt_dk (I.hok a _ e)
  obtain⟨q,hq⟩:∃ q,s.heap.get? a=some q:=by obtain⟨_,_,_,_,q,_,_,hq,_⟩:=x;exact⟨q,hq⟩
  have mu:Mut (H a):=by rcases e with e|e<;>rw[e]<;>exact True.intro
  have J:Inv X pins σ (upd H a (.dN [])) s:=d_write (t':=s.toks) I mu (Heap.SameBut.refl a s.heap) ⟨q,hq⟩ (dk_dn x)
  have nt:∀ c ys,H c=some (.tup ys)→upd H a (.dN []) c=some (.tup ys):=fun c ys ec=>by
   rw[upd_ne (by rcases e with e|e<;>exact ne_of ec e (fun z=>nomatch z))];exact ec
  refine d_setN hu J upd_same (let ⟨c,e1,e2⟩:=eb;⟨c,nt _ _ e1,nt _ _ e2⟩) (by decide) ry rv fun s' J'=>h s' ?_
  rw[upd_upd] at J'
  exact J'
end
section
variable{X:Cx}
noncomputable def rInDc(neg:Bool):R2:=fun x y H Q=>∃ a r,y=.ref a∧DGet0 H a x r∧Q (.bl (if neg then !r.isSome else r.isSome)) H
theorem op_inDc(hu:X.A.units+64<cLine):OpR X (compareOp .In) (rInDc false):=by
 intro pins s σ H x y v u Q I rx ry h
 obtain⟨a,r,rfl,g,q⟩:=h
 cases ry
 exact d_in0 (by omega) I g rx fun s' J=>⟨.bl _,H,J,rfl,q⟩
theorem op_notInDc(hu:X.A.units+64<cLine):OpR X (compareOp .NotIn) (rInDc true):=by
 intro pins s σ H x y v u Q I rx ry h
 obtain⟨a,r,rfl,g,q⟩:=h
 cases ry
 exact d_notIn0 (by omega) I g rx fun s' J=>⟨.bl _,H,J,rfl,q⟩
noncomputable def rIxDc:R2:=fun x y H Q=>∃ a v,x=.ref a∧DGetA H a y (some v)∧Q v H
theorem ix_dct(hu:X.A.units+64<cLine):IxR X rIxDc:=by
 intro value slice pins s σ H x y v u Q I rx ry h hs
 obtain⟨a,w',rfl,g,q⟩:=h
 cases rx
 have hT:s.TypeIs (.ref a) "dict" := by
  rcases g with g|⟨kvs,k,b,e,_⟩
  ·exact dict_typeIs I g
  ·obtain⟨_,_,xs,_,o,es,ep,h1,h2,_⟩:=dn_rd I.hok e
   exact⟨o,h1,h2.1⟩
 unfold subscriptTail
 refine wpAny_bind ?_
 rw[getitemInPython_of_ne hT.not_modules]
 refine wpAny_bind (wpAny_specialOf hT PySem.F.slot_dict_getitem.lookup ?_)
 have fin:wpAny (model X.prog X.w) X.A (subscripted slice false (.ref a) u) (fun r s₃=>wpAny (model X.prog X.w) X.A (letTemporaryGo value (.ref a) r >>= fun _=>pure r) (EP X pins σ Q) X.xe s₃) X.xe s:=by
  rw[hs]
  rcases g with g|⟨kvs,k,b,e,rfl,eb,l⟩
  ·exact wpAny_operating (d_getItem (by omega) I g ry fun r s' J rr=>wpAny_bind (wpAny_letTemporaryGo (wpAny_pure ⟨w',H,J,rr,q⟩)))
  ·exact wpAny_operating (d_getN (by omega) I e eb l ry fun r s' J rr=>wpAny_bind (wpAny_letTemporaryGo (wpAny_pure ⟨w',H,J,rr,q⟩)))
 first
  | exact wpAny_pure (wpAny_bind fin)
  | exact wpAny_bind (wpAny_pure (wpAny_bind fin))
  | exact wpAny_bind fin
noncomputable def rSetDc:TSet:=fun o i v H Q=>∃ a H',o=.ref a∧DPut0 H a i v H'∧Q H'
noncomputable def rSetA:TSet:=fun o i v H Q=>rSetL o i v H Q∨rSetDc o i v H Q
theorem set_any(hu:X.A.units+64<cLine):PSet X rSetA:=by
 intro pins s σ H o i v ov iv u Q I ro ri rv h
 rcases h with h|⟨a,H',rfl,g,q⟩
 ·exact set_list pins s σ H o i v ov iv u Q I ro ri rv h
 ·cases ro
  exact d_setItem0 (by omega) I g ri rv fun s' J=>⟨H',J,q⟩
end
section
variable{κ:Type}[DecidableEq κ]{α:Type}[DecidableEq α]
end
section
variable{X:Cx}{K:W.Frag}
noncomputable def anyD(d:PyData)(es:List PyData):Bool:=es.any fun e=>PyData.eqv e d
noncomputable def rInD(K:W.Frag)(neg:Bool):R2:=fun x y H Q=>∃ d es,Rep K H x d∧(Rep K H y (.list es)∨Rep K H y (.tuple es))∧d.canLay0=true∧PyData.canLayAll0 es=true∧d.depth≤32∧Q (.bl (if neg then !anyD d es else anyD d es)) H
theorem op_inD(hK:X.K=K)(hu:X.A.units+64<cLine):OpR X (compareOp .In) (rInD K false):=by
 subst hK
 intro pins s σ H x y v u Q I rx ry h
 obtain⟨d,es,h1,h2,h3,h4,h5,q⟩:=h
 obtain⟨as,k1⟩:=Rep.reads I h3 h1 rx
 rcases h2 with h2|h2
 ·obtain⟨bs,k2⟩:=Rep.reads I (by simpa [PyData.canLay0] using h4) h2 ry
  exact SeqAt.in_list_reads k2 k1 h4 h3 (by omega) ⟨.bl _,H,I,rfl,q⟩
 ·obtain⟨bs,k2⟩:=Rep.reads I (by simpa [PyData.canLay0] using h4) h2 ry
  exact SeqAt.in_tuple_reads k2 k1 h4 h3 (by omega) ⟨.bl _,H,I,rfl,q⟩
theorem op_notInD(hK:X.K=K)(hu:X.A.units+64<cLine):OpR X (compareOp .NotIn) (rInD K true):=by
 subst hK
 intro pins s σ H x y v u Q I rx ry h
 obtain⟨d,es,h1,h2,h3,h4,h5,q⟩:=h
 obtain⟨as,k1⟩:=Rep.reads I h3 h1 rx
 rcases h2 with h2|h2
 ·obtain⟨bs,k2⟩:=Rep.reads I (by simpa [PyData.canLay0] using h4) h2 ry
  exact SeqAt.notIn_list_reads k2 k1 h4 h3 (by omega) ⟨.bl _,H,I,rfl,q⟩
 ·obtain⟨bs,k2⟩:=Rep.reads I (by simpa [PyData.canLay0] using h4) h2 ry
  exact SeqAt.notIn_tuple_reads k2 k1 h4 h3 (by omega) ⟨.bl _,H,I,rfl,q⟩
end
noncomputable def rInS(neg:Bool):R2:=fun x y H Q=>∃ i j,x=.str i∧y=.str j∧Q (.bl (if neg then !(!(Builtin.Str.occurrences j i 0 j.length 1).isEmpty) else !(Builtin.Str.occurrences j i 0 j.length 1).isEmpty)) H
noncomputable def rInA(K:W.Frag)(neg:Bool):R2:=fun x y H Q=>rInD K neg x y H Q∨rInDc neg x y H Q∨rInS neg x y H Q
theorem op_inA{X:Cx}{K:W.Frag}(hK:X.K=K)(hu:X.A.units+64<cLine):OpR X (compareOp .In) (rInA K false):=(op_inD hK hu).or ((op_inDc hu).or op_in_str)
theorem op_notInA{X:Cx}{K:W.Frag}(hK:X.K=K)(hu:X.A.units+64<cLine):OpR X (compareOp .NotIn) (rInA K true):=(op_notInD hK hu).or ((op_notInDc hu).or op_notIn_str)
end L2
end
section
namespace VL
open PySem PySem.Spec L2
inductive AV where
 | d (x:PyData)
 | own (xs:List AV)
 | tup (xs:List AV)
 | dic (kvs:List (PyData×PyData))
 | obj (φ:V→Hp→Prop)
inductive TV where
 | av (a:AV)
 | bor (x:PyData)
 | raw (v:V)
noncomputable abbrev Sl:=List (Option AV)
noncomputable abbrev Fp:=Addr→Nat
mutual
noncomputable def AV.data:AV→PyData
 | .d x=>x
 | .own xs=>.list (AV.datas xs)
 | .tup xs=>.tuple (AV.datas xs)
 | .dic kvs=>.dict kvs
 | .obj _=>dJ
noncomputable def AV.datas:List AV→List PyData
 | []=>[]
 | x::xs=>x.data::AV.datas xs
end
theorem AV.datas_map:∀ xs:List AV,AV.datas xs=xs.map AV.data
 | []=>rfl
 | x::xs=>by rw[AV.datas,AV.datas_map xs];rfl
noncomputable def DicAt(K:W.Frag)(G:Hp)(o:HO)(kvs:List (PyData×PyData)):Prop :=
 (∃ (ks:List (Key×V)) (ds:List PyData),o=.dK ks∧Reps K G (ks.map Prod.snd) ds∧kvs=(ks.map fun p=>keyD p.1).zip ds) ∨
 (∃ (ks:List (List Key×V)) (ds:List PyData),o=.dT ks∧Reps K G (ks.map Prod.snd) ds∧kvs=(ks.map fun p=>PyData.tuple (p.1.map keyD)).zip ds) ∨
 ∃ (ks:List ((Key×List Key)×V)) (ds:List PyData),ks≠[]∧o=.dN ks∧Reps K G (ks.map Prod.snd) ds∧kvs=(ks.map fun p=>PyData.tuple [keyD p.1.1,.tuple (p.1.2.map keyD)]).zip ds
theorem DicAt.mono{K:W.Frag}{G G':Hp}{o:HO}{kvs:List (PyData×PyData)}(h:DicAt K G o kvs)(m:Same G G'):DicAt K G' o kvs:=by
 rcases h with⟨ks,ds,e,r,z⟩|⟨ks,ds,e,r,z⟩|⟨ks,ds,n,e,r,z⟩
 ·exact .inl ⟨ks,ds,e,r.same m,z⟩
 ·exact .inr (.inl ⟨ks,ds,e,r.same m,z⟩)
 ·exact .inr (.inr ⟨ks,ds,n,e,r.same m,z⟩)
theorem DicAt.rep{K:W.Frag}{G:Hp}{o:HO}{kvs:List (PyData×PyData)}{a:Addr}(h:DicAt K G o kvs)(e:G a=some o):Rep K G (.ref a) (.dict kvs):=by
 rcases h with⟨ks,ds,rfl,r,z⟩|⟨ks,ds,rfl,r,z⟩|⟨ks,ds,n,rfl,r,z⟩
 ·exact .dK (.inl e) r z
 ·exact .dT (.inl e) r z
 ·exact .dN n (.inl e) r z
noncomputable def Mu:HO→Prop
 | .lst _=>True
 | .dK _=>True
 | .dT _=>True
 | .dN _=>True
 | _=>False
theorem DicAt.mu{K:W.Frag}{G:Hp}{o:HO}{kvs:List (PyData×PyData)}(h:DicAt K G o kvs):Mu o:=by
 rcases h with⟨ks,ds,rfl,_⟩|⟨ks,ds,rfl,_⟩|⟨ks,ds,_,rfl,_⟩<;>trivial
mutual
inductive RA(K:W.Frag)(G H:Hp):V→AV→Fp→Prop
 | d {v:V} {x:PyData} {p:Fp}:Rep K G v x→(∀ b,p b=0)→RA K G H v (.d x) p
 | own {a:Addr} {vs:List V} {xs:List AV} {p q:Fp}:H a=some (.lst vs)→RAs K G H vs xs p→(∀ b,q b=(if b=a then 1 else 0)+p b)→RA K G H (.ref a) (.own xs) q
 | tup {a:Addr} {vs:List V} {xs:List AV} {p:Fp}:G a=some (.tup vs)→RAs K G H vs xs p→RA K G H (.ref a) (.tup xs) p
 | dic {a:Addr} {o:HO} {kvs:List (PyData×PyData)} {q:Fp}:H a=some o→DicAt K G o kvs→(∀ b,q b=if b=a then 1 else 0)→RA K G H (.ref a) (.dic kvs) q
 | obj {v:V} {φ:V→Hp→Prop} {p:Fp}:φ v G→(∀ G1 G2:Hp,Same G1 G2→φ v G1→φ v G2)→(∀ b,p b=0)→RA K G H v (.obj φ) p
inductive RAs(K:W.Frag)(G H:Hp):List V→List AV→Fp→Prop
 | nil {p:Fp}:(∀ b,p b=0)→RAs K G H [] [] p
 | cons {v:V} {x:AV} {vs:List V} {xs:List AV} {p q r:Fp}:RA K G H v x p→RAs K G H vs xs q→(∀ b,r b=p b+q b)→RAs K G H (v::vs) (x::xs) r
end
theorem RA.ind{K:W.Frag}{G H:Hp}{M:V→AV→Fp→Prop}{N:List V→List AV→Fp→Prop}(h1:∀ {v x p},Rep K G v x→(∀ b,p b=0)→M v (.d x) p)(h2:∀ {a vs xs p q},H a=some (.lst vs)→N vs xs p→(∀ b,q b=(if b=a then 1 else 0)+p b)→M (.ref a) (.own xs) q)
  (h3:∀ {a vs xs p},G a=some (.tup vs)→N vs xs p→M (.ref a) (.tup xs) p) (h4:∀ {a o kvs q},H a=some o→DicAt K G o kvs→(∀ b,q b=if b=a then 1 else 0)→M (.ref a) (.dic kvs) q) (h5:∀ {v φ p},φ v G→(∀ G1 G2:Hp,Same G1 G2→φ v G1→φ v G2)→(∀ b,p b=0)→M v (.obj φ) p)
  (n:∀ {p},(∀ b,p b=0)→N [] [] p) (c:∀ {v x vs xs p q r},M v x p→N vs xs q→(∀ b,r b=p b+q b)→N (v::vs) (x::xs) r):(∀ {v a p},RA K G H v a p→M v a p)∧∀ {vs xs p},RAs K G H vs xs p→N vs xs p :=
 ⟨fun h=>RA.rec (motive_1:=fun v a p _=>M v a p) (motive_2:=fun v a p _=>N v a p) h1 (fun h _ e i=>h2 h i e) (fun h _ i=>h3 h i) h4 h5 n (fun _ _ e i j=>c i j e) h,fun h=>RAs.rec (motive_1:=fun v a p _=>M v a p) (motive_2:=fun v a p _=>N v a p) h1 (fun h _ e i=>h2 h i e) (fun h _ i=>h3 h i) h4 h5 n (fun _ _ e i j=>c i j e) h⟩
inductive RSl(K:W.Frag)(G H:Hp):St→Sl→Fp→Prop
 | nil {p:Fp}:(∀ b,p b=0)→RSl K G H [] [] p
 | no {o:Option V} {σ:St} {ρ:Sl} {p:Fp}:RSl K G H σ ρ p→RSl K G H (o::σ) (none::ρ) p
 | so {v:V} {a:AV} {σ:St} {ρ:Sl} {p q r:Fp}:RA K G H v a p→RSl K G H σ ρ q→(∀ b,r b=p b+q b)→RSl K G H (some v::σ) (some a::ρ) r
inductive RT(K:W.Frag)(G H:Hp):V→TV→Fp→Prop
 | av {v:V} {a:AV} {p:Fp}:RA K G H v a p→RT K G H v (.av a) p
 | bor {v:V} {x:PyData} {p:Fp}:Rep K H v x→(∀ b,p b=0)→RT K G H v (.bor x) p
 | raw {v:V} {p:Fp}:(∀ b,p b=0)→RT K G H v (.raw v) p
inductive RTs(K:W.Frag)(G H:Hp):List V→List TV→Fp→Prop
 | nil {p:Fp}:(∀ b,p b=0)→RTs K G H [] [] p
 | cons {v:V} {x:TV} {vs:List V} {xs:List TV} {p q r:Fp}:RT K G H v x p→RTs K G H vs xs q→(∀ b,r b=p b+q b)→RTs K G H (v::vs) (x::xs) r
noncomputable def hid(H:Hp)(p q:Fp):Hp:=fun b=>if p b+q b=0 then H b else none
structure SR(K:W.Frag)(H0:Hp)(σ:St)(ρ:Sl)(ts:List V)(as:List TV)(H:Hp):Prop where
 ex:∃ p q,RSl K (hid H p q) H σ ρ p∧RTs K (hid H p q) H ts as q∧(∀ b,p b+q b≤1)∧∀ b,0<p b+q b→H0 b=none
 same:Same H0 H
section
variable{K:W.Frag}{G G' H H' H0:Hp}{σ:St}{ρ:Sl}{ts:List V}{as:List TV}
theorem RA.monoB(hG:Same G G'):(∀ {v:V} {a:AV} {p:Fp},RA K G H v a p→(∀ b o,0<p b→H b=some o→H' b=some o)→RA K G' H' v a p)∧∀ {vs:List V} {xs:List AV} {p:Fp},RAs K G H vs xs p→(∀ b o,0<p b→H b=some o→H' b=some o)→RAs K G' H' vs xs p :=
 RA.ind (M:=fun v a p=>(∀ b o,0<p b→H b=some o→H' b=some o)→RA K G' H' v a p) (N:=fun vs xs p=>(∀ b o,0<p b→H b=some o→H' b=some o)→RAs K G' H' vs xs p) (fun r e _=>.d (r.same hG) e) (fun {a _ _ _ _} h i e hH=>.own (hH a _ (by have:=e a;simp at this;omega) h) (i fun b o z=>hH b o (by have:=e b;omega)) e)
  (fun h i hH=>.tup (hG _ _ h) (i hH)) (fun {a _ _ _} h d e hH=>.dic (hH a _ (by have:=e a;simp at this;omega) h) (d.mono hG) e) (fun h m e _=>.obj (m _ _ hG h) m e) (fun e _=>.nil e) fun i j e hH=>.cons (i fun b o z=>hH b o (by have:=e b;omega)) (j fun b o z=>hH b o (by have:=e b;omega)) e
theorem RA.mono(hG:Same G G'){v:V}{a:AV}{p:Fp}(hH:∀ b o,0<p b→H b=some o→H' b=some o)(h:RA K G H v a p):RA K G' H' v a p:=(RA.monoB hG).1 h hH
theorem RAs.mono(hG:Same G G'){vs:List V}{xs:List AV}{p:Fp}(hH:∀ b o,0<p b→H b=some o→H' b=some o)(h:RAs K G H vs xs p):RAs K G' H' vs xs p:=(RA.monoB hG).2 h hH
theorem RA.lstB:(∀ {v:V} {a:AV} {p:Fp},RA K G H v a p→∀ b,0<p b→∃ o,H b=some o∧Mu o)∧∀ {vs:List V} {xs:List AV} {p:Fp},RAs K G H vs xs p→∀ b,0<p b→∃ o,H b=some o∧Mu o:=by
 refine RA.ind (M:=fun v a p=>∀ b,0<p b→∃ o,H b=some o∧Mu o) (N:=fun vs xs p=>∀ b,0<p b→∃ o,H b=some o∧Mu o) (fun r e b z=>absurd (e b) (Nat.ne_of_gt z)) (fun {a vs xs p q} h i e b z=>?_) (fun h i b z=>i b z) (fun {a o kvs q} h d e b z=>?_) (fun _ _ e b z=>absurd (e b) (Nat.ne_of_gt z)) (fun e b z=>absurd (e b) (Nat.ne_of_gt z)) fun {v x vs xs p q r} i j e b z=>?_
 ·by_cases hb:b=a
  ·subst hb;exact⟨_,h,trivial⟩
  ·exact i b (by have:=e b;simp[hb] at this;omega)
 ·by_cases hb:b=a
  ·subst hb;exact⟨_,h,d.mu⟩
  ·have:=e b;simp[hb] at this;omega
 ·have:=e b
  rcases Nat.eq_zero_or_pos (p b) with h|h
  ·exact j b (by omega)
  ·exact i b h
theorem RA.lst{v:V}{a:AV}{p:Fp}(h:RA K G H v a p):∀ b,0<p b→∃ o,H b=some o∧Mu o:=RA.lstB.1 h
theorem RAs.lst{vs:List V}{xs:List AV}{p:Fp}(h:RAs K G H vs xs p):∀ b,0<p b→∃ o,H b=some o∧Mu o:=RA.lstB.2 h
theorem RSl.mono(hG:Same G G'){p:Fp}(r:RSl K G H σ ρ p):(∀ b o,0<p b→H b=some o→H' b=some o)→RSl K G' H' σ ρ p:=by
 induction r with
 | nil e=>exact fun _=>.nil e
 | no _ ih=>exact fun h=>.no (ih h)
 | so r _ e ih=>exact fun h=>.so (r.mono hG (fun b o z=>h b o (by have:=e b;omega))) (ih fun b o z=>h b o (by have:=e b;omega)) e
theorem RSl.lst{p:Fp}(r:RSl K G H σ ρ p):∀ b,0<p b→∃ o,H b=some o∧Mu o:=by
 induction r with
 | nil e=>intro b z;have:=e b;omega
 | no _ ih=>exact ih
 | @so v a σ ρ p1 q1 r1 r _ e ih =>
  intro b z
  have:=e b
  rcases Nat.eq_zero_or_pos (p1 b) with h|h
  ·exact ih b (by omega)
  ·exact r.lst b h
theorem RT.mono{v:V}{a:TV}{p:Fp}(hG:Same G G')(hH:Same H H')(r:RT K G H v a p):RT K G' H' v a p:=by
 cases r with
 | av r=>exact .av (r.mono hG fun b o _=>hH b o)
 | bor r e=>exact .bor (r.same hH) e
 | raw e=>exact .raw e
theorem RT.lst{v:V}{a:TV}{p:Fp}(r:RT K G H v a p):∀ b,0<p b→∃ o,H b=some o∧Mu o:=by
 cases r with
 | av r=>exact r.lst
 | bor r e=>intro b z;have:=e b;omega
 | raw e=>intro b z;have:=e b;omega
theorem RTs.mono{p:Fp}(hG:Same G G')(hH:Same H H')(r:RTs K G H ts as p):RTs K G' H' ts as p:=by
 induction r with
 | nil e=>exact .nil e
 | cons r _ e ih=>exact .cons (r.mono hG hH) ih e
theorem RTs.lst{p:Fp}(r:RTs K G H ts as p):∀ b,0<p b→∃ o,H b=some o∧Mu o:=by
 induction r with
 | nil e=>intro b z;have:=e b;omega
 | @cons v x vs xs p1 q1 r1 r _ e ih =>
  intro b z
  have:=e b
  rcases Nat.eq_zero_or_pos (p1 b) with h|h
  ·exact ih b (by omega)
  ·exact r.lst b h
noncomputable def Stb(as:List TV):Prop:=∀ a∈as,∃ x,a=.av (.d x)
theorem Stb.nil:Stb []:=fun _ h=>nomatch h
theorem Stb.cons{x:PyData}(h:Stb as):Stb (.av (.d x)::as):=fun b hb=>by
 rcases List.mem_cons.mp hb with e|e
 ·exact⟨x,e⟩
 ·exact h b e
theorem RTs.monoS{p:Fp}(hG:Same G G')(r:RTs K G H ts as p):Stb as→(∀ b o,0<p b→H b=some o→H' b=some o)→RTs K G' H' ts as p:=by
 induction r with
 | nil e=>exact fun _ _=>.nil e
 | cons r _ e ih =>
  intro hS hH
  refine .cons ?_ (ih (fun a ha=>hS a (.tail _ ha)) fun b o z=>hH b o (by have:=e b;omega)) e
  cases r with
  | av r=>exact .av (r.mono hG fun b o z=>hH b o (by have:=e b;omega))
  | bor _ _=>obtain⟨x,e⟩:=hS _ (.head _);cases e
  | raw e=>exact .raw e
theorem same_hid{p q:Fp}(h:Same H H'):Same (hid H p q) (hid H' p q):=fun b o e=>by
 unfold hid at e ⊢
 split at e
 ·rename_i z;rw[if_pos z];exact h b o e
 ·cases e
theorem hid_le{p q:Fp}:Same (hid H p q) H:=fun b o e=>by
 unfold hid at e
 split at e
 ·exact e
 ·cases e
theorem hid_more{p q p' q':Fp}(h:∀ b,p b+q b=0→p' b+q' b=0):Same (hid H p q) (hid H p' q'):=fun b o e=>by
 unfold hid at e ⊢
 split at e
 ·rename_i z;rw[if_pos (h b z)];exact e
 ·cases e
theorem hid_eq{p q p' q':Fp}(h:∀ b,p b+q b=p' b+q' b):hid H p q=hid H p' q':=by
 funext b;unfold hid;rw[h b]
theorem SR.ext(h:SR K H0 σ ρ ts as H)(e:Same H H'):SR K H0 σ ρ ts as H':=by
 obtain⟨⟨p,q,h1,h2,h3,h4⟩,s⟩:=h
 exact⟨⟨p,q,h1.mono (same_hid e) (fun b o _=>e b o),h2.mono (same_hid e) e,h3,h4⟩,s.trans e⟩
theorem tup_hid{p q:Fp}{a:Addr}{xs:List V}(hl:∀ b,0<p b+q b→∃ o,H b=some o∧Mu o)(h:H a=some (.tup xs)):VL.hid H p q a=some (.tup xs):=by
 unfold VL.hid
 rw[if_pos]
 ·exact h
 ·rcases Nat.eq_zero_or_pos (p a+q a) with z|z
  ·exact z
  ·obtain⟨vs,e,mu⟩:=hl a z;rw[h] at e;cases e;exact mu.elim
theorem Rep.hidB{p q:Fp}(hl:∀ b,0<p b+q b→∃ o,H b=some o∧Mu o):(∀ {v:V} {x:PyData},Rep K H v x→noLst x=true→Rep K (VL.hid H p q) v x)∧∀ {vs:List V} {xs:List PyData},Reps K H vs xs→noLsts xs=true→Reps K (VL.hid H p q) vs xs :=
 Rep.indF (M:=fun v x=>noLst x=true→Rep K (VL.hid H p q) v x) (N:=fun vs xs=>noLsts xs=true→Reps K (VL.hid H p q) vs xs) (fun _=>.non) (fun b _=>.bl b) (fun i _=>.int i) (fun x _=>.str x) (fun _ _ hn=>by simp[noLst] at hn) (fun h i hn=>.tup (tup_hid hl h) (i (by simpa [noLst] using hn))) (fun _ _ hn=>by simp[noLst] at hn) (fun _=>.nil) fun i j hn=>by
  simp only[noLsts,Bool.and_eq_true] at hn
  exact .cons (i hn.1) (j hn.2)
theorem Rep.hid{p q:Fp}(hl:∀ b,0<p b+q b→∃ o,H b=some o∧Mu o){v:V}{x:PyData}(hn:noLst x=true)(h:Rep K H v x):Rep K (VL.hid H p q) v x:=(Rep.hidB hl).1 h hn
theorem Reps.hid{p q:Fp}(hl:∀ b,0<p b+q b→∃ o,H b=some o∧Mu o){vs:List V}{xs:List PyData}(hn:noLsts xs=true)(h:Reps K H vs xs):Reps K (VL.hid H p q) vs xs:=(Rep.hidB hl).2 h hn
theorem RA.frzB(hG:Same G G'):(∀ {v:V} {a:AV} {p:Fp},RA K G H v a p→(∀ b o,0<p b→H b=some o→G' b=some o)→Rep K G' v a.data)∧∀ {vs:List V} {xs:List AV} {p:Fp},RAs K G H vs xs p→(∀ b o,0<p b→H b=some o→G' b=some o)→Reps K G' vs (AV.datas xs) :=
 RA.ind (M:=fun v a p=>(∀ b o,0<p b→H b=some o→G' b=some o)→Rep K G' v a.data) (N:=fun vs xs p=>(∀ b o,0<p b→H b=some o→G' b=some o)→Reps K G' vs (AV.datas xs)) (fun r _ _=>r.same hG) (fun {a _ _ _ _} e i z h=>.lst (SqL.of (h a _ (by have:=z a;simp at this;omega) e)) (i fun b o y=>h b o (by have:=z b;omega)))
  (fun e i h=>.tup (hG _ _ e) (i h)) (fun {a _ _ _} e d z h=>(d.mono hG).rep (h a _ (by have:=z a;simp at this;omega) e)) (fun _ _ _ _=>.junk) (fun _ _=>.nil) fun i j z h=>.cons (i fun b o y=>h b o (by have:=z b;omega)) (j fun b o y=>h b o (by have:=z b;omega))
theorem RA.frz(hG:Same G G'){v:V}{a:AV}{p:Fp}(hH:∀ b o,0<p b→H b=some o→G' b=some o)(h:RA K G H v a p):Rep K G' v a.data:=(RA.frzB hG).1 h hH
theorem RAs.frz(hG:Same G G'){vs:List V}{xs:List AV}{p:Fp}(hH:∀ b o,0<p b→H b=some o→G' b=some o)(h:RAs K G H vs xs p):Reps K G' vs (AV.datas xs):=(RA.frzB hG).2 h hH
theorem RA.rep(hG:Same G H){v:V}{a:AV}{p:Fp}(h:RA K G H v a p):Rep K H v a.data:=h.frz hG fun _ _ _ z=>z
theorem RAs.rep(hG:Same G H){vs:List V}{xs:List AV}{p:Fp}(h:RAs K G H vs xs p):Reps K H vs (AV.datas xs):=h.frz hG fun _ _ _ z=>z
noncomputable def TV.data:TV→PyData
 | .av a=>a.data
 | .bor x=>x
 | .raw _=>.none
theorem RT.rep{v:V}{a:TV}{p:Fp}(hG:Same G H)(hr:∀ v,a≠.raw v)(r:RT K G H v a p):Rep K H v a.data:=by
 cases r with
 | av r=>exact r.rep hG
 | bor r _=>exact r
 | raw _=>exact absurd rfl (hr _)
end
end VL
end
section
namespace VL
open PySem PySem.Spec L2
structure Exc where
 cls:Addr
 fs:List (Str×PyData):=[]
noncomputable def XRep(K:W.Frag)(H:Hp)(e:Exc)(c:Value)(d:Option Addr):Prop :=
 c=.ref e.cls∧((e.fs=[]∧d=none)∨∃ a vs,d=some a∧H a=some (hXD a vs)∧vs.map Prod.fst=e.fs.map Prod.fst∧Reps K H (vs.map Prod.snd) (e.fs.map Prod.snd))
class Tabs where
 ts:List (Addr×(Nat→Nat→Str))
variable[Tabs]
noncomputable def TabsIn(H:Hp):Prop:=∀ p∈Tabs.ts,H p.1=some (.tbq p.2)
theorem TabsIn.same{H H':Hp}(t:TabsIn H)(s:Same H H'):TabsIn H':=fun p hp=>s _ _ (t p hp)
structure XOk(K:W.Frag)(E:FK)(X:Exc→Sl→Prop)(H0:Hp):Prop where
 x:∀ e ρ,X e ρ→∀ c d σ H',SR K H0 σ ρ [] [] H'→XRep K H' e c d→E c d σ H'
 t:TabsIn H0
noncomputable def NE:Exc→Sl→Prop:=fun _ _=>False
theorem XOk.ne{K:W.Frag}{E:FK}{H0:Hp}(t:TabsIn H0):XOk K E NE H0:=⟨fun _ _ z=>z.elim,t⟩
structure VEnds where
 nx:Sl→Prop
 rt:TV→Prop
 bk:Sl→Prop:=fun _=>False
 ct:Sl→Prop:=fun _=>False
structure Fit(K:W.Frag)(H0:Hp)(ts:List V)(as:List TV)(DV:VEnds)(D:Ends):Prop where
 nx:∀ ρ,DV.nx ρ→∀ σ H,SR K H0 σ ρ ts as H→D.nx σ H
 bk:∀ ρ,DV.bk ρ→∀ σ H,SR K H0 σ ρ ts as H→D.bk σ H
 ct:∀ ρ,DV.ct ρ→∀ σ H,SR K H0 σ ρ ts as H→D.ct σ H
 rt:∀ a,DV.rt a→∀ v σ ρ H,SR K H0 σ ρ (v::ts) (a::as) H→D.rt v H
noncomputable def TV.sto:TV→Option AV
 | .av a=>some a
 | .bor x=>if noLst x=true then some (.d x) else none
 | .raw _=>none
section
variable(K:W.Frag)(E:FK)(X:Exc→Sl→Prop)
noncomputable def Ev(t:TE)(ρ:Sl)(Q:TV→Prop):Prop :=
 ∀ (H0:Hp) (σ:St) (ts:List V) (as:List TV) (H:Hp) (QV:VK),SR K H0 σ ρ ts as H→XOk K E X H0→(∀ a,Q a→∀ v H',SR K H0 σ ρ (v::ts) (a::as) H'→QV v H')→t σ H QV
noncomputable def Tv(t:TT)(ρ:Sl)(Q:Bool→Prop):Prop :=
 ∀ (H0:Hp) (σ:St) (ts:List V) (as:List TV) (H:Hp) (QV:Bool→Hp→Prop),SR K H0 σ ρ ts as H→XOk K E X H0→(∀ b,Q b→∀ H',SR K H0 σ ρ ts as H'→QV b H')→t σ H QV
noncomputable def Ea(t:TA)(ρ:Sl)(Q:List TV→Prop):Prop :=
 ∀ (H0:Hp) (σ:St) (ts:List V) (as:List TV) (H:Hp) (QV:List V→Hp→Prop),SR K H0 σ ρ ts as H→XOk K E X H0→(∀ bs,Q bs→∀ vs H',SR K H0 σ ρ (vs++ts) (bs++as) H'→vs.length=bs.length→QV vs H')→t σ H QV
noncomputable def Op(r:R2)(a b:TV)(Q:TV→Prop):Prop :=
 ∀ (H0:Hp) (σ:St) (ρ:Sl) (ts:List V) (as:List TV) (H:Hp) (x y:V) (QV:VK),SR K H0 σ ρ (y::x::ts) (b::a::as) H→XOk K E X H0→(∀ c,Q c→∀ v H',SR K H0 σ ρ (v::ts) (c::as) H'→QV v H')→r x y H QV
noncomputable def Un1(r:V→Hp→VK→Prop)(a:TV)(Q:TV→Prop):Prop :=
 ∀ (H0:Hp) (σ:St) (ρ:Sl) (ts:List V) (as:List TV) (H:Hp) (x:V) (QV:VK),SR K H0 σ ρ (x::ts) (a::as) H→XOk K E X H0→(∀ c,Q c→∀ v H',SR K H0 σ ρ (v::ts) (c::as) H'→QV v H')→r x H QV
noncomputable def Bi(r:List V→Hp→VK→Prop)(bs:List TV)(Q:TV→Prop):Prop :=
 ∀ (H0:Hp) (σ:St) (ρ:Sl) (ts:List V) (as:List TV) (H:Hp) (vs:List V) (QV:VK),SR K H0 σ ρ (vs++ts) (bs++as) H→vs.length=bs.length→XOk K E X H0→(∀ c,Q c→∀ v H',SR K H0 σ ρ (v::ts) (c::as) H'→QV v H')→r vs H QV
noncomputable def Sv(t:TS)(ρ:Sl)(DV:VEnds):Prop :=
 ∀ (H0:Hp) (σ:St) (ts:List V) (as:List TV) (H:Hp) (D:Ends),Stb as→SR K H0 σ ρ ts as H→XOk K E X H0→Fit K H0 ts as DV D→t D σ H
end
section
variable{K:W.Frag}{G G' H H' H0:Hp}{σ:St}{ρ:Sl}{ts:List V}{as:List TV}{v x y:V}{a b:TV}
theorem SR.top(h:SR K H0 σ ρ (v::ts) (a::as) H)(hr:∀ v,a≠.raw v):Rep K H v a.data:=by
 obtain⟨⟨p,q,_,h2,_⟩,_⟩:=h
 cases h2 with
 | cons r _ _=>exact r.rep hid_le hr
theorem SR.top_d{x:PyData}(h:SR K H0 σ ρ (v::ts) (.av (.d x)::as) H):Rep K H v x:=h.top (a:=.av (.d x)) (fun _ z=>nomatch z)
theorem SR.raw{u:V}(h:SR K H0 σ ρ (v::ts) (.raw u::as) H):v=u:=by
 obtain⟨⟨p,q,_,h2,_⟩,_⟩:=h
 cases h2 with
 | cons r _ _=>cases r;rfl
theorem SR.pop(h:SR K H0 σ ρ (v::ts) (a::as) H):SR K H0 σ ρ ts as H:=by
 obtain⟨⟨p,q,h1,h2,h3,h4⟩,s⟩:=h
 cases h2 with
 | @cons _ _ _ _ p1 q1 _ r rs e =>
  refine⟨⟨p,q1,h1.mono (hid_more fun b z=>by have:=e b;omega) (fun _ _ _ z=>z),rs.mono (hid_more fun b z=>by have:=e b;omega) (fun _ _ z=>z),fun b=>by have:=e b;have:=h3 b;omega,fun b z=>h4 b (by have:=e b;omega)⟩,s⟩
theorem SR.push(h:SR K H0 σ ρ ts as H){x:PyData}(r:∀ G,Rep K G v x):SR K H0 σ ρ (v::ts) (.av (.d x)::as) H:=by
 obtain⟨⟨p,q,h1,h2,h3,h4⟩,s⟩:=h
 exact⟨⟨p,q,h1,.cons (.av (.d (p:=fun _=>0) (r _) fun _=>rfl)) h2 (fun b=>by simp),h3,h4⟩,s⟩
theorem SR.pushB(h:SR K H0 σ ρ ts as H){x:PyData}(r:Rep K H v x):SR K H0 σ ρ (v::ts) (.bor x::as) H:=by
 obtain⟨⟨p,q,h1,h2,h3,h4⟩,s⟩:=h
 exact⟨⟨p,q,h1,.cons (.bor (p:=fun _=>0) r fun _=>rfl) h2 (fun b=>by simp),h3,h4⟩,s⟩
theorem SR.pushR(h:SR K H0 σ ρ ts as H):SR K H0 σ ρ (v::ts) (.raw v::as) H:=by
 obtain⟨⟨p,q,h1,h2,h3,h4⟩,s⟩:=h
 exact⟨⟨p,q,h1,.cons (.raw (p:=fun _=>0) fun _=>rfl) h2 (fun b=>by simp),h3,h4⟩,s⟩
theorem SR.lsts{p q:Fp}(h1:RSl K G H σ ρ p)(h2:RTs K G H ts as q):∀ b,0<p b+q b→∃ o,H b=some o∧Mu o:=fun b z=>by
 rcases Nat.eq_zero_or_pos (p b) with e|e
 ·exact h2.lst b (by omega)
 ·exact h1.lst b e
theorem SR.pushF(h:SR K H0 σ ρ ts as H){x:PyData}(hx:noLst x=true)(r:Rep K H v x):SR K H0 σ ρ (v::ts) (.av (.d x)::as) H:=by
 obtain⟨⟨p,q,h1,h2,h3,h4⟩,s⟩:=h
 exact⟨⟨p,q,h1,.cons (.av (.d (p:=fun _=>0) (Rep.hid (SR.lsts h1 h2) hx r) fun _=>rfl)) h2 (fun b=>by simp),h3,h4⟩,s⟩
theorem SR.int(h:SR K H0 σ ρ ts as H)(i:Int):SR K H0 σ ρ (.int i::ts) (.av (.d (.int i))::as) H:=h.push fun _=>.int i
theorem SR.bl(h:SR K H0 σ ρ ts as H)(i:Bool):SR K H0 σ ρ (.bl i::ts) (.av (.d (.bool i))::as) H:=h.push fun _=>.bl i
theorem SR.sto{a':AV}(h:SR K H0 σ ρ (v::ts) (a::as) H)(e:a.sto=some a'):SR K H0 σ ρ (v::ts) (.av a'::as) H:=by
 cases a with
 | av a=>cases e;exact h
 | raw u=>cases e
 | bor x =>
  unfold TV.sto at e
  by_cases z:noLst x=true
  ·simp only[z,if_true,Option.some.injEq] at e
   subst e
   exact h.pop.pushF z (h.top (a:=.bor x) fun _ z=>nomatch z)
  ·simp[z] at e
theorem SR.frzT{a:AV}(h:SR K H0 σ ρ (v::ts) (.av a::as) H):SR K H0 σ ρ (v::ts) (.av (.d a.data)::as) H:=by
 obtain⟨⟨p,q,h1,h2,h3,h4⟩,s⟩:=h
 cases h2 with
 | @cons _ _ _ _ p1 q1 _ r rs e =>
  cases r with
  | av r =>
   have m:Same (hid H p q) (hid H p q1):=hid_more fun b z=>by have:=e b;omega
   refine⟨⟨p,q1,h1.mono m (fun _ _ _ z=>z),.cons (.av (.d (p:=fun _=>0) (r.frz m fun b o y z=>?_) fun _=>rfl)) (rs.mono m fun _ _ z=>z) (fun b=>by simp),fun b=>by have:=e b;have:=h3 b;omega,fun b z=>h4 b (by have:=e b;omega)⟩,s⟩
   unfold hid
   rw[if_pos (by have:=e b;have:=h3 b;omega)]
   exact z
theorem RSl.frz{i:Nat}{a:AV}{p:Fp}{ρ:Sl}{σ:St}(r:RSl K G H σ ρ p)(hi:ρ[i]?=some (some a))(hp:∀ b o,0<p b→H b=some o→True) :
  ∃ (p1 p2:Fp) (v:V),(∀ b,p b=p1 b+p2 b)∧σ[i]?=some (some v)∧RA K G H v a p1∧∀ (G' H':Hp) (v':V) (a':AV) (p1' r':Fp),Same G G'→(∀ b o,0<p2 b→H b=some o→H' b=some o)→RA K G' H' v' a' p1'→(∀ b,r' b=p1' b+p2 b)→RSl K G' H' (σ.set i (some v')) (ρ.set i (some a')) r':=by
 induction r generalizing i with
 | nil _=>simp at hi
 | @no o σ ρ p r ih =>
  cases i with
  | zero=>simp at hi
  | succ i =>
   obtain⟨p1,p2,v,e1,e2,e3,e4⟩:=ih (by simpa using hi) (fun _ _ _ _=>trivial)
   exact⟨p1,p2,v,e1,by simpa using e2,e3,fun G' H' v' a' p1' r' m n ra z=>.no (e4 G' H' v' a' p1' r' m n ra z)⟩
 | @so v a0 σ ρ pa pb pr ra r e ih =>
  cases i with
  | zero =>
   have:a0=a:=by simpa using hi
   subst this
   exact⟨pa,pb,v,e,rfl,ra,fun G' H' v' a' p1' r' m n ra' z=>.so ra' (r.mono m n) z⟩
  | succ i =>
   obtain⟨p1,p2,w,e1,e2,e3,e4⟩:=ih (by simpa using hi) (fun _ _ _ _=>trivial)
   refine⟨p1,fun b=>pa b+p2 b,w,fun b=>by have:=e b;have:=e1 b;dsimp only;omega,by simpa using e2,e3,fun G' H' v' a' p1' r' m n ra' z=>?_⟩
   exact .so (ra.mono m fun b o y=>n b o (by dsimp only;omega)) (e4 G' H' v' a' p1' (fun b=>p1' b+p2 b) m (fun b o y=>n b o (by dsimp only;omega)) ra' fun _=>rfl) (fun b=>by have:=z b;dsimp only at this ⊢;omega)
theorem set_same{α:Type}:∀ {l:List α} {i:Nat} {x:α},l[i]?=some x→l.set i x=l
 | [],_,_,h=>by simp at h
 | y::l,0,x,h=>by simp at h;simp[h]
 | y::l,i+1,x,h=>by simp at h;simp[set_same h]
theorem RSl.len{p:Fp}(r:RSl K G H σ ρ p):σ.length=ρ.length:=by
 induction r with
 | nil _=>rfl
 | no _ ih=>simp[ih]
 | so _ _ _ ih=>simp[ih]
theorem RSl.set{i:Nat}{w:V}{a:AV}{p p1:Fp}(r:RSl K G H σ ρ p)(hi:i<ρ.length)(ra:RA K G H w a p1):∃ p2:Fp,(∀ b,p2 b≤p b)∧RSl K G H (σ.set i (some w)) (ρ.set i (some a)) (fun b=>p1 b+p2 b):=by
 induction r generalizing i with
 | nil _=>simp at hi
 | @no o σ ρ p r ih =>
  cases i with
  | zero=>exact⟨p,fun _=>Nat.le_refl _,.so ra r fun _=>rfl⟩
  | succ i =>
   obtain⟨p2,e1,e2⟩:=ih (by simpa using hi)
   exact⟨p2,e1,.no e2⟩
 | @so v a0 σ ρ pa pb pr ra0 r e ih =>
  cases i with
  | zero=>exact⟨pb,fun b=>by have:=e b;omega,.so ra r fun _=>rfl⟩
  | succ i =>
   obtain⟨p2,e1,e2⟩:=ih (by simpa using hi)
   exact⟨fun b=>pa b+p2 b,fun b=>by have:=e b;have:=e1 b;dsimp only;omega,.so ra0 e2 fun b=>by dsimp only;omega⟩
theorem SR.of_le{p p' q q':Fp}(s:Same H0 H)(h3:∀ b,p b+q b≤1)(h4:∀ b,0<p b+q b→H0 b=none)(hp:∀ b,p' b+q' b≤p b+q b)(h1:RSl K (hid H p q) H σ ρ p')(h2:RTs K (hid H p q) H ts as q'):SR K H0 σ ρ ts as H :=
 ⟨⟨p',q',h1.mono (hid_more fun b z=>by have:=hp b;omega) (fun _ _ _ z=>z),h2.mono (hid_more fun b z=>by have:=hp b;omega) (fun _ _ z=>z),fun b=>by have:=hp b;have:=h3 b;omega,fun b z=>h4 b (by have:=hp b;omega)⟩,s⟩
theorem SR.store{i:Nat}{a:AV}(h:SR K H0 σ ρ (v::ts) (.av a::as) H)(hi:i<ρ.length):SR K H0 (σ.set i (some v)) (ρ.set i (some a)) ts as H:=by
 obtain⟨⟨p,q,h1,h2,h3,h4⟩,s⟩:=h
 cases h2 with
 | @cons _ _ _ _ p1 q1 _ r rs e =>
  cases r with
  | av r =>
   obtain⟨p2,e1,e2⟩:=h1.set hi r
   refine SR.of_le (p:=p) (q:=q) (p':=fun b=>p1 b+p2 b) (q':=q1) s h3 h4 (fun b=>?_) e2 rs
   have:=e b;have:=e1 b;omega
theorem RSl.drop{i:Nat}{o:Option V}{p:Fp}(r:RSl K G H σ ρ p):∃ p2:Fp,(∀ b,p2 b≤p b)∧RSl K G H (σ.set i o) (ρ.set i none) p2:=by
 induction r generalizing i with
 | nil e=>exact⟨_,fun _=>Nat.le_refl _,by simpa using .nil e⟩
 | @no o σ ρ p r ih =>
  cases i with
  | zero=>exact⟨p,fun _=>Nat.le_refl _,.no r⟩
  | succ i=>obtain⟨p2,e1,e2⟩:=ih (i:=i);exact⟨p2,e1,.no e2⟩
 | @so v a0 σ ρ pa pb pr ra0 r e ih =>
  cases i with
  | zero=>exact⟨pb,fun b=>by have:=e b;omega,.no r⟩
  | succ i =>
   obtain⟨p2,e1,e2⟩:=ih (i:=i)
   exact⟨fun b=>pa b+p2 b,fun b=>by have:=e b;have:=e1 b;dsimp only;omega,.so ra0 e2 fun b=>rfl⟩
theorem SR.drop{i:Nat}(h:SR K H0 σ ρ ts as H):SR K H0 σ (ρ.set i none) ts as H:=by
 obtain⟨⟨p,q,h1,h2,h3,h4⟩,s⟩:=h
 by_cases hi:i<σ.length
 ·obtain⟨p2,e1,e2⟩:=h1.drop (i:=i) (o:=σ[i])
  rw[set_same (List.getElem?_eq_getElem hi)] at e2
  exact SR.of_le (p:=p) (q:=q) (p':=p2) (q':=q) s h3 h4 (fun b=>by have:=e1 b;omega) e2 h2
 ·have:ρ.set i none=ρ:=List.set_eq_of_length_le (by rw[← h1.len];omega)
  rw[this]
  exact⟨⟨p,q,h1,h2,h3,h4⟩,s⟩
theorem RTs.swap{u w:V}{p:Fp}(r:RTs K G H (u::w::ts) (a::b::as) p):RTs K G H (w::u::ts) (b::a::as) p:=by
 cases r with
 | cons r1 rs e1=>cases rs with
  | cons r2 rs e2=>exact .cons r2 (.cons r1 rs fun _=>rfl) (fun c=>by have:=e1 c;have:=e2 c;omega)
theorem RTs.rot{u:V}:∀ {vs:List V} {bs:List TV} {p:Fp},vs.length=bs.length→RTs K G H (vs++u::ts) (bs++a::as) p→RTs K G H (u::(vs++ts)) (a::(bs++as)) p
 | [],[],_,_,r=>r
 | w::vs,b::bs,p,e,r=>by
  cases r with
  | cons r1 rs e1=>exact RTs.swap (.cons r1 (RTs.rot (by simpa using e) rs) e1)
theorem SR.rot{u:V}{vs:List V}{bs:List TV}(e:vs.length=bs.length)(h:SR K H0 σ ρ (vs++u::ts) (bs++a::as) H):SR K H0 σ ρ (u::(vs++ts)) (a::(bs++as)) H :=
 let ⟨⟨p,q,h1,h2,h3,h4⟩,s⟩:=h
 ⟨⟨p,q,h1,h2.rot e,h3,h4⟩,s⟩
theorem SR.swap{u w:V}(h:SR K H0 σ ρ (u::w::ts) (a::b::as) H):SR K H0 σ ρ (w::u::ts) (b::a::as) H :=
 let ⟨⟨p,q,h1,h2,h3,h4⟩,s⟩:=h
 ⟨⟨p,q,h1,h2.swap,h3,h4⟩,s⟩
theorem RTs.back{u:V}:∀ {vs:List V} {bs:List TV} {p:Fp},vs.length=bs.length→RTs K G H (u::(vs++ts)) (a::(bs++as)) p→RTs K G H (vs++u::ts) (bs++a::as) p
 | [],[],_,_,r=>r
 | w::vs,b::bs,p,e,r=>by
  have r':=RTs.swap r
  cases r' with
  | cons r1 rs e1=>exact .cons r1 (RTs.back (by simpa using e) rs) e1
theorem SR.back{u:V}{vs:List V}{bs:List TV}(e:vs.length=bs.length)(h:SR K H0 σ ρ (u::(vs++ts)) (a::(bs++as)) H):SR K H0 σ ρ (vs++u::ts) (bs++a::as) H :=
 let ⟨⟨p,q,h1,h2,h3,h4⟩,s⟩:=h
 ⟨⟨p,q,h1,h2.back e,h3,h4⟩,s⟩
inductive Stos:List TV→List AV→Prop
 | nil:Stos [] []
 | cons {a:TV} {x:AV} {as:List TV} {xs:List AV}:a.sto=some x→Stos as xs→Stos (a::as) (x::xs)
theorem SR.stos:∀ {vs:List V} {bs:List TV} {xs:List AV},Stos bs xs→vs.length=bs.length→∀ {us:List V} {cs:List TV},us.length=cs.length→SR K H0 σ ρ (us++(vs++ts)) (cs++(bs++as)) H→SR K H0 σ ρ (us++(vs++ts)) (cs++(xs.map TV.av++as)) H
 | [],_,_,.nil,_,_,_,_,h=>h
 | [],_,_,.cons _ _,e,_,_,_,_=>by simp at e
 | w::vs,_,_,.nil,e,_,_,_,_=>by simp at e
 | w::vs,b::bs,x::xs,.cons e1 es,e,us,cs,e2,h=>by
  have h1:SR K H0 σ ρ (us++w::(vs++ts)) (cs++b::(bs++as)) H:=h
  have h2:=(h1.rot e2).sto e1
  have h3:SR K H0 σ ρ ((w::us)++(vs++ts)) ((.av x::cs)++(bs++as)) H:=h2
  have h4:=SR.stos (us:=w::us) (cs:=.av x::cs) es (by simpa using e) (by simp[e2]) h3
  exact SR.back e2 h4
theorem RTs.avs{xs:List AV}:∀ {vs:List V} {bs:List AV} {p:Fp},vs.length=bs.length→RTs K G H (vs++ts) (bs.map TV.av++as) p→∃ p1 p2:Fp,(∀ b,p b=p1 b+p2 b)∧RAs K G H vs bs p1∧RTs K G H ts as p2
 | [],[],p,_,r=>⟨fun _=>0,p,fun b=>by simp,.nil fun _=>rfl,r⟩
 | w::vs,b::bs,p,e,r=>by
  cases r with
  | @cons _ _ _ _ pa pb _ r1 rs e1 =>
   obtain⟨p1,p2,e2,e3,e4⟩:=RTs.avs (xs:=xs) (by simpa using e) rs
   cases r1 with
   | av r1=>exact⟨fun c=>pa c+p1 c,p2,fun c=>by have:=e1 c;have:=e2 c;dsimp only;omega,.cons r1 e3 (fun _=>rfl),e4⟩
theorem hid_upd{l:Addr}{o:HO}{p q p' q':Fp}(h:∀ b u,p b+q b=0→H b=some u→p' b+q' b=0∧b≠l):Same (hid H p q) (hid (upd H l o) p' q'):=fun b u e=>by
 unfold hid at e ⊢
 split at e
 ·rename_i z
  obtain⟨h1,h2⟩:=h b u z e
  rw[if_pos h1,upd_ne h2]
  exact e
 ·cases e
theorem SR.new{l:Addr}{vs:List V}{xs:List AV}(h:SR K H0 σ ρ (vs++ts) (xs.map TV.av++as) H)(e:vs.length=xs.length)(hl:H l=none):SR K H0 σ ρ (.ref l::ts) (.av (.own xs)::as) (upd H l (.lst vs)):=by
 obtain⟨⟨p,q,h1,h2,h3,h4⟩,s⟩:=h
 have hL:=SR.lsts h1 h2
 obtain⟨p1,p2,e2,e3,e4⟩:=RTs.avs (xs:=xs) e h2
 have z:∀ b u,H b=some u→b≠l:=fun b u y w=>by subst w;rw[hl] at y;cases y
 have zl:p l+q l=0:=by
  rcases Nat.eq_zero_or_pos (p l+q l) with w|w
  ·exact w
  ·obtain⟨_,w,_⟩:=hL l w;rw[hl] at w;cases w
 have m:Same (hid H p q) (hid (upd H l (.lst vs)) p (fun b=>((if b=l then 1 else 0)+p1 b)+p2 b)):=hid_upd fun b u y w=>by
  have:=z b u w
  refine⟨?_,this⟩
  have:=e2 b
  simp[*] at *
  omega
 have mo:∀ b u,H b=some u→upd H l (.lst vs) b=some u:=fun b u y=>by rw[upd_ne (z b u y)];exact y
 have s2:Same H (upd H l (.lst vs)):=same_new hl
 refine⟨⟨p,fun b=>((if b=l then 1 else 0)+p1 b)+p2 b,h1.mono m (fun b o _=>mo b o),.cons (.av (.own upd_same (e3.mono m fun b o _=>mo b o) fun _=>rfl)) (e4.mono m s2) (fun _=>rfl),fun b=>?_,fun b w=>?_⟩,s.trans s2⟩
 ·have:=e2 b;have:=h3 b
  by_cases hb:b=l
  ·subst hb;simp;omega
  ·simp[hb];omega
 ·by_cases hb:b=l
  ·subst hb;exact s.free hl
  ·refine h4 b ?_;have:=e2 b;simp[hb] at w;omega
end
end VL
end
section
namespace VL
open PySem PySem.Spec L2
variable[Tabs]
mutual
noncomputable def AV.clean:AV→Bool
 | .d x=>noLst x
 | .own xs=>AV.cleans xs
 | .tup xs=>AV.cleans xs
 | .dic kvs=>noLsts (kvs.map Prod.snd)
 | .obj _=>false
noncomputable def AV.cleans:List AV→Bool
 | []=>true
 | x::xs=>x.clean && AV.cleans xs
end
noncomputable def Rs(K:W.Frag)(H H':Hp)(v:V)(a:AV):Prop:=Same H H'∧∃ p:Fp,(∀ b,p b≤1)∧(∀ b,0<p b→H b=none)∧RA K (hid H' p fun _=>0) H' v a p
section
variable{K:W.Frag}{G G' H H' H0:Hp}{σ:St}{ρ:Sl}{ts:List V}{as:List TV}{v x y:V}{a b:TV}
theorem RA.clB{p q p' q':Fp}(hl:∀ b,0<p' b+q' b→∃ o,H b=some o∧Mu o):(∀ {v:V} {a:AV} {r:Fp},RA K (hid H p q) H v a r→a.clean=true→RA K (hid H p' q') H v a r)∧∀ {vs:List V} {xs:List AV} {r:Fp},RAs K (hid H p q) H vs xs r→AV.cleans xs=true→RAs K (hid H p' q') H vs xs r:=by
 refine RA.ind (M:=fun v a r=>a.clean=true→RA K (hid H p' q') H v a r) (N:=fun vs xs r=>AV.cleans xs=true→RAs K (hid H p' q') H vs xs r) (fun r e hc=>.d (Rep.hid hl (by simpa [AV.clean] using hc) (r.same hid_le)) e) (fun h i e hc=>.own h (i (by simpa [AV.clean] using hc)) e) (fun h i hc=>.tup (tup_hid hl (hid_le _ _ h)) (i (by simpa [AV.clean] using hc))) (fun {a o kvs qq} h d e hc=>.dic h ?_ e) (fun _ _ _ hc=>by simp[AV.clean] at hc) (fun e _=>.nil e) fun i j e hc=>?_
 ·have hn:noLsts (kvs.map Prod.snd)=true:=by simpa [AV.clean] using hc
  have key:∀ {κ:Type} {ks:List (κ×V)} {ds:List PyData} {en:κ→PyData},Reps K (hid H p q) (ks.map Prod.snd) ds→kvs=(ks.map fun p=>en p.1).zip ds→Reps K (hid H p' q') (ks.map Prod.snd) ds:=fun r z=>by
   rw[z,List.map_snd_zip (by rw[List.length_map,← r.length,List.length_map];exact Nat.le_refl _)] at hn
   exact Reps.hid hl hn (r.same hid_le)
  rcases d with⟨ks,ds,e1,r,z⟩|⟨ks,ds,e1,r,z⟩|⟨ks,ds,n,e1,r,z⟩
  ·exact .inl ⟨ks,ds,e1,key r z,z⟩
  ·exact .inr (.inl ⟨ks,ds,e1,key (en:=fun k=>PyData.tuple (k.map keyD)) r z,z⟩)
  ·exact .inr (.inr ⟨ks,ds,n,e1,key (en:=fun k=>PyData.tuple [keyD k.1,.tuple (k.2.map keyD)]) r z,z⟩)
 ·simp only[AV.cleans,Bool.and_eq_true] at hc
  exact .cons (i hc.1) (j hc.2) e
theorem RA.cl{p q p' q':Fp}(hl:∀ b,0<p' b+q' b→∃ o,H b=some o∧Mu o){v:V}{a:AV}{r:Fp}(hc:a.clean=true)(h:RA K (hid H p q) H v a r):RA K (hid H p' q') H v a r:=(RA.clB hl).1 h hc
theorem RAs.cl{p q p' q':Fp}(hl:∀ b,0<p' b+q' b→∃ o,H b=some o∧Mu o){vs:List V}{xs:List AV}{r:Fp}(hc:AV.cleans xs=true)(h:RAs K (hid H p q) H vs xs r):RAs K (hid H p' q') H vs xs r:=(RA.clB hl).2 h hc
theorem SR.got{c:AV}(h:SR K H0 σ ρ ts as H)(r:Rs K H H' v c)(hc:c.clean=true):SR K H0 σ ρ (v::ts) (.av c::as) H':=by
 obtain⟨e,p0,n1,n2,ra⟩:=r
 obtain⟨⟨p,q,h1,h2,h3,h4⟩,s⟩:=h
 have hL:=SR.lsts h1 h2
 have z:∀ b,0<p b+q b→p0 b=0:=fun b w=>by
  obtain⟨vs,y,_⟩:=hL b w
  rcases Nat.eq_zero_or_pos (p0 b) with u|u
  ·exact u
  ·rw[n2 b u] at y;cases y
 have m:Same (hid H p q) (hid H' p (fun b=>p0 b+q b)):=fun b o w=>by
  unfold hid at w ⊢
  split at w
  ·rename_i y
   have:p0 b=0:=by
    rcases Nat.eq_zero_or_pos (p0 b) with u|u
    ·exact u
    ·rw[n2 b u] at w;cases w
   rw[if_pos (show p b+(p0 b+q b)=0 by omega)]
   exact e b o w
  ·cases w
 refine⟨⟨p,fun b=>p0 b+q b,h1.mono m (fun b o _=>e b o),.cons (.av (RA.cl (p':=p) (q':=fun b=>p0 b+q b) (fun b w=>?_) hc ra)) (h2.mono m e) (fun _=>rfl),fun b=>?_,fun b w=>?_⟩,s.trans e⟩
 ·rcases Nat.eq_zero_or_pos (p0 b) with u|u
  ·have w':0<p b+(p0 b+q b):=w
   obtain⟨vs,y,mu⟩:=hL b (by omega);exact⟨vs,e _ _ y,mu⟩
  ·exact ra.lst b u
 ·have:=h3 b;have:=n1 b;have:=z b
  show p b+(p0 b+q b)≤1
  omega
 ·rcases Nat.eq_zero_or_pos (p0 b) with u|u
  ·have w':0<p b+(p0 b+q b):=w
   exact h4 b (by omega)
  ·exact s.free (n2 b u)
theorem SR.gotB{c:AV}(h:SR K H0 σ ρ ts as H)(r:Rs K H H' v c):SR K H0 σ ρ (v::ts) (.bor c.data::as) H':=by
 obtain⟨e,p0,_,_,ra⟩:=r
 exact (h.ext e).pushB (ra.rep hid_le)
noncomputable def NoOwn(ρ:Sl):Prop:=∀ a∈ρ,∀ x,a=some x→(∃ d,x=.d d)∨∃ φ,x=.obj φ
theorem NoOwn.nil:NoOwn []:=fun _ h=>nomatch h
theorem NoOwn.no(h:NoOwn ρ):NoOwn (none::ρ):=fun b hb x z=>by
 rcases List.mem_cons.mp hb with e|e
 ·subst e;cases z
 ·exact h b e x z
theorem NoOwn.d{d:PyData}(h:NoOwn ρ):NoOwn (some (.d d)::ρ):=fun b hb x z=>by
 rcases List.mem_cons.mp hb with e|e
 ·subst e;cases z;exact .inl ⟨d,rfl⟩
 ·exact h b e x z
theorem RSl.noOwn{p:Fp}(r:RSl K G H σ ρ p)(h:NoOwn ρ):∀ b,p b=0:=by
 induction r with
 | nil e=>exact e
 | no _ ih=>exact ih fun a ha=>h a (.tail _ ha)
 | so ra _ e ih =>
  rcases h _ (.head _) _ rfl with⟨d,rfl⟩|⟨φ,rfl⟩
  ·intro b
   have:=ih (fun a ha=>h a (.tail _ ha)) b
   cases ra with
   | d _ e2=>have:=e b;have:=e2 b;omega
  ·intro b
   have:=ih (fun a ha=>h a (.tail _ ha)) b
   cases ra with
   | obj _ _ e2=>have:=e b;have:=e2 b;omega
theorem RTs.stb{p:Fp}(r:RTs K G H ts as p)(h:Stb as):∀ b,p b=0:=by
 induction r with
 | nil e=>exact e
 | cons r _ e ih =>
  obtain⟨d,rfl⟩:=h _ (.head _)
  intro b
  have:=ih (fun a ha=>h a (.tail _ ha)) b
  cases r with
  | av ra=>cases ra with
   | d _ e2=>have:=e b;have:=e2 b;omega
noncomputable def Sto(ρ:Sl)(a:TV)(a':AV):Prop:=a.sto=some a'∨(∃ c,a=.av c∧a'=.d c.data)∨(NoOwn ρ∧(∃ x,a=.bor x)∧a'=.d a.data)
theorem SR.stoS{a':AV}(h:SR K H0 σ ρ (v::ts) (a::as) H)(hS:Stb as)(e:Sto ρ a a'):SR K H0 σ ρ (v::ts) (.av a'::as) H:=by
 rcases e with e|⟨c,rfl,rfl⟩|⟨n,⟨x,rfl⟩,rfl⟩
 ·exact h.sto e
 ·exact h.frzT
 ·have t:=h.top (a:=.bor x) fun _ z=>nomatch z
  obtain⟨⟨p,q,h1,h2,h3,h4⟩,s⟩:=h.pop
  have z1:=h1.noOwn n
  have z2:=h2.stb hS
  refine⟨⟨p,q,h1,.cons (.av (.d (p:=fun _=>0) (t.same fun b o w=>?_) fun _=>rfl)) h2 (fun b=>by simp),h3,h4⟩,s⟩
  unfold hid
  rw[if_pos (by have:=z1 b;have:=z2 b;omega)]
  exact w
end
noncomputable def ItOk(K:W.Frag)(J:It)(u:V)(z:PyData)(n:Nat)(f:Nat→PyData):Prop :=
 ∀ G H,Same G H→Rep K G u z→(∀ i,i<n→J.go i H∧∀ x H',J.yld i H x H'→Same H H'∧∀ G',Same G G'→(∀ b o,H' b=some o→H b=none→G' b=some o)→Rep K G' x (f i))∧∀ i,n≤i→J.stop i H
noncomputable def TV.frz:TV→TV
 | .av a=>.av (.d a.data)
 | .bor x=>.bor x
 | .raw v=>.raw v
section
variable(K:W.Frag)(E:FK)(X:Exc→Sl→Prop)
noncomputable def Iv(wi:TI)(ρ:Sl)(Q:Nat→(Nat→PyData)→TV→Prop):Prop :=
 ∀ (H0:Hp) (σ:St) (ts:List V) (as:List TV) (H:Hp) (R:It→Hp→Prop),SR K H0 σ ρ ts as H→XOk K E X H0 →
  (∀ n f h,Q n f h→∀ u J H',(∀ v,h≠.raw v)→SR K H0 σ ρ (u::ts) (h::as) H'→ItOk K J u h.data n f→R J H')→wi σ H R
noncomputable def Gv(g:TG)(x:PyData)(ρ:Sl)(P:Sl→Prop):Prop :=
 ∀ (H0:Hp) (σ:St) (ts:List V) (as:List TV) (H:Hp) (v:V) (Qg:St→Hp→Prop),SR K H0 σ ρ (v::ts) (.av (.d x)::as) H→(∀ ρ',P ρ'→∀ σ' H',SR K H0 σ' ρ' ts as H'→Qg σ' H')→g v σ H Qg
end
noncomputable def Wk(ρ ρ':Sl):Prop:=∀ (K:W.Frag) (H0:Hp) (σ:St) (ts:List V) (as:List TV) (H:Hp),SR K H0 σ ρ ts as H→SR K H0 σ ρ' ts as H
section
variable{K:W.Frag}{E:FK}{X:Exc→Sl→Prop}{ρ:Sl}{Q:TV→Prop}{DV:VEnds}{ta tb te:TE}{i j:Int}{n:Nat}{r:R2}{t u:TS}{a b:TV}
theorem ev_imp{Q':TV→Prop}(h:Ev K E X te ρ Q)(m:∀ a,Q a→Q' a):Ev K E X te ρ Q':=fun H0 σ ts as H QV s x q=>h H0 σ ts as H QV s x fun a qa=>q a (m a qa)
theorem SR.var{K:W.Frag}{H0 H:Hp}{σ:St}{ρ:Sl}{ts:List V}{as:List TV}{i:Nat}{a:AV}(s:SR K H0 σ ρ ts as H)(h:ρ[i]?=some (some a)):∃ v,σ[i]?=some (some v)∧(∀ x,a=.d x→SR K H0 σ ρ (v::ts) (.av (.d x)::as) H)∧SR K H0 σ ρ (v::ts) (.bor a.data::as) H:=by
 obtain⟨⟨p,q,h1,h2,h3,h4⟩,e⟩:=s
 obtain⟨p1,p2,v,e1,e2,e3,e4⟩:=h1.frz h fun _ _ _ _=>trivial
 refine⟨v,e2,fun x z=>?_,SR.pushB ⟨⟨p,q,h1,h2,h3,h4⟩,e⟩ (e3.rep hid_le)⟩
 subst z
 cases e3 with
 | d rp z=>exact⟨⟨p,q,h1,.cons (.av (.d (p:=fun _=>0) rp fun _=>rfl)) h2 (fun b=>by simp),h3,h4⟩,e⟩
theorem ev_var{x:PyData}(h:ρ[n]?=some (some (.d x)))(q:Q (.av (.d x))):Ev K E X (tVar n) ρ Q:=fun H0 σ ts as H QV s _ k=>by
 obtain⟨v,e1,e2,_⟩:=s.var h
 exact⟨v,e1,k _ q v H (e2 x rfl)⟩
theorem ev_varB{a:AV}(h:ρ[n]?=some (some a))(q:Q (.bor a.data)):Ev K E X (tVar n) ρ Q:=fun H0 σ ts as H QV s _ k=>by
 obtain⟨v,e1,_,e2⟩:=s.var h
 exact⟨v,e1,k _ q v H e2⟩
theorem ev_int(q:Q (.av (.d (.int i)))):Ev K E X (tC (.int i)) ρ Q:=fun H0 σ ts as H QV s _ k=>k _ q _ H (s.int i)
theorem ev_bl{c:Bool}(q:Q (.av (.d (.bool c)))):Ev K E X (tC (.bl c)) ρ Q:=fun H0 σ ts as H QV s _ k=>k _ q _ H (s.bl c)
theorem ev_str{c:Str}(q:Q (.av (.d (.str c)))):Ev K E X (tC (.str c)) ρ Q:=fun H0 σ ts as H QV s _ k=>k _ q _ H (s.push fun _=>.str c)
theorem ev_non(q:Q (.av (.d .none))):Ev K E X (tC .non) ρ Q:=fun H0 σ ts as H QV s _ k=>k _ q _ H (s.push fun _=>.non)
theorem ev_ty{c:String}(q:Q (.raw (.ty c))):Ev K E X (tC (.ty c)) ρ Q:=fun H0 σ ts as H QV s _ k=>k _ q _ H s.pushR
theorem ev_ref{c:Addr}(q:Q (.raw (.ref c))):Ev K E X (tC (.ref c)) ρ Q:=fun H0 σ ts as H QV s _ k=>k _ q _ H s.pushR
theorem ev_op(h:Ev K E X ta ρ fun a=>Ev K E X tb ρ fun b=>Op K E X r a b Q):Ev K E X (tOp r ta tb) ρ Q:=fun H0 σ ts as H QV s x k =>
 h H0 σ ts as H _ s x fun a qa v H' s'=>qa H0 σ _ _ H' _ s' x fun b qb w H2 s2=>qb H0 σ ρ ts as H2 v w QV s2 x k
theorem ev_un{r:V→Hp→VK→Prop}(h:Ev K E X ta ρ fun a=>Un1 K E X r a Q):Ev K E X (tUn r ta) ρ Q:=fun H0 σ ts as H QV s x k =>
 h H0 σ ts as H _ s x fun a qa v H' s'=>qa H0 σ ρ ts as H' v QV s' x k
theorem un_i{g:Int→Int}(q:Q (.av (.d (.int (g i))))):Un1 K E X (rU fun i=>.int (g i)) (.av (.d (.int i))) Q:=fun H0 σ ρ ts as H x QV s _ k=>by
 have e:=s.top_d.int_inv
 subst e
 exact⟨i,rfl,k _ q _ H (s.pop.int _)⟩
theorem ints2{H0 H:Hp}{σ:St}{ρ:Sl}{ts:List V}{as:List TV}{x y:V}(s:SR K H0 σ ρ (y::x::ts) (.av (.d (.int j))::.av (.d (.int i))::as) H):x=.int i∧y=.int j∧SR K H0 σ ρ ts as H :=
 ⟨s.pop.top_d.int_inv,s.top_d.int_inv,s.pop.pop⟩
theorem op_i0{g:Int→Int→Int}(q:Q (.av (.d (.int (g i j))))):Op K E X (rI0 fun i j=>.int (g i j)) (.av (.d (.int i))) (.av (.d (.int j))) Q:=fun H0 σ ρ ts as H x y QV s _ k=>by
 obtain⟨rfl,rfl,s'⟩:=ints2 s
 exact⟨i,j,rfl,rfl,k _ q _ H (s'.int _)⟩
theorem op_b0{g:Int→Int→Bool}(q:Q (.av (.d (.bool (g i j))))):Op K E X (rI0 fun i j=>.bl (g i j)) (.av (.d (.int i))) (.av (.d (.int j))) Q:=fun H0 σ ρ ts as H x y QV s _ k=>by
 obtain⟨rfl,rfl,s'⟩:=ints2 s
 exact⟨i,j,rfl,rfl,k _ q _ H (s'.bl _)⟩
theorem op_i{C:Int→Int→Prop}{g:Int→Int→Int}(c:C i j)(q:Q (.av (.d (.int (g i j))))):Op K E X (rI C fun i j=>.int (g i j)) (.av (.d (.int i))) (.av (.d (.int j))) Q:=fun H0 σ ρ ts as H x y QV s _ k=>by
 obtain⟨rfl,rfl,s'⟩:=ints2 s
 exact⟨i,j,rfl,rfl,c,k _ q _ H (s'.int _)⟩
theorem op_eqI(q:Q (.av (.d (.bool (decide (i=j)))))):Op K E X rEq (.av (.d (.int i))) (.av (.d (.int j))) Q:=fun H0 σ ρ ts as H x y QV s _ k=>by
 obtain⟨rfl,rfl,s'⟩:=ints2 s
 exact rd_eqI (k _ q _ H (s'.bl _))
theorem op_neI(q:Q (.av (.d (.bool (!decide (i=j)))))):Op K E X rNe (.av (.d (.int i))) (.av (.d (.int j))) Q:=fun H0 σ ρ ts as H x y QV s _ k=>by
 obtain⟨rfl,rfl,s'⟩:=ints2 s
 exact rd_neI (k _ q _ H (s'.bl _))
theorem Rep.bl_inv{H:Hp}{v:V}{c:Bool}(h:Rep K H v (.bool c)):v=.bl c:=by cases h;rfl
noncomputable def NR(a:TV):Prop:=∀ v,a≠.raw v
theorem NR.av{c:AV}:NR (.av c):=fun _ z=>nomatch z
theorem NR.bor{c:PyData}:NR (.bor c):=fun _ z=>nomatch z
theorem op_eqd{α:Type}[DecidableEq α]{f:α→PyData}{m:Nat}{c d:α}(F:Enc f m)(ha:a.data=f c)(hb:b.data=f d)(q:Q (.av (.d (.bool (decide (c=d))))))(na:NR a:=by first|exact NR.av|exact NR.bor)(nb:NR b:=by first|exact NR.av|exact NR.bor)(hm:m≤32:=by decide):Op K E X (rEqD K) a b Q:=fun H0 σ ρ ts as H x y QV s _ k =>
 rd_eqD F (ha▸s.pop.top na) (hb▸s.top nb) (k _ q _ H (s.pop.pop.bl _)) hm
theorem op_ned{α:Type}[DecidableEq α]{f:α→PyData}{m:Nat}{c d:α}(F:Enc f m)(ha:a.data=f c)(hb:b.data=f d)(q:Q (.av (.d (.bool (!decide (c=d))))))(na:NR a:=by first|exact NR.av|exact NR.bor)(nb:NR b:=by first|exact NR.av|exact NR.bor)(hm:m≤32:=by decide):Op K E X (rNeD K) a b Q:=fun H0 σ ρ ts as H x y QV s _ k =>
 rd_neD F (ha▸s.pop.top na) (hb▸s.top nb) (k _ q _ H (s.pop.pop.bl _)) hm
theorem Reps.atI{H:Hp}{vs:List V}{ds:List PyData}{k:Int}{y:PyData}(h:Reps K H vs ds)(e:atI ds k=some y):∃ v,L2.atI vs k=some v∧Rep K H v y:=by
 unfold L2.atI at e ⊢
 rw[h.length]
 cases z:ixN ds.length k with
 | none=>rw[z] at e;cases e
 | some j =>
  rw[z] at e
  obtain⟨v,e1,e2⟩:=h.get (i:=j) (d:=y) e
  exact⟨v,e1,e2⟩
noncomputable def Item(a:TV)(y:PyData)(c:TV):Prop:=(a=.av (.d a.data)∧c=.av (.d y))∨(noLst y=true∧c=.av (.d y))∨c=.bor y
theorem SR.item{H0 H:Hp}{σ:St}{ρ:Sl}{ts:List V}{as:List TV}{x:V}{a c:TV}{y:PyData}(s:SR K H0 σ ρ (x::ts) (a::as) H)(na:NR a)(it:Item a y c)(P:V→Prop)(h:∀ G,Rep K G x a.data→Same G H→∃ v,P v∧Rep K G v y):∃ v,P v∧SR K H0 σ ρ (v::ts) (c::as) H:=by
 rcases it with⟨e,rfl⟩|⟨hy,rfl⟩|rfl
 ·rw[e] at s
  obtain⟨⟨p,q,h1,h2,h3,h4⟩,e'⟩:=s
  cases h2 with
  | cons r rs z=>cases r with
   | av r=>cases r with
    | d rp w =>
     obtain⟨v,e1,e2⟩:=h _ rp hid_le
     exact⟨v,e1,⟨p,q,h1,.cons (.av (.d e2 w)) rs z,h3,h4⟩,e'⟩
 ·obtain⟨v,e1,e2⟩:=h _ (s.top na) (.refl H)
  exact⟨v,e1,s.pop.pushF hy e2⟩
 ·obtain⟨v,e1,e2⟩:=h _ (s.top na) (.refl H)
  exact⟨v,e1,s.pop.pushB e2⟩
theorem Item.d{x y:PyData}:Item (.av (.d x)) y (.av (.d y)):=.inl ⟨rfl,rfl⟩
theorem Item.flat{y:PyData}(h:noLst y=true):Item a y (.av (.d y)):=.inr (.inl ⟨h,rfl⟩)
theorem op_ixL{ds:List PyData}{y:PyData}{c:TV}{k:Int}(ha:a.data=.list ds)(e:atI ds k=some y)(it:Item a y c)(q:Q c)(na:NR a:=by first|exact NR.av|exact NR.bor):Op K E X (rIxL K) a (.av (.d (.int k))) Q:=fun H0 σ ρ ts as H x w QV s _ kk=>by
 have e2:=s.top_d.int_inv
 subst e2
 obtain⟨v,⟨p,xs,e3,e4,e5⟩,s'⟩:=s.pop.item na it (fun v=>∃ p xs,x=.ref p∧SqL K H p xs∧L2.atI xs k=some v) fun G rp sm=>by
  rw[ha] at rp
  obtain⟨p,xs,rfl,h1,h2⟩:=rp.list_inv
  obtain⟨v,h3,h4⟩:=Reps.atI h2 e
  exact⟨v,⟨p,xs,rfl,sm.seq h1,h3⟩,h4⟩
 exact⟨p,xs,k,v,e3,rfl,e4,e5,kk _ q _ H s'⟩
theorem op_ixT{ds:List PyData}{y:PyData}{c:TV}{k:Int}(ha:a.data=.tuple ds)(e:atI ds k=some y)(it:Item a y c)(q:Q c)(na:NR a:=by first|exact NR.av|exact NR.bor):Op K E X (rIxT K) a (.av (.d (.int k))) Q:=fun H0 σ ρ ts as H x w QV s _ kk=>by
 have e2:=s.top_d.int_inv
 subst e2
 obtain⟨v,⟨p,xs,e3,e4,e5⟩,s'⟩:=s.pop.item na it (fun v=>∃ p xs,x=.ref p∧SqT K H p xs∧L2.atI xs k=some v) fun G rp sm=>by
  rw[ha] at rp
  obtain⟨p,xs,rfl,h1,h2⟩:=rp.tuple_inv
  obtain⟨v,h3,h4⟩:=Reps.atI h2 e
  exact⟨v,⟨p,xs,rfl,sm.tupS h1,h3⟩,h4⟩
 exact⟨p,xs,k,v,e3,rfl,e4,e5,kk _ q _ H s'⟩
theorem ea_nil{P:List TV→Prop}(q:P []):Ea K E X tNil ρ P:=fun H0 σ ts as H QV s _ k=>k [] q [] H s rfl
theorem ea_cons{A:TA}{P:List TV→Prop}(h:Ev K E X ta ρ fun a=>Ea K E X A ρ fun bs=>P (a::bs)):Ea K E X (tCons ta A) ρ P:=fun H0 σ ts as H QV s x k =>
 h H0 σ ts as H _ s x fun a qa v H' s'=>qa H0 σ _ _ H' _ s' x fun bs qb vs H2 s2 hl=>k (a::bs) qb (v::vs) H2 (s2.rot hl) (by simp[hl])
theorem ev_cb{r:List V→Hp→VK→Prop}{A:TA}(h:Ea K E X A ρ fun bs=>Bi K E X r bs Q):Ev K E X (tCB r A) ρ Q:=fun H0 σ ts as H QV s x k =>
 h H0 σ ts as H _ s x fun bs qb vs H2 s2 hl=>qb H0 σ ρ ts as H2 vs QV s2 hl x k
theorem Stos.len{bs:List TV}{xs:List AV}(h:Stos bs xs):bs.length=xs.length:=by
 induction h with
 | nil=>rfl
 | cons _ _ ih=>simp[ih]
theorem ev_lst{A:TA}(h:Ea K E X A ρ fun bs=>∃ xs,Stos bs xs∧bs.length≤1000∧Q (.av (.own xs))):Ev K E X (tLst A) ρ Q:=fun H0 σ ts as H QV s x k =>
 h H0 σ ts as H _ s x fun bs ⟨xs,hs,hz,q⟩ vs H2 s2 hl=>⟨Nat.le_of_lt (small1000 (by omega)),fun p hp=>k _ q _ _ (SR.new (SR.stos (us:=[]) (cs:=[]) hs hl rfl s2) (by rw[hl,hs.len]) hp)⟩
theorem SR.newT{H0 H:Hp}{σ:St}{ρ:Sl}{ts:List V}{as:List TV}{l:Addr}{vs:List V}{xs:List AV}(h:SR K H0 σ ρ (vs++ts) (xs.map TV.av++as) H)(e:vs.length=xs.length)(hl:H l=none):SR K H0 σ ρ (.ref l::ts) (.av (.d (.tuple (AV.datas xs)))::as) (upd H l (.tup vs)):=by
 obtain⟨⟨p,q,h1,h2,h3,h4⟩,s⟩:=h
 have hL:=SR.lsts h1 h2
 obtain⟨p1,p2,e2,e3,e4⟩:=RTs.avs (xs:=xs) e h2
 have s2:Same H (upd H l (.tup vs)):=same_new hl
 have zl:p l+q l=0:=by
  rcases Nat.eq_zero_or_pos (p l+q l) with w|w
  ·exact w
  ·obtain⟨_,w,_⟩:=hL l w;rw[hl] at w;cases w
 have m:Same (hid H p q) (hid (upd H l (.tup vs)) p p2):=(hid_more (p':=p) (q':=p2) fun b z=>by have:=e2 b;omega).trans (same_hid s2)
 refine⟨⟨p,p2,h1.mono m (fun b o _=>s2 b o),.cons (.av (.d (p:=fun _=>0) (.tup ?_ (e3.frz m fun b o y z=>?_)) fun _=>rfl)) (e4.mono m s2) (fun b=>by simp),fun b=>by have:=e2 b;have:=h3 b;omega,fun b z=>h4 b (by have:=e2 b;omega)⟩,s.trans s2⟩
 ·unfold hid;rw[if_pos (by have:=e2 l;omega)];exact upd_same
 ·unfold hid;rw[if_pos (by have:=e2 b;have:=h3 b;omega)];exact s2 b o z
theorem ev_tup{A:TA}(h:Ea K E X A ρ fun bs=>∃ xs,Stos bs xs∧bs.length≤1000∧Q (.av (.d (.tuple (AV.datas xs))))):Ev K E X (tTup A) ρ Q:=fun H0 σ ts as H QV s x k =>
 h H0 σ ts as H _ s x fun bs ⟨xs,hs,hz,q⟩ vs H2 s2 hl=>⟨Nat.le_of_lt (small1000 (by omega)),fun p hp=>k _ q _ _ (SR.newT (SR.stos (us:=[]) (cs:=[]) hs hl rfl s2) (by rw[hl,hs.len]) hp)⟩
theorem tv_test{P:Bool→Prop}(h:Ev K E X te ρ fun a=>∃ c,a=.av (.d (.bool c))∧P c):Tv K E X (tTest te) ρ P:=fun H0 σ ts as H QV s x k =>
 h H0 σ ts as H _ s x fun a ⟨c,e,p⟩ v H' s'=>by subst e;exact⟨c,Rep.bl_inv s'.top_d,k c p H' s'.pop⟩
theorem tv_b{P:Bool→Prop}(h:Ev K E X te ρ fun a=>∃ c,a=.av (.d (.bool c))∧P c):Tv K E X (tB te) ρ P:=tv_test h
theorem tv_and{ca cb:TT}{P:Bool→Prop}(h:Tv K E X ca ρ fun c=>if c=true then Tv K E X cb ρ P else P false):Tv K E X (tAnd ca cb) ρ P:=fun H0 σ ts as H QV s x k =>
 h H0 σ ts as H _ s x fun c qc H' s'=>by
  cases c with
  | true=>rw[if_pos rfl] at qc ⊢;exact qc H0 σ ts as H' QV s' x k
  | false=>rw[if_neg Bool.false_ne_true] at qc ⊢;exact k _ qc H' s'
theorem tv_or{ca cb:TT}{P:Bool→Prop}(h:Tv K E X ca ρ fun c=>if c=true then P true else Tv K E X cb ρ P):Tv K E X (tOr ca cb) ρ P:=fun H0 σ ts as H QV s x k =>
 h H0 σ ts as H _ s x fun c qc H' s'=>by
  cases c with
  | true=>rw[if_pos rfl] at qc ⊢;exact k _ qc H' s'
  | false=>rw[if_neg Bool.false_ne_true] at qc ⊢;exact qc H0 σ ts as H' QV s' x k
theorem tv_not{ca:TT}{P:Bool→Prop}(h:Tv K E X ca ρ fun c=>P (!c)):Tv K E X (tNot ca) ρ P:=fun H0 σ ts as H QV s x k =>
 h H0 σ ts as H _ s x fun c qc H' s'=>k _ qc H' s'
theorem tv_all{P:Bool→Prop}(q:P true):Tv K E X tAll ρ P:=fun H0 σ ts as H QV s x k=>k _ q H s
theorem ev_and(h:Ev K E X ta ρ fun a=>∃ c,a=.av (.d (.bool c))∧if c=true then Ev K E X tb ρ Q else Q (.av (.d (.bool false)))):Ev K E X (tAndV ta tb) ρ Q:=fun H0 σ ts as H QV s x k =>
 h H0 σ ts as H _ s x fun a ⟨c,e,p⟩ v H' s'=>by
  subst e
  refine⟨c,Rep.bl_inv s'.top_d,?_⟩
  cases c with
  | true=>rw[if_pos rfl] at p ⊢;exact p H0 σ ts as H' QV s'.pop x k
  | false=>rw[if_neg Bool.false_ne_true] at p ⊢;exact k _ p _ H' (s'.pop.bl false)
theorem ev_not(h:Ev K E X ta ρ fun a=>∃ c,a=.av (.d (.bool c))∧Q (.av (.d (.bool (!c))))):Ev K E X (tNotV ta) ρ Q:=fun H0 σ ts as H QV s x k =>
 h H0 σ ts as H _ s x fun a ⟨c,e,p⟩ v H' s'=>by
  subst e
  exact⟨c,Rep.bl_inv s'.top_d,k _ p _ H' (s'.pop.bl _)⟩
theorem sv_seq(h:Sv K E X t ρ { DV with nx:=fun ρ'=>Sv K E X u ρ' DV }):Sv K E X (tSeq t u) ρ DV:=fun H0 σ ts as H D st s x f =>
 h H0 σ ts as H { D with nx:=u D } st s x ⟨fun ρ' q σ' H' s'=>q H0 σ' ts as H' D st s' x f,f.bk,f.ct,f.rt⟩
theorem sv_next(h:DV.nx ρ):Sv K E X tNext ρ DV:=fun H0 σ ts as H D st s x f=>f.nx ρ h σ H s
theorem sv_drop(h:Ev K E X te ρ fun _=>DV.nx ρ):Sv K E X (tDrop te) ρ DV:=fun H0 σ ts as H D st s x f =>
 h H0 σ ts as H _ s x fun a q v H' s'=>f.nx ρ q σ H' s'.pop
theorem sv_ret(h:Ev K E X te ρ DV.rt):Sv K E X (tRet te) ρ DV:=fun H0 σ ts as H D st s x f =>
 h H0 σ ts as H _ s x fun a q v H' s'=>f.rt a q v σ ρ H' s'
theorem sv_if{c:TT}(h:Tv K E X c ρ fun b=>if b=true then Sv K E X t ρ DV else Sv K E X u ρ DV):Sv K E X (tIfS c t u) ρ DV:=fun H0 σ ts as H D st s x f =>
 h H0 σ ts as H _ s x fun c qc H' s'=>by
  cases c with
  | true=>rw[if_pos rfl] at qc ⊢;exact qc H0 σ ts as H' D st s' x f
  | false=>rw[if_neg Bool.false_ne_true] at qc ⊢;exact qc H0 σ ts as H' D st s' x f
theorem sv_asg(h:Ev K E X te ρ fun a=>∃ a',Sto ρ a a'∧DV.nx (ρ.set n (some a')))(hn:n<ρ.length:=by simp):Sv K E X (tAsg te (gName n)) ρ DV:=fun H0 σ ts as H D st s x f =>
 h H0 σ ts as H _ s x fun a ⟨a',e,q⟩ v H' s'=>f.nx _ q _ H' ((s'.stoS st e).store hn)
theorem gv_name{x:PyData}{P:Sl→Prop}(h:P (ρ.set n (some (.d x))))(hn:n<ρ.length:=by simp):Gv K (gName n) x ρ P:=fun H0 σ ts as H v Qg s k=>k _ h _ H (s.store hn)
end
end VL
end
section
namespace VL
open PySem PySem.Spec L2
variable[Tabs]
theorem small6{n:Nat}(h:n≤1000000):n<sizeLine:=Nat.lt_of_le_of_lt h (by decide)
section
variable{K:W.Frag}{G G' H H' H0:Hp}{σ:St}{ρ:Sl}{ts:List V}{as:List TV}{v x y:V}{a b:TV}
theorem RAs.len:∀ {vs:List V} {xs:List AV} {p:Fp},RAs K G H vs xs p→vs.length=xs.length
 | _,_,_,.nil _=>rfl
 | _,_,_,.cons _ rs _=>by simp[RAs.len rs]
theorem RAs.snoc{w:V}{c:AV}{q:Fp}(r:RA K G H w c q):∀ {vs:List V} {xs:List AV} {p:Fp},RAs K G H vs xs p→RAs K G H (vs++[w]) (xs++[c]) (fun b=>p b+q b)
 | _,_,_,.nil e=>.cons r (.nil (p:=fun _=>0) fun _=>rfl) (fun b=>by have:=e b;simp;omega)
 | _,_,_,.cons (p:=p1) (q:=q1) r1 rs e=>.cons r1 (RAs.snoc r rs) (fun b=>by have:=e b;show _+q b=p1 b+(q1 b+q b);omega)
theorem RAs.set{w:V}{c:AV}{q:Fp}(r:RA K G H w c q):∀ {vs:List V} {xs:List AV} {p:Fp} (j:Nat),RAs K G H vs xs p→∃ p':Fp,(∀ b,p' b≤p b+q b)∧RAs K G H (vs.set j w) (xs.set j c) p'
 | _,_,p,j,.nil e=>⟨p,fun b=>by omega,.nil e⟩
 | _,_,_,0,.cons (q:=q1) r1 rs e=>⟨fun b=>q b+q1 b,fun b=>by have:=e b;dsimp only;omega,.cons r rs fun _=>rfl⟩
 | _,_,_,j+1,.cons (p:=p1) r1 rs e=>by
  obtain⟨p',h1,h2⟩:=RAs.set r j rs
  exact⟨fun b=>p1 b+p' b,fun b=>by have:=e b;have:=h1 b;dsimp only;omega,.cons r1 h2 fun _=>rfl⟩
theorem SR.writeE{i:Nat}{xs xs':List AV}{c:AV}(h:SR K H0 σ ρ (v::ts) (.av c::as) H)(hS:Stb as)(hi:ρ[i]?=some (some (.own xs))) :
  ∃ l vs,σ[i]?=some (some (.ref l))∧H l=some (.lst vs)∧vs.length=xs.length∧∀ vs',(∀ G H' p q,(∀ b o,0<q b→H b=some o→H' b=some o)→RAs K G H' vs xs p→RA K G H' v c q→∃ p':Fp,(∀ b,p' b≤p b+q b)∧RAs K G H' vs' xs' p')→SR K H0 σ (ρ.set i (some (.own xs'))) ts as (upd H l (.lst vs')):=by
 obtain⟨⟨p,q,h1,h2,h3,h4⟩,s⟩:=h
 obtain⟨p1,p2,w,e1,e2,e3,e4⟩:=h1.frz hi fun _ _ _ _=>trivial
 cases h2 with
 | @cons _ _ _ _ q1 q2 _ r rs eq =>
  cases r with
  | av r =>
  cases e3 with
  | @own l vs _ p3 _ hl hr ep =>
   refine⟨l,vs,e2,hl,hr.len,fun vs' hw=>?_⟩
   have hpl:p1 l=1+p3 l:=by have:=ep l;simpa using this
   have ne:∀ b u,p b+q b=0→H b=some u→b≠l:=fun b u z _ y=>by subst y;have:=e1 b;omega
   have m0:Same (hid H p q) (hid (upd H l (.lst vs')) p q):=hid_upd fun b u z w=>⟨z,ne b u z w⟩
   have k1:∀ b o,0<p3 b→H b=some o→upd H l (.lst vs') b=some o:=fun b o z w=>by
    rw[upd_ne (fun y=>by subst y;have:=h3 b;have:=e1 b;omega)];exact w
   have k2:∀ b o,0<q b→H b=some o→upd H l (.lst vs') b=some o:=fun b o z w=>by
    rw[upd_ne (fun y=>by subst y;have:=h3 b;have:=e1 b;omega)];exact w
   have k3:∀ b o,0<p2 b→H b=some o→upd H l (.lst vs') b=some o:=fun b o z w=>by
    rw[upd_ne (fun y=>by subst y;have:=h3 b;have:=e1 b;omega)];exact w
   obtain⟨p',l1,l2⟩:=hw _ _ _ _ (fun b o z=>k2 b o (by have:=eq b;omega)) (hr.mono m0 k1) (r.mono m0 fun b o z=>k2 b o (by have:=eq b;omega))
   have z:=e4 (hid (upd H l (.lst vs')) p q) (upd H l (.lst vs')) (.ref l) (.own xs') (fun b=>(if b=l then 1 else 0)+p' b) (fun b=>((if b=l then 1 else 0)+p' b)+p2 b) m0 k3 (.own upd_same l2 fun _=>rfl) (fun _=>rfl)
   rw[set_same e2] at z
   have s2:Same H0 (upd H l (.lst vs')):=s.updF (h4 l (by have:=e1 l;omega))
   refine SR.of_le (p:=p) (q:=q) (p':=fun b=>((if b=l then 1 else 0)+p' b)+p2 b) (q':=q2) s2 h3 h4 (fun b=>?_) z (rs.monoS m0 hS fun b o y=>k2 b o (by have:=eq b;omega))
   have:=l1 b;have:=ep b;have:=e1 b;have:=eq b
   show ((if b=l then 1 else 0)+p' b)+p2 b+q2 b≤p b+q b
   omega
theorem SR.write{i:Nat}{xs xs':List AV}{c:AV}(h:SR K H0 σ ρ (v::ts) (.av c::as) H)(hS:Stb as)(hi:ρ[i]?=some (some (.own xs))) :
  ∃ l vs,σ[i]?=some (some (.ref l))∧H l=some (.lst vs)∧vs.length=xs.length∧∀ vs',(∀ G H p q,RAs K G H vs xs p→RA K G H v c q→∃ p':Fp,(∀ b,p' b≤p b+q b)∧RAs K G H vs' xs' p')→SR K H0 σ (ρ.set i (some (.own xs'))) ts as (upd H l (.lst vs')):=by
 obtain⟨l,vs,e1,e2,e3,e4⟩:=h.writeE (xs':=xs') hS hi
 exact⟨l,vs,e1,e2,e3,fun vs' hw=>e4 vs' fun G H' p q _=>hw G H' p q⟩
theorem RSl.take{m:Nat}{c:AV}{p:Fp}(r:RSl K G H σ ρ p)(hm:ρ[m]?=some (some c)):∃ (p1 p2:Fp) (w:V),(∀ b,p b=p1 b+p2 b)∧σ[m]?=some (some w)∧RA K G H w c p1∧RSl K G H σ (ρ.set m none) p2:=by
 induction r generalizing m with
 | nil _=>simp at hm
 | @no o σ ρ p r ih =>
  cases m with
  | zero=>simp at hm
  | succ m =>
   obtain⟨p1,p2,w,e1,e2,e3,e4⟩:=ih (by simpa using hm)
   exact⟨p1,p2,w,e1,by simpa using e2,e3,.no e4⟩
 | @so v a0 σ ρ pa pb pr ra r e ih =>
  cases m with
  | zero =>
   have:a0=c:=by simpa using hm
   subst this
   exact⟨pa,pb,v,e,rfl,ra,.no r⟩
  | succ m =>
   obtain⟨p1,p2,w,e1,e2,e3,e4⟩:=ih (by simpa using hm)
   exact⟨p1,fun b=>pa b+p2 b,w,fun b=>by have:=e b;have:=e1 b;dsimp only;omega,by simpa using e2,e3,.so ra e4 fun _=>rfl⟩
theorem SR.take{m:Nat}{c:AV}(h:SR K H0 σ ρ ts as H)(hm:ρ[m]?=some (some c)):∃ w,σ[m]?=some (some w)∧SR K H0 σ (ρ.set m none) (w::ts) (.av c::as) H:=by
 obtain⟨⟨p,q,h1,h2,h3,h4⟩,s⟩:=h
 obtain⟨p1,p2,w,e1,e2,e3,e4⟩:=h1.take hm
 refine⟨w,e2,SR.of_le (p:=p) (q:=q) (p':=p2) (q':=fun b=>p1 b+q b) s h3 h4 (fun b=>?_) e4 (.cons (.av e3) h2 fun _=>rfl)⟩
 have:=e1 b
 show p2 b+(p1 b+q b)≤_
 omega
theorem SR.snocT{D:Addr}{ys:List AV}{c:AV}(h:SR K H0 σ ρ (v::.ref D::ts) (.av c::.av (.own ys)::as) H)(hS:Stb as):∃ vs,H D=some (.lst vs)∧vs.length=ys.length∧SR K H0 σ ρ (.ref D::ts) (.av (.own (ys++[c]))::as) (upd H D (.lst (vs++[v]))):=by
 obtain⟨⟨p,q,h1,h2,h3,h4⟩,s⟩:=h
 cases h2 with
 | @cons _ _ _ _ qa qb _ r rs eq =>
 cases r with
 | av r =>
 cases rs with
 | @cons _ _ _ _ qc qd _ r2 rs eq2 =>
 cases r2 with
 | av r2 =>
 cases r2 with
 | @own l vs _ p3 _ hl hr ep =>
  refine⟨vs,hl,hr.len,?_⟩
  have hpl:qc D=1+p3 D:=by have:=ep D;simpa using this
  have ne:∀ b u,p b+q b=0→H b=some u→b≠D:=fun b u z _ y=>by subst y;have:=eq b;have:=eq2 b;omega
  have m0:Same (hid H p q) (hid (upd H D (.lst (vs++[v]))) p q):=hid_upd fun b u z w=>⟨z,ne b u z w⟩
  have k1:∀ b o,0<p b+qa b+qd b+p3 b→H b=some o→upd H D (.lst (vs++[v])) b=some o:=fun b o z w=>by
   rw[upd_ne (fun y=>by subst y;have:=h3 b;have:=eq b;have:=eq2 b;omega)];exact w
  have s2:Same H0 (upd H D (.lst (vs++[v]))):=s.updF (h4 D (by have:=eq D;have:=eq2 D;omega))
  refine⟨⟨p,fun b=>((if b=D then 1 else 0)+(p3 b+qa b))+qd b,?_,.cons (.av (.own upd_same (RAs.snoc (r.mono ?_ fun b o z=>k1 b o (by omega)) (hr.mono ?_ fun b o z=>k1 b o (by omega))) fun _=>rfl)) (rs.monoS ?_ hS fun b o z=>k1 b o (by omega)) (fun _=>rfl),?_,?_⟩,s2⟩
  all_goals first
   | (refine h1.mono (m0.trans (hid_more fun b z=>?_)) fun b o z=>k1 b o (by omega))
   | (refine m0.trans (hid_more fun b z=>?_))
   | intro b
  all_goals (try (intro z))
  all_goals (have e5:=eq b;have e6:=eq2 b;have e7:=ep b;have e8:=h3 b)
  all_goals first
   | (show p b+(((if b=D then 1 else 0)+(p3 b+qa b))+qd b)=0;omega)
   | (show p b+(((if b=D then 1 else 0)+(p3 b+qa b))+qd b)≤1;omega)
   | (refine h4 b ?_;have z':0<p b+(((if b=D then 1 else 0)+(p3 b+qa b))+qd b):=z;omega)
end
section
variable{K:W.Frag}{E:FK}{X:Exc→Sl→Prop}{ρ:Sl}{Q:TV→Prop}{DV:VEnds}{ta tb te:TE}{i j:Int}{n:Nat}{r:R2}{t u:TS}{a b:TV}
theorem sv_append{xs:List AV}(hi:ρ[n]?=some (some (.own xs)))(h:Ev K E X te ρ fun a=>∃ a',a.sto=some a'∧xs.length≤1000000∧DV.nx (ρ.set n (some (.own (xs++[a']))))):Sv K E X (tDrop (tBM K "list" rAppend (tVar n) (tCons te tNil))) ρ DV:=fun H0 σ ts as H D st s x f=>by
 obtain⟨l,vs,e1,e2,e3,_⟩:=(s.push (x:=.none) fun _=>.non).write (xs':=xs) st hi
 refine⟨.ref l,e1,rd_tyL e2 (h H0 σ ts as H _ s x fun a ⟨a',e,hz,q⟩ v H' s'=>?_)⟩
 obtain⟨l',vs',e1',e2',e3',e4'⟩:=(s'.sto e).write (xs':=xs++[a']) st hi
 rw[e1] at e1'
 cases e1'
 refine⟨l,vs',v,rfl,rfl,e2',small6 (by omega),f.nx _ q _ _ (e4' _ fun G H p q r1 r2=>⟨_,fun _=>Nat.le_refl _,RAs.snoc r2 r1⟩)⟩
theorem sv_retO{xs:List AV}(hm:ρ[n]?=some (some (.own xs)))(q:DV.rt (.av (.own xs))):Sv K E X (tRet (tVar n)) ρ DV:=fun H0 σ ts as H D st s x f=>by
 obtain⟨w,g1,s'⟩:=s.take hm
 exact⟨w,g1,f.rt _ q _ _ _ _ s'⟩
end
end VL
end
section
namespace VL
open PySem PySem.Spec L2
variable[Tabs]
section
variable{K:W.Frag}{G G' H H' H0:Hp}{σ:St}{ρ:Sl}{ts:List V}{as:List TV}{v x y:V}{a b:TV}
theorem SR.turn{J:It}{u:V}{z:PyData}{n i:Nat}{f:Nat→PyData}(s:SR K H0 σ ρ (u::ts) (.av (.d z)::as) H)(ok:ItOk K J u z n f)(hi:i<n):J.go i H∧∀ x H',J.yld i H x H'→SR K H0 σ ρ (x::u::ts) (.av (.d (f i))::.av (.d z)::as) H':=by
 have s0:=s
 obtain⟨⟨p,q,h1,h2,h3,h4⟩,e⟩:=s
 have hL:=SR.lsts h1 h2
 cases h2 with
 | @cons _ _ _ _ q1 q2 _ r rs eq =>
 cases r with
 | av r =>
 cases r with
 | d rp w =>
  obtain⟨g1,_⟩:=ok _ H hid_le rp
  obtain⟨g2,g3⟩:=g1 i hi
  refine⟨g2,fun x H' y=>?_⟩
  obtain⟨e1,e2⟩:=g3 x H' y
  have s1:=s0.ext e1
  obtain⟨⟨p',q',k1,k2,k3,k4⟩,e'⟩:=s1
  have m:Same (hid H p q) (hid H' p q):=same_hid e1
  refine⟨⟨p,q,h1.mono m (fun b o _=>e1 b o),.cons (.av (.d (p:=fun _=>0) (e2 (hid H' p q) m fun b o hb hn=>?_) fun _=>rfl)) (.cons (.av (.d (rp.same m) w)) (rs.mono m e1) eq) (fun b=>by simp),h3,h4⟩,e'⟩
  unfold hid
  rw[if_pos]
  ·exact hb
  ·rcases Nat.eq_zero_or_pos (p b+q b) with c|c
   ·exact c
   ·obtain⟨vs,y,mu⟩:=hL b c;rw[hn] at y;cases y
theorem SR.halt{J:It}{u:V}{z:PyData}{n i:Nat}{f:Nat→PyData}(s:SR K H0 σ ρ (u::ts) (a::as) H)(na:NR a)(ez:a.data=z)(ok:ItOk K J u z n f)(hi:n≤i):J.stop i H:=(ok H H (.refl H) (ez▸s.top na)).2 i hi
end
section
variable{K:W.Frag}{E:FK}{X:Exc→Sl→Prop}{ρ:Sl}{Q:TV→Prop}{DV:VEnds}{ta tb te:TE}{i j:Int}{n:Nat}{r:R2}{t u:TS}{a b:TV}
theorem SR.frzV{H0 H:Hp}{σ:St}{ts:List V}{as:List TV}{v:V}(s:SR K H0 σ ρ (v::ts) (a::as) H):SR K H0 σ ρ (v::ts) (a.frz::as) H:=by
 cases a with
 | av a=>exact s.frzT
 | bor x=>exact s
 | raw v=>exact s
theorem TV.frz_data(a:TV):a.frz.data=a.data:=by cases a<;>rfl
theorem TV.frz_nr(h:NR a):NR a.frz:=by
 cases a with
 | av a=>exact NR.av
 | bor x=>exact NR.bor
 | raw v=>exact absurd rfl (h v)
theorem it_range{lo:Int}{m:Nat}:ItOk K (Itr lo m) .non .none m fun i=>.int (lo+i):=fun G H sm rp =>
 ⟨fun i hi=>⟨hi,fun x H' ⟨e1,e2⟩=>by subst e1 e2;exact⟨.refl _,fun _ _ _=>.int _⟩⟩,fun i hi=>hi⟩
theorem ints_of{H0 H:Hp}{σ:St}{ts:List V}{as:List TV}{vs:List V}(s:SR K H0 σ ρ (vs++ts) ([.av (.d (.int i))]++as) H)(hl:vs.length=1):vs=[.int i]∧SR K H0 σ ρ ts as H:=by
 match vs,hl with
 | [v],_ =>
  have e:=SR.top_d (v:=v) s
  rw[e.int_inv]
  exact⟨rfl,SR.pop (v:=v) s⟩
theorem iv_rng1{A:TA}{P:Nat→(Nat→PyData)→TV→Prop}(h:Ea K E X A ρ fun bs=>∃ j,bs=[.av (.d (.int j))]∧(-(2 ^ 62)≤j∧j<2 ^ 62)∧P j.toNat (fun i=>.int (0+(i:Int))) (.av (.d .none))):Iv K E X (iRng1 A) ρ P:=fun H0 σ ts as H R s x k =>
 h H0 σ ts as H _ s x fun bs ⟨j,e,hj,q⟩ vs H' s' hl=>by
  subst e
  obtain⟨rfl,s2⟩:=ints_of s' hl
  exact⟨j,rfl,hj.1,hj.2,k _ _ _ q .non _ H' (fun _ z=>nomatch z) (s2.push fun _=>.non) it_range⟩
theorem sv_for{wi:TI}{g:TG}{tb:TS}(h:Iv K E X wi ρ fun n f hd=>(∃ z,hd=.av (.d z))∧∃ Iv:Nat→Sl→Prop,Iv 0 ρ∧(∀ i ρ',i<n→Iv i ρ'→Gv K g (f i) ρ' fun ρ''=>Sv K E X tb ρ'' { nx:=Iv (i+1),ct:=Iv (i+1),bk:=DV.nx,rt:=DV.rt })∧∀ ρ',Iv n ρ'→DV.nx ρ'):Sv K E X (tFor wi g tb) ρ DV:=fun H0 σ ts as H D st s x f =>
 h H0 σ ts as H _ s x fun n ft hd ⟨⟨z,ez⟩,Iw,i0,turn,fin⟩ u J H' _ s' ok=>by
  subst ez
  refine⟨fun i m σ' H'=>m=n-i∧i≤n∧∃ ρ',Iw i ρ'∧SR K H0 σ' ρ' (u::ts) (.av (.d z)::as) H',⟨n,by simp,Nat.zero_le _,ρ,i0,s'⟩,?_⟩
  rintro i m σ1 H1 ⟨rfl,hi,ρ1,i1,s1⟩
  by_cases hlt:i<n
  ·obtain⟨g1,g2⟩:=s1.turn ok hlt
   refine .inr ⟨g1,fun σ2 H2=>∃ ρ',Iw (i+1) ρ'∧SR K H0 σ2 ρ' (u::ts) (.av (.d z)::as) H2,fun σ2 H2 p=>⟨n-(i+1),by omega,rfl,hlt,p⟩,fun y H2 hy=>?_⟩
   refine turn i ρ1 hlt i1 H0 σ1 _ _ H2 y _ (g2 y H2 hy) fun ρ2 sv σ3 H3 s3=>?_
   exact sv H0 σ3 _ _ H3 _ (Stb.cons st) s3 x ⟨fun ρ4 q σ4 H4 s4=>⟨ρ4,q,s4⟩,fun ρ4 q σ4 H4 s4=>f.nx ρ4 q σ4 H4 s4.pop,fun ρ4 q σ4 H4 s4=>⟨ρ4,q,s4⟩,fun a q v σ4 ρ4 H4 s4=>f.rt a q v σ4 ρ4 H4 s4.swap.pop⟩
  ·have e:i=n:=by omega
   subst e
   exact .inl ⟨s1.halt NR.av rfl ok (Nat.le_refl _),f.nx _ (fin _ i1) _ _ s1.pop⟩
noncomputable def AV.sh:AV→AV
 | .obj φ=>.obj φ
 | .d x=>.d x
 | .own xs=>.d (.list (AV.datas xs))
 | .tup xs=>.d (.tuple (AV.datas xs))
 | .dic kvs=>.d (.dict kvs)
noncomputable def capV(cap:List (Option Nat))(ρ:Sl):Sl:=cap.map fun o=>match o with
 | none=>none
 | some j=>(ρ[j]?).join.map AV.sh
theorem SR.at{H0 H:Hp}{σ:St}{ts:List V}{as:List TV}{j:Nat}{c:AV}(s:SR K H0 σ ρ ts as H)(h:ρ[j]?=some (some c)):∃ v,σ[j]?=some (some v)∧Rep K H v c.data:=by
 obtain⟨v,e,_,s'⟩:=s.var h
 exact⟨v,e,s'.top (a:=.bor c.data) NR.bor⟩
theorem SR.atO{H0 H:Hp}{σ:St}{ts:List V}{as:List TV}{j:Nat}{φ:V→Hp→Prop}(s:SR K H0 σ ρ ts as H)(h:ρ[j]?=some (some (.obj φ))):∃ v,σ[j]?=some (some v)∧φ v H∧∀ G1 G2:Hp,Same G1 G2→φ v G1→φ v G2:=by
 obtain⟨⟨p,q,h1,h2,h3,h4⟩,e⟩:=s
 obtain⟨p1,p2,v,e1,e2,e3,e4⟩:=h1.frz h fun _ _ _ _=>trivial
 cases e3 with
 | obj f m z=>exact⟨v,e2,m _ _ hid_le f,m⟩
theorem RSl.cap{H0 H G H2:Hp}{σ:St}{ts:List V}{as:List TV}(s:SR K H0 σ ρ ts as H)(m:Same H G):∀ cap:List (Option Nat),RSl K G H2 (capS cap σ) (capV cap ρ) fun _=>0
 | []=>.nil fun _=>rfl
 | none::cap=>.no (RSl.cap s m cap)
 | some j::cap=>by
  cases e:(ρ[j]?).join with
  | none =>
   have:capV (some j::cap) ρ=none::capV cap ρ:=by simp[capV,e]
   rw[this]
   exact .no (RSl.cap s m cap)
  | some c =>
   have ej:ρ[j]?=some (some c):=by
    cases z:ρ[j]? with
    | none=>rw[z] at e;cases e
    | some o=>rw[z] at e;cases o with
     | none=>cases e
     | some c'=>cases e;rfl
   have ec:capV (some j::cap) ρ=some c.sh::capV cap ρ:=by simp[capV,e]
   rw[ec]
   cases c with
   | obj φ =>
    obtain⟨v,e1,e2,e3⟩:=s.atO ej
    have:capS (some j::cap) σ=some v::capS cap σ:=by simp[capS,e1]
    rw[this]
    exact .so (.obj (e3 _ _ m e2) e3 fun _=>rfl) (RSl.cap s m cap) fun _=>rfl
   | _ =>
    obtain⟨v,e1,e2⟩:=s.at ej
    have:capS (some j::cap) σ=some v::capS cap σ:=by simp[capS,e1]
    rw[this]
    exact .so (.d (e2.same m) fun _=>rfl) (RSl.cap s m cap) fun _=>rfl
noncomputable def Got(c:AV)(a:TV):Prop:=(c.clean=true∧a=.av c)∨a=.bor c.data
theorem Got.own{c:AV}(h:c.clean=true):Got c (.av c):=.inl ⟨h,rfl⟩
theorem SR.gotG{H0 H H':Hp}{σ:St}{ts:List V}{as:List TV}{v:V}{c:AV}(h:SR K H0 σ ρ ts as H)(r:Rs K H H' v c)(g:Got c a):SR K H0 σ ρ (v::ts) (a::as) H':=by
 rcases g with⟨hc,rfl⟩|rfl
 ·exact h.got r hc
 ·exact h.gotB r
theorem SR.rs{H0 H:Hp}{σ:St}{ts:List V}{as:List TV}{v:V}{c:AV}(h:SR K H0 σ ρ (v::ts) (.av c::as) H):Rs K H0 H v c:=by
 obtain⟨⟨p,q,h1,h2,h3,h4⟩,e⟩:=h
 cases h2 with
 | @cons _ _ _ _ q1 q2 _ r rs eq =>
 cases r with
 | av r=>exact⟨e,q1,fun b=>by have:=eq b;have:=h3 b;omega,fun b z=>h4 b (by have:=eq b;omega),r.mono (hid_more fun b z=>by have:=eq b;simp;omega) fun _ _ _ z=>z⟩
theorem ev_comp{cap:List (Option Nat)}{wi:TI}{g:TG}{tt:TT}(h:Iv K E X wi ρ fun n f _=>n≤1000000∧∃ y:Nat→Option AV,(∀ i,i<n→Gv K g (f i) (capV cap ρ) fun ρ'=>Wk ρ' (capV cap ρ)∧Tv K E NE tt ρ' fun b=>if b=true then Ev K E NE te ρ' fun a=>∃ c,y i=some c∧a.sto=some c else y i=none) ∧
  ∃ a,Got (.own ((List.range n).filterMap y)) a∧Q a):Ev K E X (tComp cap wi g tt te) ρ Q:=fun H0 σ ts as H QV s x k =>
 h H0 σ ts as H _ s x fun n f hd ⟨hn,y,turn,a,hg,q⟩ u J H1 nr s1 ok D hD=>by
  have xo:XOk K E NE H1:=XOk.ne (x.t.same s1.same)
  have sD:Same H1 (upd H1 D (.lst [])):=same_new hD
  have st:Stb [TV.av (.d hd.data)]:=Stb.cons Stb.nil
  have start:SR K H1 (capS cap σ) (capV cap ρ) [.ref D,u] [.av (.own []),.av (.d hd.data)] (upd H1 D (.lst [])):=by
   have m:Same H1 (hid (upd H1 D (.lst [])) (fun _=>0) fun b=>if b=D then 1 else 0):=fun b o e=>by
    have hb:b≠D:=ne_of_none e hD
    unfold hid
    simp[hb]
    rw[upd_ne hb]
    exact e
   refine⟨⟨fun _=>0,fun b=>if b=D then 1 else 0,RSl.cap s1 m cap,.cons (.av (.own upd_same (.nil (p:=fun _=>0) fun _=>rfl) (q:=fun b=>if b=D then 1 else 0) fun b=>by simp)) (.cons (.av (.d (p:=fun _=>0) ((s1.top nr).same m) fun _=>rfl)) (.nil (p:=fun _=>0) fun _=>rfl) (r:=fun _=>0) fun b=>by simp) (fun b=>by simp),fun b=>by simp;split<;>omega,fun b z=>?_⟩,sD⟩
   by_cases hb:b=D
   ·rw[hb];exact hD
   ·simp[hb] at z
  refine⟨fun i m σ' H'=>m=n-i∧i≤n∧SR K H1 σ' (capV cap ρ) [.ref D,u] [.av (.own ((List.range i).filterMap y)),.av (.d hd.data)] H',⟨n,by simp,Nat.zero_le _,start⟩,?_⟩
  rintro i m σ2 H2 ⟨rfl,hi,s2⟩
  by_cases hlt:i<n
  ·obtain⟨g1,g2⟩:=s2.swap.turn ok hlt
   refine .inr ⟨g1,fun σ' H'=>SR K H1 σ' (capV cap ρ) [.ref D,u] [.av (.own ((List.range (i+1)).filterMap y)),.av (.d hd.data)] H',fun σ' H' p=>⟨n-(i+1),by omega,rfl,hlt,p⟩,fun w H3 hw=>?_⟩
   have s3:=g2 w H3 hw
   refine turn i hlt H1 σ2 _ _ H3 w _ s3 fun ρ4 ⟨wk,tv⟩ σ4 H4 s4=>?_
   refine tv H1 σ4 _ _ H4 _ s4 xo fun b qb H5 s5=>?_
   cases b with
   | true =>
    rw[if_pos rfl] at qb ⊢
    refine qb H1 σ4 _ _ H5 _ s5 xo fun a ⟨c,e1,e2⟩ z H6 s6=>?_
    have s7:=(s6.sto e2)
    have s8:SR K H1 σ4 ρ4 [z,.ref D,u] [.av c,.av (.own ((List.range i).filterMap y)),.av (.d hd.data)] H6:=by
     obtain⟨⟨p,q,k1,k2,k3,k4⟩,e⟩:=s7
     refine⟨⟨p,q,k1,?_,k3,k4⟩,e⟩
     cases k2 with
     | cons r rs eq=>exact .cons r rs.swap eq
    obtain⟨vs,h1,h2,h3⟩:=s8.snocT st
    refine⟨vs,h1,small6 ?_,?_⟩
    ·rw[h2]
     exact Nat.le_trans (List.length_filterMap_le _ _) (by rw[List.length_range];omega)
    ·have:=wk _ _ _ _ _ _ h3
     rw[List.range_succ,List.filterMap_append]
     simpa [e1] using this
   | false =>
    rw[if_neg Bool.false_ne_true] at qb ⊢
    have:=wk _ _ _ _ _ _ s5.swap
    rw[List.range_succ,List.filterMap_append]
    simpa [qb] using this
  ·have e:i=n:=by omega
   subst e
   exact .inl ⟨s2.swap.halt NR.av rfl ok (Nat.le_refl _),k _ q _ _ (s1.pop.gotG s2.rs hg)⟩
noncomputable def spV(K:W.Frag)(S:List PyData→AV→Prop)(SX:List PyData→Exc→Prop):Sp:=fun vs H Q E=>TabsIn H∧∃ ds,Reps K H vs ds ∧
 ((∃ c,S ds c∧∀ v H',Rs K H H' v c→Q v H')∨∃ e,SX ds e∧∀ c d H',Same H H'→XRep K H' e c d→E c d H')
theorem SR.reps{H0 H:Hp}{σ:St}:∀ {vs:List V} {bs:List TV} {ts:List V} {as:List TV},(∀ b∈bs,NR b)→vs.length=bs.length→SR K H0 σ ρ (vs++ts) (bs++as) H→Reps K H vs (bs.map TV.data)∧SR K H0 σ ρ ts as H
 | [],[],_,_,_,_,s=>⟨.nil,s⟩
 | v::vs,b::bs,ts,as,hb,e,s=>by
  have s':SR K H0 σ ρ (v::(vs++ts)) (b::(bs++as)) H:=s
  obtain⟨h1,h2⟩:=SR.reps (fun c hc=>hb c (.tail _ hc)) (by simpa using e) s'.pop
  exact⟨.cons (s'.top (hb b (.head _))) h1,h2⟩
inductive NRs:List TV→Prop
 | nil:NRs []
 | cons {b:TV} {bs:List TV}:NR b→NRs bs→NRs (b::bs)
theorem NRs.all{bs:List TV}(h:NRs bs):∀ b∈bs,NR b:=by
 induction h with
 | nil=>exact fun _ z=>nomatch z
 | cons h _ ih=>intro b hb;rcases List.mem_cons.mp hb with e|e;exact e▸h;exact ih b e
noncomputable def dvD:V→Option PyData
 | .int i=>some (.int i)
 | .bl b=>some (.bool b)
 | .str x=>some (.str x)
 | .non=>some .none
 | _=>none
theorem dvD_rep{v:V}{d:PyData}{H:Hp}(h:dvD v=some d):Rep K H v d:=by
 cases v<;>simp[dvD] at h<;>subst h<;>constructor
inductive DvDs:List V→List PyData→Prop
 | nil:DvDs [] []
 | cons {v:V} {d:PyData} {vs:List V} {ds:List PyData}:dvD v=some d→DvDs vs ds→DvDs (v::vs) (d::ds)
theorem DvDs.reps{vs:List V}{ds:List PyData}{H:Hp}(h:DvDs vs ds):Reps K H vs ds:=by
 induction h with
 | nil=>exact .nil
 | cons h _ ih=>exact .cons (dvD_rep h) ih
noncomputable def Res(a:TV)(c:AV):Prop:=a=.av c∨(NR a∧c=.d a.data)
theorem SR.start{N:List Str}{vs:List V}{ds:List PyData}{H:Hp}(h:Reps K H vs ds):SR K H (start N vs) (ds.map (fun d=>some (.d d))++List.replicate (N.length-ds.length) none) [] [] H:=by
 have hl:=h.length
 refine⟨⟨fun _=>0,fun _=>0,?_,.nil fun _=>rfl,fun _=>by simp,fun b z=>by simp at z⟩,.refl H⟩
 have hid0:hid H (fun _=>0) (fun _=>0)=H:=by funext b;simp[hid]
 rw[hid0]
 unfold L2.start
 rw[hl]
 clear hl
 generalize N.length-ds.length=m
 induction h using Reps.rec (motive_1:=fun _ _ _=>True) with
 | nil =>
  simp only[List.map_nil,List.nil_append]
  induction m with
  | zero=>exact .nil fun _=>rfl
  | succ m ih=>exact .no ih
 | cons r rs _ ih=>exact .so (.d r fun _=>rfl) ih fun _=>rfl
 | _=>trivial
theorem body_ok{t:TS}{N:List Str}{S:List PyData→AV→Prop}{SX:List PyData→Exc→Prop}{vs:List V}{H:Hp}{Qv:VK}{E:XK}(sp:spV K S SX vs H Qv E)
  (h:∀ ds,(∀ c,S ds c→Sv K (toF E) NE t (ds.map (fun d=>some (.d d))++List.replicate (N.length-ds.length) none) { nx:=fun _=>c=.d .none,rt:=fun a=>Res a c }) ∧
   ∀ e,SX ds e→Sv K (toF E) (fun e' _=>e'=e) t (ds.map (fun d=>some (.d d))++List.replicate (N.length-ds.length) none) { nx:=fun _=>False,rt:=fun _=>False }) :
  t { nx:=fun _ H'=>Qv .non H',rt:=Qv } (L2.start N vs) H:=by
 obtain⟨tb,ds,rp,q⟩:=sp
 rcases q with⟨c,h1,h2⟩|⟨e,h1,h2⟩
 ·refine (h ds).1 c h1 H _ [] [] H _ Stb.nil (SR.start rp) (XOk.ne tb) ⟨fun ρ q σ' H' s'=>?_,fun _ z=>z.elim,fun _ z=>z.elim,fun a q v σ' ρ' H' s'=>?_⟩
  ·rw[show c=.d .none from q] at h2
   exact h2 _ _ (SR.rs (v:=.non) (s'.push fun _=>.non))
  ·rcases q with rfl|⟨nr,rfl⟩
   ·exact h2 _ _ s'.rs
   ·refine h2 _ _ ⟨s'.same,fun _=>0,fun _=>by simp,fun b z=>by simp at z,.d ?_ fun _=>rfl⟩
    have hid0:hid H' (fun _=>0) (fun _=>0)=H':=by funext b;simp[hid]
    rw[hid0]
    exact s'.top nr
 ·exact (h ds).2 e h1 H _ [] [] H _ Stb.nil (SR.start rp) ⟨fun e' ρ' z c d σ' H2 sm xr=>by subst z;exact h2 c d H2 sm.same xr,tb⟩ ⟨fun _ z=>z.elim,fun _ z=>z.elim,fun _ z=>z.elim,fun _ z=>z.elim⟩
end
end VL
end
section
namespace L2
open PySem PySem.Spec PyProof.Rows
section
variable{X:Cx}{K:W.Frag}
noncomputable def rCatS(K:W.Frag):R2:=fun x y H Q=>∃ l b xs zs,x=.ref l∧y=.ref b∧SqL K H l xs∧SqL K H b zs∧xs.length+zs.length≤sizeLine∧∀ p,H p=none→Q (.ref p) (upd H p (.lst (xs++zs)))
theorem op_catS(hK:X.K=K):OpR X (binaryOp .Add) (rCatS K):=by
 subst hK
 intro pins s σ H x y v u Q I rx ry h
 obtain⟨l,b,xs,zs,rfl,rfl,hx,hy,hz,q⟩:=h
 cases rx
 cases ry
 obtain⟨i1,r1,p1,_⟩:=I.list hx
 obtain⟨i2,r2,p2,_⟩:=I.list hy
 obtain⟨⟨c1,d1,t1,s1⟩,n1,g1,e1,f1,k1⟩:=p1
 obtain⟨⟨c2,d2,t2,s2⟩,n2,g2,e2,f2,k2⟩:=p2
 cases e1;cases f1;cases k1;cases e2;cases f2;cases k2
 have l1:=r1.length
 have l2:=r2.length
 have ea:i1.toArray++i2.toArray=(i1++i2).toArray:=by simp
 refine concat_meets ⟨_,g1,rfl⟩ ⟨_,g2,rfl⟩ noFill_list_add seq_list_add PySem.F.slot_list_add PySem.F.entry_list_add (PySem.F.args_list_add_2 _ _) (list_addW l b i1.toArray i2.toArray n1 n2 _ _ s1 s2 (by rw[List.size_toArray,List.size_toArray];omega)) ⟨g1,g2,?_⟩
 rw[ea]
 exact⟨.ref _,_,I.lnew (t':=s.toks) (r1.append r2) (by rw[List.length_append];exact hz),rfl,q _ I.fresh⟩
noncomputable def rAllB(K:W.Frag):List V→Hp→VK→Prop:=fun vs H Q=>∃ (p:Addr) (cs:List Bool),vs=[.ref p]∧SqL K H p (cs.map V.bl)∧Q (.bl (cs.all id)) H
theorem bl_item:∀ {cs:List Bool} {us:List Value} {i:Nat} {v:Value},Vals (cs.map V.bl) us→us[i]?=some v→v=.bool (cs.getD i false)
 | [],_,_,_,.nil,e=>by simp at e
 | c::cs,_,0,v,.cons r _,e=>by simp at e;subst e;exact r
 | c::cs,_,i+1,v,.cons _ t,e=>by simpa using bl_item (i:=i) t (by simpa using e)
theorem range_all(cs:List Bool):(List.range cs.length).all (fun i=>cs.getD i false)=cs.all id:=by
 rw[Bool.eq_iff_iff,List.all_eq_true,List.all_eq_true]
 constructor
 ·intro h c hc
  obtain⟨i,hi,e⟩:=List.getElem_of_mem hc
  have:=h i (List.mem_range.mpr hi)
  rw[List.getD_eq_getElem?_getD,List.getElem?_eq_getElem hi] at this
  simpa [e] using this
 ·intro h i hi
  have hi:=List.mem_range.mp hi
  rw[List.getD_eq_getElem?_getD,List.getElem?_eq_getElem hi]
  exact h _ (List.getElem_mem hi)
theorem bools_truth{P:Program}{w:World}{A:Around}{cs:List Bool}{us:List Value}(r:Vals (cs.map V.bl) us):TruthOf P w A (fun i v=>us.toArray[i]?=some v) (fun i=>cs.getD i false):=fun i v s Q E hv q=>by
 have:=bl_item (i:=i) (v:=v) r (by simpa using hv)
 subst this
 exact wpAny_truthy_bool q
theorem call_allB(hK:X.K=K)(hc:X.calm=true):CallR X (.builtin "all") (rAllB K):=by
 subst hK
 intro pins s σ H vs us Q I r h
 obtain⟨p,cs,rfl,hp,q⟩:=h
 obtain⟨u,rfl,ru⟩:=vals1 r
 cases ru
 obtain⟨its,rs,pl,_⟩:=I.list hp
 have hl:=pl.isList
 have hlt:p<s.heap.objs.size:=by obtain⟨_,e,_⟩:=hl;exact Heap.lt_size e
 refine call_all_walk (wpAny_pyIter_list hl ?_)
 refine⟨s.heap.objs.size,_,_,_,_,_,fun i=>cs.getD i false,rfl,Walks.list (A:=X.A.in1) (I.ok.hd hc) _ p (Nat.ne_of_lt hlt) its.toArray,⟨⟨_,Heap.get?_push_size _ rfl,rfl,rfl⟩,hl.push _⟩,bools_truth rs,fun h' tk hk=>?_⟩
 have e:its.toArray.size=cs.length:=by rw[List.size_toArray,← rs.length,List.length_map]
 rw[e,range_all]
 exact⟨.bl _,H,I.kept (t':=tk) (fun b o z=>hk b o (by simp;exact Nat.ne_of_lt (Heap.lt_size z)) (Heap.get?_push_of_some _ z)),rfl,q⟩
section
variable{P:Program}{w:World}{A:Around}{R:Result→Shared→Prop}{J S:Addr}{f1 f2:List Addr}{m:Nat}{Pv:Nat→Value→Prop}{Sv:Nat→Heap→Prop}{dn:List (Str×Value)}
end
end
end L2
end
section
namespace VL
open PySem PySem.Spec L2
variable[Tabs]
theorem len1{α:Type}{vs:List α}(h:vs.length=1):∃ v,vs=[v]:=List.length_eq_one_iff.mp h
theorem len2{α:Type}{vs:List α}(h:vs.length=2):∃ v w,vs=[v,w]:=by
 cases vs with
 | nil=>cases h
 | cons v vs =>
  obtain⟨w,e⟩:=len1 (Nat.succ.inj h)
  exact⟨v,w,by rw[e]⟩
section
variable{K:W.Frag}{E:FK}{X:Exc→Sl→Prop}{ρ:Sl}{Q:TV→Prop}{DV:VEnds}{ta tb te:TE}{i j:Int}{n:Nat}{r:R2}{t u:TS}{a b:TV}{H0 H:Hp}{σ:St}{ts:List V}{as:List TV}{v:V}
theorem one_of{vs:List V}(s:SR K H0 σ ρ (vs++ts) ([a]++as) H)(hl:vs.length=1):∃ v,vs=[v]∧SR K H0 σ ρ (v::ts) (a::as) H:=by
 obtain⟨v,rfl⟩:=len1 hl
 exact⟨v,rfl,s⟩
theorem two_of{vs:List V}(s:SR K H0 σ ρ (vs++ts) ([a,b]++as) H)(hl:vs.length=2):∃ v w,vs=[v,w]∧SR K H0 σ ρ (v::w::ts) (a::b::as) H:=by
 obtain⟨v,w,rfl⟩:=len2 hl
 exact⟨v,w,rfl,s⟩
theorem bi_lenL{ds:List PyData}(ha:a.data=.list ds)(q:Q (.av (.d (.int ds.length))))(na:NR a:=by first|exact NR.av|exact NR.bor):Bi K E X (rLen K) [a] Q:=fun H0 σ ρ ts as H vs QV s hl _ k=>by
 obtain⟨v,rfl,s⟩:=one_of s hl
 exact rd_lenRL (ha▸s.top na) (k _ q _ H (s.pop.int _))
theorem bi_lenT{ds:List PyData}(ha:a.data=.tuple ds)(q:Q (.av (.d (.int ds.length))))(na:NR a:=by first|exact NR.av|exact NR.bor):Bi K E X (rLen K) [a] Q:=fun H0 σ ρ ts as H vs QV s hl _ k=>by
 obtain⟨v,rfl,s⟩:=one_of s hl
 exact rd_lenRT (ha▸s.top na) (k _ q _ H (s.pop.int _))
theorem datas_d(ds:List PyData):AV.datas (ds.map AV.d)=ds:=by
 induction ds with
 | nil=>rfl
 | cons d ds ih=>rw[List.map_cons,AV.datas,ih];rfl
theorem SR.items{es:List PyData}(s:SR K H0 σ ρ (v::ts) (a::as) H)(h:a=.av (.d a.data)∨noLsts es=true)(P:List V→Prop)(hx:∀ G,Rep K G v a.data→Same G H→∃ xs,P xs∧Reps K G xs es)(na:NR a):∃ xs,P xs∧xs.length=es.length∧SR K H0 σ ρ (xs++ts) ((es.map AV.d).map TV.av++as) H:=by
 have fin:∀ {p q:Fp} {xs:List V} {es:List PyData},Reps K (hid H p q) xs es→RTs K (hid H p q) H ts as q→RTs K (hid H p q) H (xs++ts) ((es.map AV.d).map TV.av++as) q:=by
  intro p q xs es r rt
  induction r using Reps.rec (motive_1:=fun _ _ _=>True) with
  | nil=>exact rt
  | cons r rs _ ih=>exact .cons (.av (.d (p:=fun _=>0) r fun _=>rfl)) ih fun b=>by simp
  | _=>trivial
 rcases h with e|hn
 ·rw[e] at s
  obtain⟨⟨p,q,h1,h2,h3,h4⟩,e'⟩:=s
  cases h2 with
  | @cons _ _ _ _ q1 q2 _ r rs z=>cases r with
   | av r=>cases r with
    | d rp w =>
     obtain⟨xs,px,this⟩:=hx _ rp hid_le
     have eh:hid H p q=hid H p q2:=hid_eq fun b=>by have:=z b;have:=w b;omega
     rw[eh] at this h1 rs
     exact⟨xs,px,this.length,⟨p,q2,h1,fin this rs,fun b=>by have:=h3 b;have:=z b;omega,fun b y=>h4 b (by have:=z b;omega)⟩,e'⟩
 ·obtain⟨xs,px,this⟩:=hx H (s.top na) (.refl H)
  obtain⟨⟨p,q,h1,h2,h3,h4⟩,e'⟩:=s.pop
  exact⟨xs,px,this.length,⟨p,q,h1,fin (Reps.hid (SR.lsts h1 h2) hn this) h2,h3,h4⟩,e'⟩
noncomputable def Kp(a:TV)(es:List PyData):Prop:=a=.av (.d a.data)∨noLsts es=true
theorem Kp.d{x:PyData}{es:List PyData}:Kp (.av (.d x)) es:=.inl rfl
theorem Kp.flat{es:List PyData}(h:noLsts es=true):Kp a es:=.inr h
theorem bi_tupL{ds:List PyData}(ha:a.data=.list ds)(h:Kp a.frz ds)(q:Q (.av (.d (.tuple ds))))(na:NR a:=by first|exact NR.av|exact NR.bor):Bi K E X (rTpl K) [a] Q:=fun H0 σ ρ ts as H vs QV s hl _ k=>by
 obtain⟨v,rfl,s⟩:=one_of s hl
 obtain⟨xs,⟨l,e,h1⟩,h2,s'⟩:=s.frzV.items h (fun xs=>∃ l,v=.ref l∧SqL K H l xs) (fun G rp sm=>by
  rw[TV.frz_data,ha] at rp
  obtain⟨l,xs,e,h3,h4⟩:=rp.list_inv
  exact⟨xs,⟨l,e,sm.seq h3⟩,h4⟩) (TV.frz_nr na)
 refine⟨l,xs,by rw[e],.inl ⟨h1,fun p hp=>k _ q _ _ ?_⟩⟩
 have:=SR.newT s' (by rw[List.length_map,h2]) hp
 rw[datas_d] at this
 exact this
theorem bi_isi{c:String}{cc:Bool}(na:NR a)(nd:isD a.data=false)(e:PySem.W.kitOne K (.type (tyD a.data)) (.type c)=some cc)(q:Q (.av (.d (.bool cc)))):Bi K E X (rIsi2 K) [a,.raw (.ty c)] Q:=fun H0 σ ρ ts as H vs QV s hl _ k=>by
 obtain⟨v,w,rfl,s⟩:=two_of s hl
 have:=s.pop.raw
 subst this
 exact rd_isiD (s.top na) nd rfl e (k _ q _ H (s.pop.pop.bl _))
theorem isi_int_int(q:Q (.av (.d (.bool true)))):Bi K E X (rIsi2 K) [.av (.d (.int i)),.raw (.ty "int")] Q:=bi_isi NR.av rfl rfl q
theorem isi_int_bool(q:Q (.av (.d (.bool false)))):Bi K E X (rIsi2 K) [.av (.d (.int i)),.raw (.ty "bool")] Q:=bi_isi NR.av rfl kit_int_bool q
theorem isi_tuple{ds:List PyData}(ha:a.data=.tuple ds)(q:Q (.av (.d (.bool true))))(na:NR a:=by first|exact NR.av|exact NR.bor):Bi K E X (rIsi2 K) [a,.raw (.ty "tuple")] Q:=bi_isi na (by rw[ha];rfl) (by rw[ha];rfl) q
theorem isi_str{c:Str}(ha:a.data=.str c)(q:Q (.av (.d (.bool true))))(na:NR a:=by first|exact NR.av|exact NR.bor):Bi K E X (rIsi2 K) [a,.raw (.ty "str")] Q:=bi_isi na (by rw[ha];rfl) (by rw[ha];rfl) q
theorem bools_inv{G:Hp}:∀ {cs:List Bool} {xs:List V},Reps K G xs (cs.map PyData.bool)→xs=cs.map V.bl
 | [],_,.nil=>rfl
 | c::cs,_,.cons r rs=>by rw[Rep.bl_inv r,bools_inv rs];rfl
theorem bi_all{cs:List Bool}(ha:a.data=.list (cs.map .bool))(q:Q (.av (.d (.bool (cs.all id)))))(na:NR a:=by first|exact NR.av|exact NR.bor):Bi K E X (rAllB K) [a] Q:=fun H0 σ ρ ts as H vs QV s hl _ k=>by
 obtain⟨v,rfl,s⟩:=one_of s hl
 have rp:=s.top na
 rw[ha] at rp
 obtain⟨l,xs,rfl,h1,h2⟩:=rp.list_inv
 have:=bools_inv h2
 subst this
 exact⟨l,cs,rfl,h1,k _ q _ H (s.pop.bl _)⟩
theorem op_catL{ds es:List PyData}(ha:a.data=.list ds)(hb:b.data=.list es)(ka:Kp a.frz ds)(kb:Kp b.frz es)(hz:ds.length+es.length≤1000000)(q:Q (.av (.own ((ds++es).map AV.d))))(na:NR a:=by first|exact NR.av|exact NR.bor)(nb:NR b:=by first|exact NR.av|exact NR.bor):Op K E X (rCatS K) a b Q:=fun H0 σ ρ ts as H x y QV s _ k=>by
 obtain⟨ys,⟨l2,e2,h2⟩,hl2,s2⟩:=s.frzV.items kb (fun ys=>∃ l,y=.ref l∧SqL K H l ys) (fun G rp sm=>by
  rw[TV.frz_data,hb] at rp
  obtain⟨l,xs,e,h3,h4⟩:=rp.list_inv
  exact⟨xs,⟨l,e,sm.seq h3⟩,h4⟩) (TV.frz_nr nb)
 have s3:SR K H0 σ ρ (x::(ys++ts)) (a::((es.map AV.d).map TV.av++as)) H:=SR.rot (by rw[List.length_map,List.length_map,hl2]) s2
 obtain⟨xs,⟨l1,e1,h1⟩,hl1,s4⟩:=s3.frzV.items ka (fun ys=>∃ l,x=.ref l∧SqL K H l ys) (fun G rp sm=>by
  rw[TV.frz_data,ha] at rp
  obtain⟨l,xs,e,h3,h4⟩:=rp.list_inv
  exact⟨xs,⟨l,e,sm.seq h3⟩,h4⟩) (TV.frz_nr na)
 refine⟨l1,l2,xs,ys,e1,e2,h1,h2,Nat.le_of_lt (small6 (by omega)),fun p hp=>k _ q _ _ (SR.new (xs:=(ds++es).map AV.d) ?_ (by rw[List.length_append,List.length_map,List.length_append,hl1,hl2]) hp)⟩
 rw[List.append_assoc,List.map_append,List.map_append,List.append_assoc]
 exact s4
noncomputable def To(t:TO)(ρ:Sl)(K:W.Frag)(E:FK)(X:Exc→Sl→Prop)(Q:Option Int→Prop):Prop :=
 ∀ (H0:Hp) (σ:St) (ts:List V) (as:List TV) (H:Hp) (QV:Option Int→Hp→Prop),SR K H0 σ ρ ts as H→XOk K E X H0→(∀ o,Q o→∀ H',SR K H0 σ ρ ts as H'→QV o H')→t σ H QV
theorem to_no{P:Option Int→Prop}(q:P none):To tNoPart ρ K E X P:=fun H0 σ ts as H QV s x k=>k _ q H s
theorem to_part{P:Option Int→Prop}(h:Ev K E X te ρ fun a=>∃ i,a=.av (.d (.int i))∧P (some i)):To (tPart te) ρ K E X P:=fun H0 σ ts as H QV s x k =>
 h H0 σ ts as H _ s x fun a ⟨i,e,q⟩ v H' s'=>by subst e;exact⟨i,s'.top_d.int_inv,k _ q H' s'.pop⟩
end
end VL
end
section
namespace VL
open PySem PySem.Spec L2
variable[Tabs]
section
variable{K:W.Frag}{E:FK}{X:Exc→Sl→Prop}{Q:TV→Prop}{nx bk ct:Sl→Prop}{rt:TV→Prop}{ta tb te:TE}{x:PyData}{r:Sl}{a:AV}
theorem ev_v0(q:Q (.av (.d x))):Ev K E X (tVar 0) (some (.d x)::r) Q:=ev_var rfl q
theorem gv_0{o:Option AV}{P:Sl→Prop}(h:P (some (.d x)::r)):Gv K (gName 0) x (o::r) P:=gv_name (n:=0) h (by simp only[List.length_cons];omega)
theorem wk_0{o:Option AV}:Wk (o::r) (none::r):=fun _ _ _ _ _ _ s=>s.drop (i:=0)
theorem ev_v1{s0:Option AV}(q:Q (.av (.d x))):Ev K E X (tVar 1) (s0::some (.d x)::r) Q:=ev_var rfl q
theorem ev_o1{s0:Option AV}{xs:List AV}(q:Q (.bor (.list (AV.datas xs)))):Ev K E X (tVar 1) (s0::some (.own xs)::r) Q:=ev_varB rfl q
theorem sv_a1{s0:Option AV}{o:Option AV}(h:Ev K E X te (s0::o::r) fun a=>∃ a',Sto (s0::o::r) a a'∧nx (s0::some a'::r)):Sv K E X (tAsg te (gName 1)) (s0::o::r) ⟨nx,rt,bk,ct⟩:=sv_asg (n:=1) h (by simp only[List.length_cons];omega)
theorem gv_1{s0:Option AV}{o:Option AV}{P:Sl→Prop}(h:P (s0::some (.d x)::r)):Gv K (gName 1) x (s0::o::r) P:=gv_name (n:=1) h (by simp only[List.length_cons];omega)
theorem sv_ap1{s0:Option AV}{xs:List AV}(h:Ev K E X te (s0::some (.own xs)::r) fun a=>∃ a',a.sto=some a'∧xs.length≤1000000∧nx (s0::some (.own (xs++[a']))::r)):Sv K E X (tDrop (tBM K "list" rAppend (tVar 1) (tCons te tNil))) (s0::some (.own xs)::r) ⟨nx,rt,bk,ct⟩:=sv_append (n:=1) rfl h
theorem wk_1{s0:Option AV}{o:Option AV}:Wk (s0::o::r) (s0::none::r):=fun _ _ _ _ _ _ s=>s.drop (i:=1)
theorem ev_v2{s0 s1:Option AV}(q:Q (.av (.d x))):Ev K E X (tVar 2) (s0::s1::some (.d x)::r) Q:=ev_var rfl q
theorem ev_o2{s0 s1:Option AV}{xs:List AV}(q:Q (.bor (.list (AV.datas xs)))):Ev K E X (tVar 2) (s0::s1::some (.own xs)::r) Q:=ev_varB rfl q
theorem sv_a2{s0 s1:Option AV}{o:Option AV}(h:Ev K E X te (s0::s1::o::r) fun a=>∃ a',Sto (s0::s1::o::r) a a'∧nx (s0::s1::some a'::r)):Sv K E X (tAsg te (gName 2)) (s0::s1::o::r) ⟨nx,rt,bk,ct⟩:=sv_asg (n:=2) h (by simp only[List.length_cons];omega)
theorem gv_2{s0 s1:Option AV}{o:Option AV}{P:Sl→Prop}(h:P (s0::s1::some (.d x)::r)):Gv K (gName 2) x (s0::s1::o::r) P:=gv_name (n:=2) h (by simp only[List.length_cons];omega)
theorem sv_ap2{s0 s1:Option AV}{xs:List AV}(h:Ev K E X te (s0::s1::some (.own xs)::r) fun a=>∃ a',a.sto=some a'∧xs.length≤1000000∧nx (s0::s1::some (.own (xs++[a']))::r)):Sv K E X (tDrop (tBM K "list" rAppend (tVar 2) (tCons te tNil))) (s0::s1::some (.own xs)::r) ⟨nx,rt,bk,ct⟩:=sv_append (n:=2) rfl h
theorem ev_v3{s0 s1 s2:Option AV}(q:Q (.av (.d x))):Ev K E X (tVar 3) (s0::s1::s2::some (.d x)::r) Q:=ev_var rfl q
theorem sv_a3{s0 s1 s2:Option AV}{o:Option AV}(h:Ev K E X te (s0::s1::s2::o::r) fun a=>∃ a',Sto (s0::s1::s2::o::r) a a'∧nx (s0::s1::s2::some a'::r)):Sv K E X (tAsg te (gName 3)) (s0::s1::s2::o::r) ⟨nx,rt,bk,ct⟩:=sv_asg (n:=3) h (by simp only[List.length_cons];omega)
theorem gv_3{s0 s1 s2:Option AV}{o:Option AV}{P:Sl→Prop}(h:P (s0::s1::s2::some (.d x)::r)):Gv K (gName 3) x (s0::s1::s2::o::r) P:=gv_name (n:=3) h (by simp only[List.length_cons];omega)
theorem ev_v4{s0 s1 s2 s3:Option AV}(q:Q (.av (.d x))):Ev K E X (tVar 4) (s0::s1::s2::s3::some (.d x)::r) Q:=ev_var rfl q
theorem sv_a4{s0 s1 s2 s3:Option AV}{o:Option AV}(h:Ev K E X te (s0::s1::s2::s3::o::r) fun a=>∃ a',Sto (s0::s1::s2::s3::o::r) a a'∧nx (s0::s1::s2::s3::some a'::r)):Sv K E X (tAsg te (gName 4)) (s0::s1::s2::s3::o::r) ⟨nx,rt,bk,ct⟩:=sv_asg (n:=4) h (by simp only[List.length_cons];omega)
theorem gv_4{s0 s1 s2 s3:Option AV}{o:Option AV}{P:Sl→Prop}(h:P (s0::s1::s2::s3::some (.d x)::r)):Gv K (gName 4) x (s0::s1::s2::s3::o::r) P:=gv_name (n:=4) h (by simp only[List.length_cons];omega)
theorem sv_ap4{s0 s1 s2 s3:Option AV}{xs:List AV}(h:Ev K E X te (s0::s1::s2::s3::some (.own xs)::r) fun a=>∃ a',a.sto=some a'∧xs.length≤1000000∧nx (s0::s1::s2::s3::some (.own (xs++[a']))::r)):Sv K E X (tDrop (tBM K "list" rAppend (tVar 4) (tCons te tNil))) (s0::s1::s2::s3::some (.own xs)::r) ⟨nx,rt,bk,ct⟩:=sv_append (n:=4) rfl h
theorem ev_v5{s0 s1 s2 s3 s4:Option AV}(q:Q (.av (.d x))):Ev K E X (tVar 5) (s0::s1::s2::s3::s4::some (.d x)::r) Q:=ev_var rfl q
theorem sv_a5{s0 s1 s2 s3 s4:Option AV}{o:Option AV}(h:Ev K E X te (s0::s1::s2::s3::s4::o::r) fun a=>∃ a',Sto (s0::s1::s2::s3::s4::o::r) a a'∧nx (s0::s1::s2::s3::s4::some a'::r)):Sv K E X (tAsg te (gName 5)) (s0::s1::s2::s3::s4::o::r) ⟨nx,rt,bk,ct⟩:=sv_asg (n:=5) h (by simp only[List.length_cons];omega)
theorem gv_5{s0 s1 s2 s3 s4:Option AV}{o:Option AV}{P:Sl→Prop}(h:P (s0::s1::s2::s3::s4::some (.d x)::r)):Gv K (gName 5) x (s0::s1::s2::s3::s4::o::r) P:=gv_name (n:=5) h (by simp only[List.length_cons];omega)
theorem ev_v6{s0 s1 s2 s3 s4 s5:Option AV}(q:Q (.av (.d x))):Ev K E X (tVar 6) (s0::s1::s2::s3::s4::s5::some (.d x)::r) Q:=ev_var rfl q
theorem sv_a6{s0 s1 s2 s3 s4 s5:Option AV}{o:Option AV}(h:Ev K E X te (s0::s1::s2::s3::s4::s5::o::r) fun a=>∃ a',Sto (s0::s1::s2::s3::s4::s5::o::r) a a'∧nx (s0::s1::s2::s3::s4::s5::some a'::r)):Sv K E X (tAsg te (gName 6)) (s0::s1::s2::s3::s4::s5::o::r) ⟨nx,rt,bk,ct⟩:=sv_asg (n:=6) h (by simp only[List.length_cons];omega)
theorem ev_v7{s0 s1 s2 s3 s4 s5 s6:Option AV}(q:Q (.av (.d x))):Ev K E X (tVar 7) (s0::s1::s2::s3::s4::s5::s6::some (.d x)::r) Q:=ev_var rfl q
theorem sv_a7{s0 s1 s2 s3 s4 s5 s6:Option AV}{o:Option AV}(h:Ev K E X te (s0::s1::s2::s3::s4::s5::s6::o::r) fun a=>∃ a',Sto (s0::s1::s2::s3::s4::s5::s6::o::r) a a'∧nx (s0::s1::s2::s3::s4::s5::s6::some a'::r)):Sv K E X (tAsg te (gName 7)) (s0::s1::s2::s3::s4::s5::s6::o::r) ⟨nx,rt,bk,ct⟩:=sv_asg (n:=7) h (by simp only[List.length_cons];omega)
theorem ev_v8{s0 s1 s2 s3 s4 s5 s6 s7:Option AV}(q:Q (.av (.d x))):Ev K E X (tVar 8) (s0::s1::s2::s3::s4::s5::s6::s7::some (.d x)::r) Q:=ev_var rfl q
theorem sv_a8{s0 s1 s2 s3 s4 s5 s6 s7:Option AV}{o:Option AV}(h:Ev K E X te (s0::s1::s2::s3::s4::s5::s6::s7::o::r) fun a=>∃ a',Sto (s0::s1::s2::s3::s4::s5::s6::s7::o::r) a a'∧nx (s0::s1::s2::s3::s4::s5::s6::s7::some a'::r)):Sv K E X (tAsg te (gName 8)) (s0::s1::s2::s3::s4::s5::s6::s7::o::r) ⟨nx,rt,bk,ct⟩:=sv_asg (n:=8) h (by simp only[List.length_cons];omega)
theorem ev_v9{s0 s1 s2 s3 s4 s5 s6 s7 s8:Option AV}(q:Q (.av (.d x))):Ev K E X (tVar 9) (s0::s1::s2::s3::s4::s5::s6::s7::s8::some (.d x)::r) Q:=ev_var rfl q
theorem sv_a9{s0 s1 s2 s3 s4 s5 s6 s7 s8:Option AV}{o:Option AV}(h:Ev K E X te (s0::s1::s2::s3::s4::s5::s6::s7::s8::o::r) fun a=>∃ a',Sto (s0::s1::s2::s3::s4::s5::s6::s7::s8::o::r) a a'∧nx (s0::s1::s2::s3::s4::s5::s6::s7::s8::some a'::r)):Sv K E X (tAsg te (gName 9)) (s0::s1::s2::s3::s4::s5::s6::s7::s8::o::r) ⟨nx,rt,bk,ct⟩:=sv_asg (n:=9) h (by simp only[List.length_cons];omega)
theorem s_seq{t u:TS}{ρ:Sl}(h:Sv K E X t ρ ⟨fun ρ'=>Sv K E X u ρ' ⟨nx,rt,bk,ct⟩,rt,bk,ct⟩):Sv K E X (tSeq t u) ρ ⟨nx,rt,bk,ct⟩:=sv_seq h
theorem s_next{ρ:Sl}(h:nx ρ):Sv K E X tNext ρ ⟨nx,rt,bk,ct⟩:=sv_next h
theorem s_drop{ρ:Sl}(h:Ev K E X te ρ fun _=>nx ρ):Sv K E X (tDrop te) ρ ⟨nx,rt,bk,ct⟩:=sv_drop h
theorem s_ret{ρ:Sl}(h:Ev K E X te ρ rt):Sv K E X (tRet te) ρ ⟨nx,rt,bk,ct⟩:=sv_ret h
theorem s_if{c:TT}{t u:TS}{ρ:Sl}(h:Tv K E X c ρ fun b=>if b=true then Sv K E X t ρ ⟨nx,rt,bk,ct⟩ else Sv K E X u ρ ⟨nx,rt,bk,ct⟩):Sv K E X (tIfS c t u) ρ ⟨nx,rt,bk,ct⟩:=sv_if h
end
end VL
end
section
namespace L2
open PySem PySem.Spec PyProof.Rows
section
variable{X:Cx}{K:W.Frag}
noncomputable def rOr(r r':R2):R2:=fun x y H Q=>r x y H Q∨r' x y H Q
noncomputable def rStr2:R2:=fun x y H Q=>∃ i j,x=.str i∧y=.str j∧i.length+j.length≤sizeLine∧Q (.str (i++j)) H
noncomputable def rAddI:R2:=rI0 fun i j=>.int (i+j)
noncomputable def rMulI:R2:=rI CMul fun i j=>.int (i*j)
noncomputable def rCatT0(K:W.Frag):R2:=fun x y H Q=>∃ a b ys,x=.ref a∧y=.ref b∧SqT K H a []∧SqT K H b ys∧Q (.ref b) H
theorem cat_tup0{prog:Program}{w:World}{A:Around}{E:Value→Shared→Prop}{s:Shared}{t b:Addr}{ws:List Value}{Q:Value→Shared→Prop}(ht:IsTup s.heap t ([]:List Value).toArray)(hb:IsTup s.heap b ws.toArray)
  (h1:Q (.ref b) s):wpAny (model prog w) A (binaryOp .Add (.ref t) (.ref b)) Q E s:=by
 obtain⟨⟨cls,dd,data,sl⟩,ho,hc,n,hd⟩:=id ht
 obtain⟨⟨cls2,dd2,data2,sl2⟩,ho2,hc2,n2,hd2⟩:=id hb
 simp only at hc hd hc2 hd2
 subst hc hd hc2 hd2
 exact concat_meets ⟨_,ho,rfl⟩ ⟨_,ho2,rfl⟩ noFill_tuple_add seq_tuple_add PySem.F.slot_tuple_add PySem.F.entry_tuple_add (PySem.F.args_tuple_add_2 _ _)
   (tuple_addW0 t b #[] ws.toArray n n2 dd dd2 sl sl2 rfl) ⟨ho,ho2,h1⟩
theorem op_catT0(hK:X.K=K):OpR X (binaryOp .Add) (rCatT0 K):=by
 subst hK
 intro pins s σ H x y v u Q I rx ry h
 obtain⟨a,b,ys,rfl,rfl,ha,hb,q⟩:=h
 cases rx
 cases ry
 obtain⟨its,r1,p1,_⟩:=I.tuple ha
 obtain⟨its2,r2,p2,_⟩:=I.tuple hb
 cases r1
 exact cat_tup0 p1 p2 ⟨.ref b,H,I,rfl,q⟩
theorem op_plus(hK:X.K=K):OpR X (binaryOp .Add) (rOr rAddI (rOr (rCatS K) (rOr (rCatT K) (rOr rStr2 (rCatT0 K))))):=op_add.or ((op_catS hK).or ((op_catTK hK).or (op_add_str.or (op_catT0 hK))))
theorem op_times:OpR X (binaryOp .Mult) (rOr rMulI rRep):=op_mul.or op_rep
theorem op_equ(hK:X.K=K)(hu:X.A.units+64<cLine):OpR X (compareOp .Eq) (rOr rEq (rEqD K)):=op_eq.or (op_eqDK hK hu)
theorem op_neq(hK:X.K=K)(hu:X.A.units+64<cLine):OpR X (compareOp .NotEq) (rOr rNe (rNeD K)):=op_ne.or (op_neDK hK hu)
theorem ix_any(hK:X.K=K)(hu:X.A.units+64<cLine):IxR X (rOr (rIxL K) (rOr (rIxT K) (rOr rIxS rIxDc))):=by subst hK;exact ix_list.or (ix_tup.or (ix_str.or (ix_dct hu)))
noncomputable def slOr(r r':V→Option Int→Option Int→Hp→VK→Prop):V→Option Int→Option Int→Hp→VK→Prop:=fun x lo hi H Q=>r x lo hi H Q∨r' x lo hi H Q
theorem sl_any(hK:X.K=K):SlR X (slOr (rSlL K) (rSlT K)):=by subst hK;exact sl_list.or sl_tup
noncomputable def cOr(r r':List V→Hp→VK→Prop):List V→Hp→VK→Prop:=fun xs H Q=>r xs H Q∨r' xs H Q
noncomputable def rLenS:List V→Hp→VK→Prop:=fun xs H Q=>∃ z,xs=[.str z]∧z.length≤sizeLine∧Q (.int z.length) H
theorem call_lenAny(hK:X.K=K):CallR X (.builtin "len") (cOr (rLen K) rLenS):=by subst hK;exact call_lenS.or call_len_str
noncomputable def iSeq(K:W.Frag)(tl:TE):TI:=fun σ H R=>tl σ H fun x H1=>∃ a,x=.ref a∧(((∃ xs,SqL K H1 a xs)∧R (Itl K a) H1)∨((∃ xs,SqT K H1 a xs)∧R (Itt K a) H1))
theorem pi_seq{tg l:Expr}{tl:TE}(hK:X.K=K)(hl:PE X l tl):PI X tg l (iSeq K tl):=by
 subst hK
 intro pins s σ H R I h
 refine thn (hl pins s σ H _ I h) fun v s1 ⟨x,H1,I1,r1,q1⟩=>?_
 obtain⟨a,e,q⟩:=q1
 subst e
 cases r1
 have fr:∀ b∈[s1.heap.objs.size],FpOk X pins H1 b:=fun b hb=>by
  rw[List.mem_singleton.mp hb]
  exact I1.fpOk (Nat.le_refl _) (I1.hok.fresh (Nat.le_refl _))
 rcases q with⟨⟨xs,hq⟩,q⟩|⟨⟨xs,hq⟩,q⟩
 ·obtain⟨its,_,p,_⟩:=I1.list hq
  exact wpAny_pyIter_list p.isList ⟨s1.heap.objs.size,_,_,_,H1,rfl,I1.kept (t':=s1.toks) fun b o e=>Heap.get?_push_of_some _ e,turn_list a _,⟨_,Heap.get?_push_size _ rfl,rfl,rfl⟩,fr,q⟩
 ·obtain⟨its,_,p,_⟩:=I1.tuple hq
  exact wpAny_pyIter_tuple (show s1.heap.IsTuple a its.toArray from p) ⟨s1.heap.objs.size,_,_,_,H1,rfl,I1.kept (t':=s1.toks) fun b o e=>Heap.get?_push_of_some _ e,turn_tuple a _,⟨_,Heap.get?_push_size _ rfl,rfl,rfl⟩,fr,q⟩
end
end L2
namespace VL
open PySem PySem.Spec L2
variable[Tabs]
section
variable{K:W.Frag}{E:FK}{X:Exc→Sl→Prop}{ρ:Sl}{Q:TV→Prop}{DV:VEnds}{ta tb te:TE}{i j:Int}{n:Nat}{r r':R2}{t u:TS}{a b:TV}
theorem op_l(h:Op K E X r a b Q):Op K E X (rOr r r') a b Q:=fun H0 σ ρ ts as H x y QV s x' k=>.inl (h H0 σ ρ ts as H x y QV s x' k)
theorem op_r(h:Op K E X r' a b Q):Op K E X (rOr r r') a b Q:=fun H0 σ ρ ts as H x y QV s x' k=>.inr (h H0 σ ρ ts as H x y QV s x' k)
noncomputable abbrev rPlus(K:W.Frag):R2:=rOr rAddI (rOr (rCatS K) (rOr (rCatT K) (rOr rStr2 (rCatT0 K))))
theorem add_i(q:Q (.av (.d (.int (i+j))))):Op K E X (rOr rAddI r') (.av (.d (.int i))) (.av (.d (.int j))) Q:=op_l (op_i0 q)
theorem mul_i(c:CMul i j)(q:Q (.av (.d (.int (i*j))))):Op K E X (rOr rMulI r') (.av (.d (.int i))) (.av (.d (.int j))) Q:=op_l (op_i c q)
theorem eq_i(q:Q (.av (.d (.bool (decide (i=j)))))):Op K E X (rOr rEq r') (.av (.d (.int i))) (.av (.d (.int j))) Q:=op_l (op_eqI q)
theorem ne_i(q:Q (.av (.d (.bool (!decide (i=j)))))):Op K E X (rOr rNe r') (.av (.d (.int i))) (.av (.d (.int j))) Q:=op_l (op_neI q)
theorem eq_d{α:Type}[DecidableEq α]{f:α→PyData}{m:Nat}{c d:α}(F:Enc f m)(ha:a.data=f c)(hb:b.data=f d)(q:Q (.av (.d (.bool (decide (c=d))))))(na:NR a:=by first|exact NR.av|exact NR.bor)(nb:NR b:=by first|exact NR.av|exact NR.bor)(hm:m≤32:=by decide):Op K E X (rOr rEq (rEqD K)) a b Q:=op_r (op_eqd F ha hb q na nb hm)
theorem ne_d{α:Type}[DecidableEq α]{f:α→PyData}{m:Nat}{c d:α}(F:Enc f m)(ha:a.data=f c)(hb:b.data=f d)(q:Q (.av (.d (.bool (!decide (c=d))))))(na:NR a:=by first|exact NR.av|exact NR.bor)(nb:NR b:=by first|exact NR.av|exact NR.bor)(hm:m≤32:=by decide):Op K E X (rOr rNe (rNeD K)) a b Q:=op_r (op_ned F ha hb q na nb hm)
noncomputable abbrev rIdx(K:W.Frag):R2:=rOr (rIxL K) (rOr (rIxT K) (rOr rIxS rIxDc))
theorem ix_L{ds:List PyData}{y:PyData}{c:TV}{k:Int}(ha:a.data=.list ds)(e:atI ds k=some y)(it:Item a y c)(q:Q c)(na:NR a:=by first|exact NR.av|exact NR.bor):Op K E X (rIdx K) a (.av (.d (.int k))) Q:=op_l (op_ixL ha e it q na)
theorem ix_T{ds:List PyData}{y:PyData}{c:TV}{k:Int}(ha:a.data=.tuple ds)(e:atI ds k=some y)(it:Item a y c)(q:Q c)(na:NR a:=by first|exact NR.av|exact NR.bor):Op K E X (rIdx K) a (.av (.d (.int k))) Q:=op_r (op_l (op_ixT ha e it q na))
theorem cat_L{ds es:List PyData}(ha:a.data=.list ds)(hb:b.data=.list es)(ka:Kp a.frz ds)(kb:Kp b.frz es)(hz:ds.length+es.length≤1000000)(q:Q (.av (.own ((ds++es).map AV.d))))(na:NR a:=by first|exact NR.av|exact NR.bor)(nb:NR b:=by first|exact NR.av|exact NR.bor):Op K E X (rPlus K) a b Q:=op_r (op_l (op_catL ha hb ka kb hz q na nb))
theorem bi_l{c c':List V→Hp→VK→Prop}{bs:List TV}(h:Bi K E X c bs Q):Bi K E X (cOr c c') bs Q:=fun H0 σ ρ ts as H vs QV s hl x k=>.inl (h H0 σ ρ ts as H vs QV s hl x k)
theorem len_L{ds:List PyData}(ha:a.data=.list ds)(q:Q (.av (.d (.int ds.length))))(na:NR a:=by first|exact NR.av|exact NR.bor):Bi K E X (cOr (rLen K) rLenS) [a] Q:=bi_l (bi_lenL ha q na)
theorem len_T{ds:List PyData}(ha:a.data=.tuple ds)(q:Q (.av (.d (.int ds.length))))(na:NR a:=by first|exact NR.av|exact NR.bor):Bi K E X (cOr (rLen K) rLenS) [a] Q:=bi_l (bi_lenT ha q na)
theorem it_list{l:Addr}{ds:List PyData}:ItOk K (Itl K l) (.ref l) (.list ds) ds.length fun i=>ds.getD i .none:=by
 intro G H sm rp
 obtain⟨l',ys,e',h3,h4⟩:=rp.list_inv
 cases e'
 have h5:=sm.seq h3
 refine⟨fun i hi=>?_,fun i hi=>⟨ys,h5,by rw[h4.length];exact hi⟩⟩
 obtain⟨w,h6,h7⟩:=h4.get (i:=i) (d:=ds.getD i .none) (by rw[List.getD_eq_getElem?_getD,List.getElem?_eq_getElem hi];rfl)
 refine⟨⟨ys,w,h5,h6⟩,fun x H' ⟨e1,e2⟩=>?_⟩
 subst e1
 have:=e2 ys h5
 rw[h6] at this
 cases this
 exact⟨.refl _,fun G' m _=>h7.same m⟩
theorem it_tuple{l:Addr}{ds:List PyData}:ItOk K (Itt K l) (.ref l) (.tuple ds) ds.length fun i=>ds.getD i .none:=by
 intro G H sm rp
 obtain⟨l',ys,e',h3,h4⟩:=rp.tuple_inv
 cases e'
 have h5:=sm.tupS h3
 refine⟨fun i hi=>?_,fun i hi=>⟨ys,h5,by rw[h4.length];exact hi⟩⟩
 obtain⟨w,h6,h7⟩:=h4.get (i:=i) (d:=ds.getD i .none) (by rw[List.getD_eq_getElem?_getD,List.getElem?_eq_getElem hi];rfl)
 refine⟨⟨ys,w,h5,h6⟩,fun x H' ⟨e1,e2⟩=>?_⟩
 subst e1
 have:=e2 ys h5
 rw[h6] at this
 cases this
 exact⟨.refl _,fun G' m _=>h7.same m⟩
theorem iv_seq{P:Nat→(Nat→PyData)→TV→Prop}(h:Ev K E X te ρ fun a=>∃ ds,(a.data=.list ds∨a.data=.tuple ds)∧NR a∧P ds.length (fun i=>ds.getD i .none) a.frz):Iv K E X (iSeq K te) ρ P:=fun H0 σ ts as H R s x k =>
 h H0 σ ts as H _ s x fun a ⟨ds,e,na,q⟩ v H' s'=>by
  have rp:=s'.top na
  rcases e with e|e
  ·rw[e] at rp
   obtain⟨l,xs,rfl,h1,h2⟩:=rp.list_inv
   refine⟨l,rfl,.inl ⟨⟨xs,h1⟩,k _ _ _ q (.ref l) _ H' (TV.frz_nr na) s'.frzV ?_⟩⟩
   rw[TV.frz_data,e]
   exact it_list
  ·rw[e] at rp
   obtain⟨l,xs,rfl,h1,h2⟩:=rp.tuple_inv
   refine⟨l,rfl,.inr ⟨⟨xs,h1⟩,k _ _ _ q (.ref l) _ H' (TV.frz_nr na) s'.frzV ?_⟩⟩
   rw[TV.frz_data,e]
   exact it_tuple
theorem getD_map{α:Type}{xs:List α}{e:α→PyData}{i:Nat}(hi:i<xs.length):(xs.map e).getD i .none=e xs[i]:=by
 rw[List.getD_eq_getElem?_getD,List.getElem?_map,List.getElem?_eq_getElem hi];rfl
theorem for_L{α:Type}{nx bk ct:Sl→Prop}{rt:TV→Prop}{g:TG}{tb:TS}(h:Ev K E X te ρ fun a=>∃ (xs:List α) (e:α→PyData),(a.data=.list (xs.map e)∨a.data=.tuple (xs.map e))∧(∃ c,a=.av c)∧∃ Iw:Nat→Sl→Prop,Iw 0 ρ∧(∀ i ρ' (hi:i<xs.length),Iw i ρ'→Gv K g (e xs[i]) ρ' fun ρ''=>Sv K E X tb ρ'' ⟨Iw (i+1),rt,nx,Iw (i+1)⟩)∧∀ ρ',Iw xs.length ρ'→nx ρ'):Sv K E X (tFor (iSeq K te) g tb) ρ ⟨nx,rt,bk,ct⟩ :=
 sv_for (iv_seq (ev_imp h (fun a hh=>by
  obtain⟨xs,e,ha,⟨c,hc⟩,Iw,i0,turn,fin⟩:=hh
  exact⟨xs.map e,ha,by subst hc;exact NR.av,⟨c.data,by rw[hc];rfl⟩,Iw,i0,fun i ρ' hi w=>by
  rw[List.length_map] at hi
  show Gv K g ((xs.map e).getD i .none) ρ' _
  rw[getD_map hi]
  exact turn i ρ' hi w,fun ρ' w=>fin ρ' (by rw[List.length_map] at w;exact w)⟩)))
theorem for_R{nx bk ct:Sl→Prop}{rt:TV→Prop}{A:TA}{g:TG}{tb:TS}(h:Ea K E X A ρ fun bs=>∃ j,bs=[.av (.d (.int j))]∧(-(2 ^ 62)≤j∧j<2 ^ 62)∧∃ Iw:Nat→Sl→Prop,Iw 0 ρ∧(∀ (i:Nat) ρ',i<j.toNat→Iw i ρ'→Gv K g (.int i) ρ' fun ρ''=>Sv K E X tb ρ'' ⟨Iw (i+1),rt,nx,Iw (i+1)⟩)∧∀ ρ',Iw j.toNat ρ'→nx ρ'):Sv K E X (tFor (iRng1 A) g tb) ρ ⟨nx,rt,bk,ct⟩ :=
 sv_for (iv_rng1 fun H0 σ ts as H QV s x k=>h H0 σ ts as H QV s x (fun bs hh=>by
  obtain⟨j,e,hj,Iw,i0,turn,fin⟩:=hh
  exact k bs ⟨j,e,hj,⟨_,rfl⟩,Iw,i0,fun i ρ' hi w=>by
  show Gv K g (.int (0+(i:Int))) ρ' _
  rw[Int.zero_add]
  exact turn i ρ' hi w,fin⟩))
theorem range_filterMap{α:Type}(xs:List α)(f:α→Option AV):(List.range xs.length).filterMap (fun i=>(xs[i]?).bind f)=xs.filterMap f:=by
 induction xs with
 | nil=>rfl
 | cons x xs ih =>
  rw[List.length_cons,List.range_succ_eq_map,List.filterMap_cons,List.filterMap_map]
  have:(fun i=>((x::xs)[i]?).bind f) ∘ Nat.succ=fun i=>(xs[i]?).bind f:=by funext i;simp
  rw[this,ih]
  simp[List.filterMap_cons]
theorem comp_L{α:Type}{cap:List (Option Nat)}{g:TG}{tt:TT}{ti:TE}(h:Ev K E X ti ρ fun a=>∃ (xs:List α) (e:α→PyData) (y:α→Option AV),(a.data=.list (xs.map e)∨a.data=.tuple (xs.map e))∧NR a∧xs.length≤1000000 ∧
  (∀ i (hi:i<xs.length),Gv K g (e xs[i]) (capV cap ρ) fun ρ'=>Wk ρ' (capV cap ρ)∧Tv K E NE tt ρ' fun b=>if b=true then Ev K E NE te ρ' fun a=>∃ c,y xs[i]=some c∧a.sto=some c else y xs[i]=none) ∧
  ∃ a,Got (.own (xs.filterMap y)) a∧Q a):Ev K E X (tComp cap (iSeq K ti) g tt te) ρ Q :=
 ev_comp (iv_seq (ev_imp h (fun a hh=>by
  obtain⟨xs,e,y,ha,na,hl,turn,c,hg,q⟩:=hh
  exact⟨xs.map e,ha,na,by rw[List.length_map];exact hl,fun i=>(xs[i]?).bind y,fun i hi=>by
  rw[List.length_map] at hi
  show Gv K g ((xs.map e).getD i .none) _ fun ρ'=>_∧Tv K E _ tt ρ' fun b=>if b=true then Ev K E _ te ρ' fun a=>∃ c,(xs[i]?).bind y=some c∧_ else (xs[i]?).bind y=none
  rw[getD_map hi,List.getElem?_eq_getElem hi]
  exact turn i hi,c,by rw[List.length_map,range_filterMap];exact hg,q⟩)))
theorem comp_M{α:Type}{cap:List (Option Nat)}{g:TG}{ti:TE}(h:Ev K E X ti ρ fun a=>∃ (xs:List α) (e:α→PyData) (y:α→AV),(a.data=.list (xs.map e)∨a.data=.tuple (xs.map e))∧NR a∧xs.length≤1000000 ∧
  (∀ i (hi:i<xs.length),Gv K g (e xs[i]) (capV cap ρ) fun ρ'=>Wk ρ' (capV cap ρ)∧Ev K E NE te ρ' fun a=>a.sto=some (y xs[i])) ∧
  ∃ a,Got (.own (xs.map y)) a∧Q a):Ev K E X (tComp cap (iSeq K ti) g tAll te) ρ Q :=
 comp_L (α:=α) (ev_imp h (fun a hh=>by
  obtain⟨xs,e,y,ha,na,hl,turn,c,hg,q⟩:=hh
  exact⟨xs,e,fun x=>some (y x),ha,na,hl,fun i hi H0 σ ts as H v Qg s k=>turn i hi H0 σ ts as H v Qg s fun ρ' ⟨w,ev⟩=>k ρ' ⟨w,tv_all (by
  rw[if_pos rfl]
  exact ev_imp ev fun a z=>⟨_,rfl,z⟩)⟩,c,by rw[List.filterMap_eq_map'];exact hg,q⟩))
theorem own_data{α:Type}(xs:List α)(y:α→AV):(AV.own (xs.map y)).data=.list (xs.map fun x=>(y x).data):=by
 rw[AV.data,AV.datas_map,List.map_map];rfl
theorem datas_mapd{α:Type}(xs:List α)(y:α→PyData):AV.datas (xs.map fun x=>.d (y x))=xs.map y:=by
 rw[AV.datas_map,List.map_map];rfl
theorem cleans_of{xs:List AV}(h:∀ x∈xs,x.clean=true):AV.cleans xs=true:=by
 induction xs with
 | nil=>rfl
 | cons x xs ih=>simp only[AV.cleans,Bool.and_eq_true];exact⟨h x (.head _),ih fun y hy=>h y (.tail _ hy)⟩
theorem clean_map{α:Type}{xs:List α}{y:α→AV}(h:∀ x,(y x).clean=true):(AV.own (xs.map y)).clean=true:=by
 rw[AV.clean]
 exact cleans_of fun z hz=>by obtain⟨x,_,rfl⟩:=List.mem_map.mp hz;exact h x
end
end VL
end
section
namespace L2
open PySem PySem.Spec PyProof.Rows
noncomputable def tIfJ(c:TT)(t u:TS):TS:=tIfS c t u
theorem ps_ifJ{X:Cx}{pos:Pos}{c:Expr}{a b:List Stmt}{tc:TT}{t u:TS}(hc:PT X c tc)(ha:PSs X a t)(hb:PSs X b u):PS X (.If c a b pos) (tIfJ tc t u):=ps_if hc ha hb
end L2
namespace VL
open PySem PySem.Spec PyProof.Rows L2
variable[Tabs]
noncomputable def NX:List PyData→Exc→Prop:=fun _ _=>False
noncomputable def ini(N:List Str)(ds:List PyData):Sl:=ds.map (fun d=>some (.d d))++List.replicate (N.length-ds.length) none
noncomputable abbrev fin(c:AV):VEnds:=⟨fun _=>c=.d .none,fun a=>Res a c,fun _=>False,fun _=>False⟩
section
variable{P:Program}{w:World}{K:W.Frag}{mg:Str→Option Value}{base:Heap}{CX:CXT}{x qual:Str}{st:Stmt}{N ps:List Str}{dvss:List (List V)}{k:Nat}{S:List PyData→AV→Prop}
theorem val_body{t:TS}{vs:List V}{H:Hp}{Qv:VK}{E:XK}(sp:spV K S NX vs H Qv E)(h:∀ ds c,S ds c→Sv K (toF E) NE t (ini N ds) (fin c)):t { nx:=fun _ H'=>Qv .non H',rt:=Qv } (L2.start N vs) H :=
 body_ok (N:=N) sp fun ds=>⟨fun c hc=>h ds c hc,fun e he=>he.elim⟩
theorem spV_len{vs:List V}{H:Hp}{Q:VK}{E:XK}{n:Nat}(h:spV K S NX vs H Q E)(hS:∀ ds c,S ds c→ds.length=n):vs.length=n:=by
 obtain⟨_,ds,r,⟨c,hc,_⟩|⟨e,he,_⟩⟩:=h
 ·rw[r.length];exact hS ds c hc
 ·exact he.elim
theorem val(T:Tx K mg x st ps dvss)(Sc:FnScope N ps (defScope st))(hS:∀ ds c,S ds c→ds.length=ps.length)
  (hbody:∀ (f:Addr) (cdv:Value) (A:Around) (outer:List Env) (s:Shared) (H:Hp) (E:XK),Room k (A.deeper (envOfC x (defScope st) s.heap.objs.size f cdv)) →
   ∃ t,PSs (cxOf CX P w K mg base N x (defScope st) f cdv A outer s H E).nox (defBody st) t∧∀ ds c,S ds c→Sv K (toF E) NE t (ini N ds) (fin c)) :
  ∀ dvs∈dvss,Cal P w K mg base CX (k+1) x ps dvs (spV K S NX) :=
 T.cal (k:=k) Sc (fun vs H Q E h=>spV_len h hS) fun f cdv A outer s H vs Q E hr h =>
  let ⟨t,h1,h2⟩:=hbody f cdv A outer s H E hr
  ⟨t,h1,val_body h h2⟩
end
section
variable{K:W.Frag}{E:FK}{X:Exc→Sl→Prop}{ρ:Sl}{Q:TV→Prop}{DV:VEnds}{ta tb te:TE}{i j:Int}{n:Nat}{r r':R2}{t u:TS}{a b:TV}
theorem v_b{c:Bool}{P:Bool→Prop}(h:P c):∃ c',TV.av (.d (.bool c))=.av (.d (.bool c'))∧P c':=⟨c,rfl,h⟩
theorem v_i{P:Int→Prop}(h:P i):∃ c',TV.av (.d (.int i))=.av (.d (.int c'))∧P c':=⟨i,rfl,h⟩
theorem v_s{c:AV}{P:AV→Prop}(h:P c):∃ a',Sto ρ (.av c) a'∧P a':=⟨c,.inl rfl,h⟩
theorem v_sB{x:PyData}{P:AV→Prop}(hn:NoOwn ρ)(h:P (.d x)):∃ a',Sto ρ (.bor x) a'∧P a':=⟨.d x,.inr (.inr ⟨hn,⟨x,rfl⟩,rfl⟩),h⟩
theorem v_sD{c:AV}{x:PyData}{P:AV→Prop}(e:c.data=x)(h:P (.d x)):∃ a',Sto ρ (.av c) a'∧P a':=⟨.d x,.inr (.inl ⟨c,rfl,by rw[e]⟩),h⟩
theorem v_ap{c:AV}{xs:List AV}{P:AV→Prop}(hz:xs.length≤1000000)(h:P c):∃ a',(TV.av c).sto=some a'∧xs.length≤1000000∧P a':=⟨c,rfl,hz,h⟩
noncomputable def Cl(S:List PyData→AV→Prop)(dds:List PyData)(Q:TV→Prop)(bs:List TV):Prop:=NRs bs∧∃ c a,S (bs.map TV.data++dds) c∧Got c a∧Q a
theorem call_of{S:List PyData→AV→Prop}{bs:List TV}{dds:List PyData}{c:AV}(nr:NRs bs)(hS:S (bs.map TV.data++dds) c)(g:Got c a)(q:Q a):Cl S dds Q bs:=⟨nr,c,a,hS,g,q⟩
theorem ev_cN{S:List PyData→AV→Prop}{SX:List PyData→Exc→Prop}{dvs:List V}{dds:List PyData}{A:TA}{E':XK}(hd:DvDs dvs dds)(h:Ea K E X A ρ (Cl S dds Q)):Ev K E X (tCall (spV K S SX) dvs E' A) ρ Q:=fun H0 σ ts as H QV s x k =>
 h H0 σ ts as H _ s x fun bs ⟨nr,c,a,h1,h2,h3⟩ vs H' s' hl=>by
  obtain⟨rp,s2⟩:=SR.reps nr.all hl s'
  exact⟨x.t.same s2.same,bs.map TV.data++dds,rp.append hd.reps,.inl ⟨c,h1,fun v H2 r=>k a h3 v H2 (s2.gotG r h2)⟩⟩
theorem ev_c0{S:List PyData→AV→Prop}{SX:List PyData→Exc→Prop}{A:TA}{E':XK}(h:Ea K E X A ρ (Cl S [] Q)):Ev K E X (tCall (spV K S SX) [] E' A) ρ Q:=ev_cN .nil h
theorem res_d{x:PyData}{c:AV}(h:c=.d x):Res (.av (.d x)) c:=.inl (by rw[h])
theorem res_o{xs:List AV}{c:AV}(h:c=.own xs):Res (.av (.own xs)) c:=.inl (by rw[h])
theorem sv_imp{nx nx' bk ct:Sl→Prop}{rt:TV→Prop}(h:Sv K E X t ρ ⟨nx',rt,bk,ct⟩)(m:∀ ρ',nx' ρ'→nx ρ'):Sv K E X t ρ ⟨nx,rt,bk,ct⟩:=fun H0 σ ts as H D st s x f=>h H0 σ ts as H D st s x ⟨fun ρ' q=>f.nx ρ' (m ρ' q),f.bk,f.ct,f.rt⟩
theorem s_ifJ{nx bk ct:Sl→Prop}{rt:TV→Prop}{c:TT}(J:Sl→Prop)(hJ:∀ ρ',J ρ'→nx ρ')(h:Tv K E X c ρ fun b=>if b=true then Sv K E X t ρ ⟨J,rt,bk,ct⟩ else Sv K E X u ρ ⟨J,rt,bk,ct⟩):Sv K E X (tIfJ c t u) ρ ⟨nx,rt,bk,ct⟩:=sv_imp (sv_if h) hJ
theorem iteNT{A B:Prop}(h:B):if (!true)=true then A else B:=h
theorem iteNF{A B:Prop}(h:A):if (!false)=true then A else B:=h
theorem ev_l0(q:Q (.av (.own []))):Ev K E X (tLst tNil) ρ Q:=ev_lst (ea_nil ⟨[],.nil,Nat.zero_le _,q⟩)
end
end VL
end
section
namespace L2
open PySem PySem.Spec PyProof.Rows
structure Exn(tb:Bool)(B:Heap)(l:List Env)(e:Addr)(cls:Value)(d:Option Addr)(h:Heap):Prop where
 stays:B.StaysIn h
 new:B.get? e=none
 frs:h.FunFrames B l
 ob:∃ (oe:Obj) (vs:Array Value),h.get? e=some oe∧oe.cls=cls∧oe.dict=d∧oe.data=.fields vs∧1<vs.size ∧
  (if tb=true then ∃ T oT ts,vs[1]?=some (.ref T)∧B.get? T=none∧T≠e∧h.get? T=some oT∧oT.data=.fields ts∧3<ts.size else vs[1]?=some .none)
section
variable{M:Model}{A:Around}{E:Value→Shared→Prop}{s:Shared}{B:Heap}{env:Env}{outer l:List Env}{L e:Addr}{cls:Value}{d:Option Addr}{tb:Bool}{Q:Unit→Shared→Prop}
theorem rec_ne{h:Heap}{b:Addr}{o oe:Obj}{vs:Array Value}(hb:h.get? b=some o)(hn:∀ ws,o.data≠.fields ws)(he:h.get? e=some oe)(hd:oe.data=.fields vs):b≠e:=fun q=>by
 subst q
 rw[hb] at he
 cases he
 exact hn vs hd
theorem exn_entry{oe:Obj}{vs:Array Value}{head:Value}{had:Bool}(hfr:A.frames=some (env::outer))(hf:env.frame=some L)(st:B.StaysIn s.heap)(ne:B.get? e=none)(fr:s.heap.FunFrames B (env::outer))
  (he:s.heap.get? e=some oe) (hc:oe.cls=cls) (hdi:oe.dict=d) (hd:oe.data=.fields vs) (hz:1<vs.size)
  (q:∀ h',Exn true B (env::outer) e cls d h'→s.heap.UpToSlots h'→Q () { s with heap:=h' }) :
  wpAny M A (do let a ← frameOf env;let pl ← entryPlaceOf L had;let b ← EntryCells.newEntry head a .none (rawInt L) .none pl;setField (.ref e) 1 b) Q E s:=by
 have nf:e∉(env::outer).filterMap (·.frame):=fun hm=>by
  obtain⟨_,o,ho,hn⟩:=fr.mem hm
  exact rec_ne ho hn he hd rfl
 refine wpAny_bind (wpAny_frameOf_fun hfr fr hf fun h1 so=>wpAny_bind (wpAny_entryPlaceOf fun pl hpl=>?_))
 unfold EntryCells.newEntry newFields
 refine wpAny_bind (wpAny_newObj_type ?_ (hpl.sizeOk5 _ _ _ _ _))
 have e1:h1.get? e=some oe:=by rw[so.2.1 e nf];exact he
 have s1:B.StaysIn h1:=fun b o z=>by rw[so.2.1 b fun hm=>by rw[(fr.mem hm).1] at z;cases z];exact st b o z
 generalize hob:({ cls:=.type "traceback",dict:=none,data:=.fields ([head,.ref L,.none,rawInt L,.none]++(if pl.isEmpty then List.replicate 6 Value.none else pl)).toArray }:Obj)=ot
 have e2:(h1.push ot).get? e=some oe:=Heap.get?_push_of_some _ e1
 have hT:(h1.push ot).get? h1.objs.size=some ot:=Heap.get?_push_size _ (by rw[← hob];rfl)
 have nT:h1.objs.size≠e:=Nat.ne_of_gt (Heap.lt_size e1)
 refine wpAny_setField e2 hd hz (q _ ⟨fun b o z=>?_,ne,fr.of_keeps fun b o hb hn=>?_,?_⟩ fun b o hb hn=>?_)
 ·rw[Heap.get?_update_other _ _ (fun y:e=b=>by rw[← y,ne] at z;cases z)]
  exact Heap.get?_push_of_some _ (s1 b o z)
 ·obtain⟨sl,hs⟩:=so.2.2 b o hb
  exact⟨{ o with slots:=sl },by rw[Heap.get?_update_other _ _ (Ne.symm (rec_ne hb hn he hd))];exact Heap.get?_push_of_some _ hs,rfl⟩
 ·have d3:=Obj.data_mapFields hd (·.setIfInBounds 1 (Value.ref h1.objs.size))
  refine⟨_,_,Heap.get?_update_self _ e2 (Obj.isFreed_of_fields d3),?_,?_,d3,by simpa using hz,?_⟩
  ·rw[Obj.cls_mapFields];exact hc
  ·rw[← hdi];obtain⟨_,_,dt,_⟩:=oe;cases dt<;>rfl
  ·rw[if_pos rfl]
   refine⟨h1.objs.size,ot,_,by simp[hz],s1.fresh,nT,by rw[Heap.get?_update_other _ _ (Ne.symm nT)];exact hT,by rw[← hob],?_⟩
   simp only[List.size_toArray,List.length_append,List.length_cons,List.length_nil]
   omega
 ·obtain⟨sl,hs⟩:=so.2.2 b o hb
  exact⟨sl,by rw[Heap.get?_update_other _ _ (Ne.symm (rec_ne hb hn he hd))];exact Heap.get?_push_of_some _ hs⟩
theorem exn_mark{T:Addr}{oT:Obj}{ts:Array Value}{v:Value}(x:Exn true B l e cls d s.heap)(hT:∃ oe vs,s.heap.get? e=some oe∧oe.data=.fields vs∧vs[1]?=some (.ref T))(nT:B.get? T=none)(ho:s.heap.get? T=some oT)(hd:oT.data=.fields ts) :
  Exn true B l e cls d (s.heap.update T (Obj.mapFields (·.setIfInBounds 3 v)))∧s.heap.UpToSlots (s.heap.update T (Obj.mapFields (·.setIfInBounds 3 v))):=by
 obtain⟨st,ne,fr,oe,vs,he,hc,hdi,hdd,hz,ht⟩:=x
 rw[if_pos rfl] at ht
 obtain⟨T',oT',ts',h1,n1,ne1,g1,d1,z1⟩:=ht
 obtain⟨oe',vs',he',hd',h1'⟩:=hT
 rw[he] at he'
 cases he'
 rw[hdd] at hd'
 cases hd'
 rw[h1] at h1'
 cases h1'
 rw[ho] at g1
 cases g1
 rw[hd] at d1
 cases d1
 have ot:∀ b,b≠T→(s.heap.update T (Obj.mapFields (·.setIfInBounds 3 v))).get? b=s.heap.get? b:=fun b hb=>Heap.get?_update_other _ _ (Ne.symm hb)
 have d3:=Obj.data_mapFields hd (·.setIfInBounds 3 v)
 refine⟨⟨fun b o z=>?_,ne,fr.of_keeps fun b o hb hn=>⟨o,by rw[ot b (rec_ne hb hn ho hd)];exact hb,rfl⟩,oe,vs,by rw[ot e (Ne.symm ne1)];exact he,hc,hdi,hdd,hz,?_⟩,fun b o hb hn=>⟨o.slots,by rw[ot b (rec_ne hb hn ho hd)];exact hb⟩⟩
 ·rw[ot b (fun y=>by rw[y,nT] at z;cases z)]
  exact st b o z
 ·rw[if_pos rfl]
  exact⟨T,_,_,h1,nT,ne1,Heap.get?_update_self _ ho (Obj.isFreed_of_fields d3),d3,by simpa using z1⟩
theorem exn_note(hfr:A.frames=some (env::outer))(hf:env.frame=some L)(x:Exn tb B (env::outer) e cls d s.heap)
  (q:∀ h',Exn true B (env::outer) e cls d h'→s.heap.UpToSlots h'→Q () { s with heap:=h' }):wpAny M A (noteFrame (.ref e) env) Q E s:=by
 obtain⟨oe,vs,he,hc,hdi,hd,hz,ht⟩:=x.ob
 unfold noteFrame
 simp only[hf]
 cases tb with
 | false =>
  rw[if_neg Bool.false_ne_true] at ht
  refine wpAny_bind (wpAny_field he hd ht ?_)
  rw[if_neg (by decide)]
  exact exn_entry hfr hf x.stays x.new x.frs he hc hdi hd hz q
 | true =>
  rw[if_pos rfl] at ht
  obtain⟨T,oT,ts,h1,n1,ne1,g1,d1,z1⟩:=ht
  refine wpAny_bind (wpAny_field he hd h1 ?_)
  rw[if_pos (show (Value.ref T != Value.none)=true from by simp)]
  refine wpAny_bind (wpAny_field g1 d1 (Array.getElem?_eq_getElem z1) ?_)
  by_cases hb:(ts[3] == rawInt L)=true
  ·rw[if_pos hb]
   exact wpAny_pure (q s.heap x (.refl _))
  ·rw[if_neg hb]
   refine wpAny_bind (wpAny_setField g1 d1 z1 ?_)
   obtain⟨x2,u2⟩:=exn_mark (v:=.none) x ⟨oe,vs,he,hd,h1⟩ n1 g1 d1
   obtain⟨oe2,vs2,he2,hc2,hdi2,hd2,hz2,_⟩:=x2.ob
   exact exn_entry (s:={ s with heap:=s.heap.update T (Obj.mapFields (·.setIfInBounds 3 .none)) }) hfr hf x2.stays x2.new x2.frs he2 hc2 hdi2 hd2 hz2 fun h' x3 u3=>q h' x3 (u2.trans u3)
theorem exn_flight{fo:Option Addr}(x:Exn true B l e cls d s.heap)(q:∀ h',Exn true B l e cls d h'→s.heap.UpToSlots h'→Q () { s with heap:=h' }):wpAny M A (setFlight (.ref e) fo) Q E s:=by
 obtain⟨oe,vs,he,hc,hdi,hd,hz,ht⟩:=x.ob
 rw[if_pos rfl] at ht
 obtain⟨T,oT,ts,h1,n1,ne1,g1,d1,z1⟩:=ht
 unfold setFlight
 refine wpAny_bind (wpAny_field he hd h1 ?_)
 rw[if_pos (show (Value.ref T != Value.none)=true from by simp)]
 obtain⟨x2,u2⟩:=exn_mark (v:=fo.elim Value.none fun f=>rawInt f) x ⟨oe,vs,he,hd,h1⟩ n1 g1 d1
 exact wpAny_setField g1 d1 z1 (q _ x2 u2)
theorem exn_leave(hfr:A.frames=some (env::outer))(hf:env.frame=some L)(x:Exn tb B (env::outer) e cls d s.heap)
  (q:∀ h',Exn true B outer e cls d h'→s.heap.UpToSlots h'→Q () { s with heap:=h' }):wpAny M A (leaving env (.ref e)) Q E s:=by
 unfold leaving
 refine wpAny_bind (exn_note hfr hf x fun h1 x1 u1=>exn_flight (s:={ s with heap:=h1 }) x1 fun h2 x2 u2=>q h2 ⟨x2.stays,x2.new,x2.frs.2.2,x2.ob⟩ (u1.trans u2))
theorem exn_back(hfr:A.frames=some (env::outer))(hf:env.frame=some L)(x:Exn tb B (env::outer) e cls d s.heap){X:Value→Shared→Prop}
  (q:∀ h',Exn true B (env::outer) e cls d h'→s.heap.UpToSlots h'→X (.ref e) { s with heap:=h' }):notedBy M A env (cameBackBy M A env X) (.ref e) s:=by
 refine exn_note hfr hf x fun h1 x1 u1=>?_
 obtain⟨oe,vs,he,hc,hdi,hd,hz,ht⟩:=x1.ob
 rw[if_pos rfl] at ht
 obtain⟨T,oT,ts,g0,_⟩:=ht
 unfold cameBackBy
 refine wpAny_bind (wpAny_field (s:={ s with heap:=h1 }) he hd g0 ?_)
 rw[if_neg (by simp)]
 exact exn_flight (s:={ s with heap:=h1 }) x1 fun h2 x2 u2=>q h2 x2 (u1.trans u2)
end
end L2
end
section
namespace L2
open PySem PySem.Spec PyProof.Rows
structure Grd(X:Cx)(B:Heap):Prop where
 keep:∀ b o,X.s₀.heap.get? b=some o→X.H₀ b=none→b∉frs X.stack→b∉X.ex→B.get? b=some o
 there:∀ b o,X.s₀.heap.get? b=some o→b∉frs X.stack→b∉X.ex→∃ o',B.get? b=some o'
 pn:∀ p∈X.pn,B.get? p.1=some p.2
noncomputable def XE(X:Cx)(F:FK)(e:Value)(s:Shared):Prop:=∃ (ea:Addr) (cls:Value) (d:Option Addr) (tb:Bool) (B:Heap) (H:Hp) (σ:St),
 e=.ref ea∧Exn tb B X.stack ea cls d s.heap∧Inv X [] σ H s∧HOk X.prog X.w H B∧Grd X B∧F cls d σ H
noncomputable def CXE(P:Program)(w:World):CXT:=fun outer H s E e s'=>∃ (ea:Addr) (cls:Value) (d:Option Addr) (B:Heap) (H':Hp),
 e=.ref ea∧Exn true B outer ea cls d s'.heap∧s'.os=s.os∧AllBare s'.gens∧Un (frs outer) [] H H' s.heap s'.heap∧HOk P w H' B ∧
  (∀ b o,s.heap.get? b=some o→H b=none→b∉frs outer→B.get? b=some o)∧(∀ b o,s.heap.get? b=some o→b∉frs outer→∃ o',B.get? b=some o')∧E cls d H'
section
variable{X:Cx}{pins:List (Addr×Obj)}{σ:St}{H:Hp}{s:Shared}{F:FK}
theorem frs_at{l:List Env}{env:Env}{b:Addr}(h:b∈frs (env::l)):env.frame=some b∨b∈frs l:=by
 obtain⟨x,hx,e⟩:=List.mem_filterMap.mp h
 rcases List.mem_cons.mp hx with z|z
 ·exact .inl (z▸e)
 ·exact .inr (List.mem_filterMap.mpr ⟨x,z,e⟩)
theorem Inv.entry_frs(I:Inv X pins σ H s){b:Addr}{o:Obj}(hb:X.s₀.heap.get? b=some o)(hf:b∈frs X.stack):b∈X.fs:=by
 rcases I.ok.stk with e|⟨e,ef⟩
 ·rw[e] at hf;exact hf
 ·rw[e] at hf
  rcases frs_at hf with z|z
  ·rw[ef] at z
   cases z
   exact absurd (Nat.lt_of_lt_of_le (Heap.lt_size hb) I.ok.above) (Nat.lt_irrefl _)
  ·exact z
theorem fs_stack(I:Inv X pins σ H s){b:Addr}(h:b∈X.fs):b∈frs X.stack:=by
 rcases I.ok.stk with e|⟨e,_⟩
 ·rw[e];exact h
 ·rw[e]
  obtain⟨x,hx,ef⟩:=List.mem_filterMap.mp h
  exact List.mem_filterMap.mpr ⟨x,.tail _ hx,ef⟩
theorem cell_slots{h h':Heap}{c:Addr}{v:Option Value}(u:h.UpToSlots h')(x:h.IsCell c v):h'.IsCell c v:=by
 obtain⟨o,e,hd⟩:=x
 obtain⟨sl,e2⟩:=u c o e fun vs z=>by rw[hd] at z;cases z
 exact⟨_,e2,hd⟩
theorem un_fly{h':Heap}{B:Heap}{tb:Bool}{ea:Addr}{cls:Value}{d:Option Addr}(I:Inv X pins σ H s)(x:Exn tb B X.stack ea cls d s.heap)(st:B.StaysIn h')(u:s.heap.UpToSlots h')(g:Grd X B):Un X.fs X.ex X.H₀ H X.s₀.heap h' where
 keep:=fun b o e n nf ne=>st b o (g.keep b o e n (fun z=>nf (I.entry_frs e z)) ne)
 slot:=fun b o e n hf ne=>by
  obtain⟨sl,e1⟩:=I.base.slot b o e n hf ne
  obtain⟨_,o2,e2,hn⟩:=x.frs.mem (fs_stack I hf)
  rw[e1] at e2
  cases e2
  obtain⟨sl2,e3⟩:=u b _ e1 hn
  exact⟨sl2,e3⟩
 free:=I.base.free
 there:=fun b o e ne=>by
  by_cases hf:b∈frs X.stack
  ·obtain⟨_,o2,e2,hn⟩:=x.frs.mem hf
   obtain⟨sl,e3⟩:=u b o2 e2 hn
   exact⟨_,e3⟩
  ·obtain⟨o',e1⟩:=g.there b o e hf ne
   exact⟨o',st b o' e1⟩
 tups:=I.base.tups
 frzs:=I.base.frzs
 tbls:=I.base.tbls
theorem Inv.fly{h':Heap}{B:Heap}{tb:Bool}{ea:Addr}{cls:Value}{d:Option Addr}(I:Inv X [] σ H s)(x:Exn tb B X.stack ea cls d s.heap)(st:B.StaysIn h')(u:s.heap.UpToSlots h')(hB:HOk X.prog X.w H B)(g:Grd X B):Inv X [] σ H { s with heap:=h' } where
 ok:=I.ok
 os:=I.os
 bare:=I.bare
 base:=un_fly I x st u g
 loc:=by
  obtain⟨m,hn,hl⟩:=I.loc
  refine⟨m,u.ns hn,fun i x v h1 h2 h3=>?_⟩
  obtain⟨w,r,l⟩:=hl i x v h1 h2 h3
  refine⟨w,r,?_⟩
  rcases l with l|⟨k,c,e,hc⟩
  ·exact .inl l
  ·exact .inr ⟨k,c,e,cell_slots u hc⟩
 cell:=fun x c e=>by
  obtain⟨v,hc⟩:=I.cell x c e
  exact⟨v,cell_slots u hc⟩
 free:=I.free
 freeC:=I.freeC
 pin:=fun p hp=>by
  obtain⟨_,b,c,d,e⟩:=I.pin p hp
  have hp':p∈X.pn:=by simpa using hp
  exact⟨st _ _ (g.pn p hp'),b,c,d,e⟩
 hok:=hB.kept st
 len:=I.len
theorem passes_XE(hst:X.stack=X.env::X.outer)(hf:X.env.frame=some X.env.locals):PassesOwn (model X.prog X.w) X.A X.env (XE X F):=by
 rintro e s' ⟨ea,cls,d,tb,B,H,σ,rfl,x,I,hB,g,f⟩
 have hfr:=I.ok.frames
 rw[hst] at hfr x
 refine exn_back hfr hf x fun h' x' u=>?_
 rw[← hst] at x x'
 exact⟨ea,cls,d,true,B,H,σ,rfl,x',I.fly x x'.stays u hB g,hB,g,f⟩
theorem passes_call{e:Value}{s':Shared}(I:Inv X pins σ H s)(h:CXE X.prog X.w X.stack H s (fun c d H'=>F c d σ H') e s'):XE X F e s':=by
 obtain⟨ea,cls,d,B,H',rfl,x,os,bare,un,hB,inB,thB,f⟩:=h
 have I':Inv X pins σ H' s':=I.call' (ch:=[]) os un (hB.kept x.stays) bare (fun b z=>nomatch z)
 refine⟨ea,cls,d,true,B,H',σ,rfl,x,I'.pins_of fun p hp=>I'.pin p (by simpa using List.mem_append_left _ (by simpa using hp)),hB,⟨fun b o e n nf ne=>?_,fun b o e nf ne=>?_,fun p hp=>?_⟩,f⟩
 ·exact inB b o (I.base.keep b o e n (fun z=>nf (fs_stack I z)) ne) (I.base.free b o e n ne) nf
 ·obtain⟨o',e'⟩:=I.base.there b o e ne
  exact thB b o' e' nf
 ·obtain⟨e1,n1,l1,f1,_⟩:=I.pin p (List.mem_append_left _ hp)
  refine inB _ _ e1 n1 fun z=>?_
  rcases I.ok.stk with e|⟨e,ef⟩
  ·rw[e] at z;exact f1 z
  ·rw[e] at z
   rcases frs_at z with y|y
   ·rw[ef] at y;exact l1 (Option.some.inj y).symm
   ·exact f1 y
end
theorem PSs.xmono{X:Cx}{E':Value→Shared→Prop}{st:List Stmt}{t:TS}(h:PSs (X.wish E') st t)(m:∀ e s,E' e s→X.xe e s):PSs X st t:=fun pins s σ H D I hw =>
 wpAny_mono (h pins s σ H D (I.wish _) hw) (fun _ _ q=>q.unwish) fun e s z=>m e s z
theorem leave_XE{P:Program}{w:World}{K:W.Frag}{mg:Str→Option Value}{base:Heap}{N:List Str}{qual:Str}{scope:Scope}{f:Addr}{cd:Value}{A:Around}{outer:List Env}{s₀:Shared}{H₀:Hp}{E:XK}{e:Value}{s:Shared}
  (h:XE (cxOf (CXE P w) P w K mg base N qual scope f cd A outer s₀ H₀ E) (fun c d _ H'=>E c d H') e s):(cxOf (CXE P w) P w K mg base N qual scope f cd A outer s₀ H₀ E).xe e s:=by
 obtain⟨ea,cls,d,tb,B,H,σ,rfl,x,I,hB,g,q⟩:=h
 have hfr:=I.ok.frames
 refine exn_leave hfr rfl x fun h' x' u=>⟨ea,cls,d,B,H,rfl,x',I.os,I.bare,un_fly I x x'.stays u g,hB,fun b o e n nf=>?_,fun b o e nf=>?_,q⟩
 ·exact g.keep b o e n (fun z=>nf (I.entry_frs e z)) (fun z=>nomatch z)
 ·exact g.there b o e (fun z=>nf (I.entry_frs e z)) (fun z=>nomatch z)
end L2
end
section
namespace L2
open PySem PySem.Spec PyProof.Rows
section
variable{K:W.Frag}{h:Heap}{C:Addr}{bmB:List Value}{newId:String}
end
theorem objOk_there{P:Program}{w:World}{H:Hp}{h:Heap}{a:Addr}{o:HO}(x:ObjOk P w H h a o):∃ u,h.get? a=some u:=by
 induction o with
 | lst xs=>obtain⟨_,_,_,_,e⟩:=x;exact⟨_,e⟩
 | tup xs=>obtain⟨_,_,_,_,e,_⟩:=x;exact⟨_,e⟩
 | dK kvs=>obtain⟨_,_,_,_,_,_,_,e,_⟩:=x;exact⟨_,e⟩
 | dT kvs=>obtain⟨_,_,_,_,_,_,_,e,_⟩:=x;exact⟨_,e⟩
 | dN kvs=>obtain⟨_,_,_,_,_,_,_,e,_⟩:=x;exact⟨_,e⟩
 | set S n=>obtain⟨_,_,_,_,e,_⟩:=x;exact⟨_,e⟩
 | ins C dx fs=>obtain⟨_,_,_,e,_⟩:=x;exact⟨_,e⟩
 | own y=>exact x
 | xd fs=>obtain⟨_,⟨_,_,_,e,_⟩,_⟩:=x;exact⟨_,e⟩
 | rng lo hi=>obtain⟨_,_,_,e⟩:=x;exact⟨_,e⟩
 | frz ob u ih=>exact⟨_,x.1⟩
 | tbl ps=>exact⟨_,x⟩
 | tbq q=>obtain⟨_,e,_⟩:=x;exact⟨_,e⟩
 | met f y=>exact⟨_,x⟩
 | ext φ=>exact x.2.1
section
variable{X:Cx}{F:FK}{C:Addr}{x:Str}{np cpos pos:Pos}{bm bmN:List Value}{B Bn newId nid initId inN:String}
end
end L2
end
section
namespace L2
open PySem PySem.Spec PyProof.Rows
noncomputable def tCallX(sp:Sp)(dvs:List V)(F:FK)(t:TA):TE:=fun σ H Q=>t σ H fun vs H1=>sp (vs++dvs) H1 Q fun c d H'=>F c d σ H'
section
variable{X:Cx}{k:Nat}{f:Addr}{fd:FuncData}{ps:List Str}{sp:Sp}{dvs:List V}{ds:List Value}{F:FK}{x:Str}{p pos:Pos}{e:Expr}{es:List Expr}{t:TA}
theorem run_fnX{pins:List (Addr×Obj)}{σ:St}{H:Hp}{s:Shared}{Q:VK}{us:List Value}{vs:List V}(Fk:FnOk X.prog X.w X.K X.mg X.base (CXE X.prog X.w) k f fd ps sp)(hr:Room k X.A)(hb:Binds X.K fd ps ds)(hd:Vals dvs ds)
  (I:Inv X pins σ H s) (r:Vals vs us) (h:sp (vs++dvs) H Q fun c d H'=>F c d σ H'):wpAny (model X.prog X.w) X.A (PySem.call (.ref f) us) (EP X pins σ Q) (XE X F) s:=by
 have r2:Vals (vs++dvs) (us++ds):=r.append hd
 have hl:(us++ds).length=ps.length:=by rw[← r2.length];exact Fk.len _ _ _ _ h
 refine wpAny_call (codeAny_mono (Fk.run X.A X.stack s H ⟨us,[]⟩ (us++ds) (vs++dvs) Q _ hr I.env0 (hb s us I.kIn hl) r2 h) fun z s' hq=>?_)
 cases z with
 | error e=>exact passes_call I hq
 | ok fl =>
  cases fl with
  | ret u=>exact I.after hq
  | next=>exact hq.elim
  | brk=>exact hq.elim
  | cont=>exact hq.elim
theorem EP.wish{pins:List (Addr×Obj)}{σ:St}{Q:VK}{u:Value}{s:Shared}{E:Value→Shared→Prop}(h:EP X pins σ Q u s):EP (X.wish E) pins σ Q u s:=let ⟨v,H,I,r,q⟩:=h;⟨v,H,I.wish E,r,q⟩
theorem pe_calX(c:Cal X.prog X.w X.K X.mg X.base (CXE X.prog X.w) k x ps dvs sp)(hr:Room k X.A)(hg:Gl X x)(ha:PA (X.wish (XE X F)) (e::es) t)(hdb:(x == ("__debug__" : Str))=false:=by decide)
  (he:starEach (e::es) X.env=(false,eval e X.env)::starEach es X.env:=by rfl) (hpl:(backTo pos (starEach es X.env)).any (·.1)=false:=by rfl) :
  PE (X.wish (XE X F)) (.Call (.Name x p) (e::es) [] pos) (tCallX sp dvs F t):=by
 obtain⟨f,fd,ds,h1,hm,hk,hb,hv⟩:=c.ex
 intro pins s σ H Q I h
 refine wpAny_Call_Name_kw (ld_glob (X:=X.wish (XE X F)) I hg hm ?_ hdb)
 refine PySem.W.callWith_K (h₀:=X.base) I.ok.mod.kin hk (thn (ha pos pins s σ H _ I h) fun us s1 ⟨vs,H1,I1,r,q⟩=>⟨I1.kIn,?_⟩) he hpl
 exact thn (run_fnX h1 hr hb hv I1.unwish r q) fun _ _ z=>z.wish
end
theorem Inv.gone{X:Cx}{pins:List (Addr×Obj)}{σ:St}{H:Hp}{s:Shared}{h':Heap}{m m':Str→Option Value}{i:Nat}{x:Str}{tk:Nat}(I:Inv X pins σ H s)(hN:X.N.Nodup)(hi:X.N[i]?=some x)(hn:s.heap.Ns X.env.locals m)(hl:∀ (j:Nat) (y:Str) (v:V),X.N[j]?=some y→σ[j]?=some (some v)→Vis X.env.scope y→∃ u,RelV v u∧Look X.env s.heap m y u)
  (hn':h'.Ns X.env.locals m') (hm:∀ y,y≠x→m' y=m y) (hs:Heap.SameBut X.env.locals s.heap h'):Inv X pins (σ.set i none) H { s with heap:=h',toks:=tk } where
 ok:=I.ok
 os:=I.os
 bare:=I.bare
 base:=⟨fun b o e n hb hx=>(hs.2 b (Nat.ne_of_lt (Nat.lt_of_lt_of_le (Heap.lt_size e) I.ok.above))).trans (I.base.keep b o e n hb hx),
  fun b o e n hb hx=>by
   obtain⟨sl,e1⟩:=I.base.slot b o e n hb hx
   exact⟨sl,(hs.2 b (Nat.ne_of_lt (Nat.lt_of_lt_of_le (Heap.lt_size e) I.ok.above))).trans e1⟩,I.base.free,
  fun b o e hx=>by
   obtain⟨o',e1⟩:=I.base.there b o e hx
   exact⟨o',(hs.2 b (Nat.ne_of_lt (Nat.lt_of_lt_of_le (Heap.lt_size e) I.ok.above))).trans e1⟩,I.base.tups,I.base.frzs,I.base.tbls⟩
 loc:=⟨m',hn',fun j y v e1 e2 e3=>by
  by_cases hj:j=i
  ·subst hj
   rw[List.getElem?_set] at e2
   simp only[if_true] at e2
   split at e2<;>simp at e2
  ·rw[List.getElem?_set_ne (Ne.symm hj)] at e2
   obtain⟨u,r,q⟩:=hl j y v e1 e2 e3
   refine⟨u,r,?_⟩
   rcases q with⟨k,e⟩|⟨k,c,e,z⟩
   ·exact .inl ⟨k,by rw[hm y fun w=>hj (nodup_ix hN e1 (w▸hi))];exact e⟩
   ·exact .inr ⟨k,c,e,z.sameBut hs (I.cne y c e)⟩⟩
 cell:=fun y c e=>by
  obtain⟨w,z⟩:=I.cell y c e
  exact⟨w,z.sameBut hs (I.cne y c e)⟩
 free:=I.free
 freeC:=I.freeC
 pin:=fun p hp=>by
  obtain⟨e,n,ne,nf,d⟩:=I.pin p hp
  exact⟨(hs.2 p.1 ne).trans e,n,ne,nf,d⟩
 hok:=fun b ob e=>(I.hok b ob e).stay (fun c w hc q=>(hs.2 c (by
  rintro rfl
  rcases hc with z|hc
  ·rw[← z,I.free] at e;cases e
  ·rw[I.free] at hc;cases hc)).trans q) (fun _ q=>q) fun _ _ q=>q
 len:=by rw[List.length_set];exact I.len
theorem unbind_ok{X:Cx}{pins:List (Addr×Obj)}{σ:St}{H:Hp}{s:Shared}{i:Nat}{x:Str}{pos:Pos}{M:Model}{A:Around}{E:Value→Shared→Prop}{Q:Unit→Shared→Prop}(I:Inv X pins σ H s)(hN:X.N.Nodup)(hi:X.N[i]?=some x)(hx:X.env.scope.names.lookup x=some .local)
  (q:∀ s',Inv X pins (σ.set i none) H s'→Q () s'):wpAny M A (do bindName X.env x .none;unbindBehindTheSuite X.env x pos) Q E s:=by
 have hcls:(X.env.scope.kind == .class || (X.env.scope.kind == .module && X.env.locals != X.env.globals))=false:=by rw[I.ok.kind];rfl
 obtain⟨m,hn,hl⟩:=I.loc
 refine wpAny_bind (wpAny_bindName (wpAny_storeName_local hx hn (fun h1 n1 s1=>?_) hcls))
 unfold unbindBehindTheSuite
 refine wpAny_onRaise ?_
 unfold unbindName
 refine wpAny_bind (wpAny_point (wpAny_bind ?_))
 unfold deleteName
 have hk:X.env.kindOf x=some .local:=hx
 simp only[hk,hcls]
 rw[if_neg (by decide)]
 refine wpAny_bind (wpAny_nsDel_keeps n1 fun h2 v n2 s2=>?_)
 simp only[if_true,Option.isSome_some,Bool.not_true,Bool.false_eq_true,if_false]
 refine wpAny_pure (wpAny_point (q _ (I.gone (tk:=s.toks+1) hN hi hn hl n2 (fun y hy=>by simp[hy]) (s1.trans s2))))
end L2
end
section
namespace L2
open PySem PySem.Spec PyProof.Rows
noncomputable abbrev Cx.inX(X:Cx)(ea:Addr):Cx:={ X with A:=X.A.mark (some (.ref ea)),calm:=false }
noncomputable abbrev Cx.pinned(X:Cx)(pins:List (Addr×Obj)):Cx:={ X with pn:=X.pn++pins }
section
variable{X:Cx}{pins:List (Addr×Obj)}{σ:St}{H:Hp}{s:Shared}{F:FK}
theorem Inv.toPin(I:Inv X pins σ H s):Inv (X.pinned pins) [] σ H s :=
 ⟨⟨I.ok.mod,I.ok.kind,I.ok.glob,I.ok.blt,I.ok.above,I.ok.inj,I.ok.has,I.ok.cab,I.ok.hd,I.ok.frames,I.ok.stk,I.ok.exf,I.ok.bs,I.ok.bsz,I.ok.noex,I.ok.exfs,I.ok.funs,I.ok.frf⟩,I.os,I.bare,I.base,I.loc,I.cell,I.free,I.freeC,fun p hp=>I.pin p (by simpa using hp),I.hok,I.len⟩
theorem Inv.unPin{xe:Value→Shared→Prop}(ok:X.Ok)(I:Inv ((X.pinned pins).wish xe) [] σ H s):Inv X pins σ H s :=
 ⟨ok,I.os,I.bare,I.base,I.loc,I.cell,I.free,I.freeC,fun p hp=>I.pin p (by simpa using hp),I.hok,I.len⟩
theorem Inv.toX(I:Inv X pins σ H s)(ea:Addr)(hf:(X.A.mark (some (.ref ea))).frames=X.A.frames):Inv (X.inX ea) pins σ H s :=
 ⟨⟨I.ok.mod,I.ok.kind,I.ok.glob,I.ok.blt,I.ok.above,I.ok.inj,I.ok.has,I.ok.cab,(fun z=>(nomatch z)),hf.trans I.ok.frames,I.ok.stk,I.ok.exf,I.ok.bs,I.ok.bsz,I.ok.noex,I.ok.exfs,I.ok.funs,I.ok.frf⟩,I.os,I.bare,I.base,I.loc,I.cell,I.free,I.freeC,I.pin,I.hok,I.len⟩
theorem Inv.see{B:Heap}{tb:Bool}{ea:Addr}{cls:Value}{d:Option Addr}(I:Inv X [] σ H s)(x:Exn tb B X.stack ea cls d s.heap)(hB:HOk X.prog X.w H B)(g:Grd X B):H ea=none∧Inv X [] σ (upd H ea (hX ea cls d)) s:=by
 obtain⟨oe,vs,he,hc,hdi,hd,_⟩:=x.ob
 have hn:H ea=none:=by
  cases z:H ea with
  | none=>rfl
  | some o =>
   obtain⟨u,hu⟩:=objOk_there (hB ea o z)
   rw[x.new] at hu
   cases hu
 have nf:ea∉frs X.stack:=fun hm=>by
  obtain⟨_,o,ho,hdn⟩:=x.frs.mem hm
  rw[he] at ho
  cases ho
  exact hdn vs hd
 have ne:∀ b,H b≠none→b≠ea:=fun b h z=>h (z▸hn)
 have nel:X.env.locals≠ea:=fun z=>by
  obtain⟨m,⟨o,es,ep,e,d2,_⟩,_⟩:=I.loc
  rw[z,he] at e
  cases e
  rw[hd] at d2
  cases d2
 refine⟨hn,⟨I.ok,I.os,I.bare,⟨I.base.keep,I.base.slot,fun b o e n hx=>?_,I.base.there,fun b xs e=>?_,fun b o u e=>?_,fun b ps e=>?_⟩,I.loc,I.cell,by rw[upd_ne nel];exact I.free,fun y c e=>?_,fun p hp=>?_,fun a o e=>?_,I.len⟩⟩
 ·have hb:b≠ea:=fun z=>by
   subst z
   have:=g.keep b o e n nf hx
   rw[x.new] at this
   cases this
  rw[upd_ne hb]
  exact I.base.free b o e n hx
 ·have:=I.base.tups b xs e
  rw[upd_ne (ne b (by rw[this];simp))];exact this
 ·have:=I.base.frzs b o u e
  rw[upd_ne (ne b (by rw[this];simp))];exact this
 ·obtain⟨more,this⟩:=I.base.tbls b ps e
  exact⟨more,by rw[upd_ne (ne b (by rw[this];simp))];exact this⟩
 ·have hcc:c≠ea:=fun z=>by
   obtain⟨v,o,e1,d1⟩:=I.cell y c e
   rw[z,he] at e1
   cases e1
   rw[hd] at d1
   cases d1
  rw[upd_ne hcc]
  exact I.freeC y c e
 ·obtain⟨e1,n1,r⟩:=I.pin p hp
  have hp':p∈X.pn:=by simpa using hp
  have hpe:p.1≠ea:=fun z=>by
   have:=g.pn p hp'
   rw[z,x.new] at this
   cases this
  exact⟨e1,by rw[upd_ne hpe];exact n1,r⟩
 ·by_cases ha:a=ea
  ·subst ha
   rw[upd_same] at e
   cases e
   exact⟨⟨oe,vs,he,hc,hdi,hd⟩,⟨oe,he⟩,fun h1 h2 ⟨o,ws,z,r⟩ k=>⟨o,ws,k o z,r⟩⟩
  ·rw[upd_ne ha] at e
   refine (I.hok a o e).stay (fun _ _ _ q=>q) (fun b q=>?_) (fun b xs q=>?_) (fun b o q=>?_)
   ·rw[upd_ne (ne b (by rw[q];simp))];exact q
   ·rw[upd_ne (ne b (by rw[q];simp))];exact q
   ·rw[upd_ne (ne b (by rw[q];simp))];exact q
end
noncomputable def tTryAs(K:W.Frag)(C:Value)(i:Nat)(tb:FK→TS)(th:TS):TS:=fun D σ H =>
 tb (fun c d σ' H'=>PySem.W.exmOne K c C=some true∧∀ ea,H' ea=none→th ⟨fun σ2 H2=>D.nx (σ2.set i none) H2,D.rt,fun σ2 H2=>D.bk (σ2.set i none) H2,fun σ2 H2=>D.ct (σ2.set i none) H2⟩ (σ'.set i (some (.ref ea))) (upd H' ea (hX ea c d))) D σ H
section
variable{X:Cx}{i:Nat}{n x:Str}{C:Value}{np hpos pos:Pos}{body suite:List Stmt}{b₀:Stmt}{tb:FK→TS}{th:TS}
theorem ps_tryAs(hst:X.stack=X.env::X.outer)(hfl:X.env.frame=some X.env.locals)(hN:X.N.Nodup)(hi:X.N[i]?=some n)(hn:X.env.scope.names.lookup n=some .local)(hg:Gl X x)(hm:X.mg x=some C)
  (hb:∀ pins F,PSs ((X.pinned pins).wish (XE (X.pinned pins) F)) body (tb F)) (hh:∀ ea pins,PSs ((X.pinned pins).inX ea).nox (b₀::suite) th) (hfm:∀ ea,(X.A.mark (some (.ref ea))).frames=X.A.frames:=by intro _;rfl) (hd:(x == ("__debug__" : Str))=false:=by decide) :
  PS X (.Try body [.ExceptHandler (some (.Name x np)) (some n) (b₀::suite) hpos] [] [] pos) (tTryAs X.K C i tb th):=by
 intro pins s σ H D I h
 have I1:Inv (X.pinned pins) [] σ H s:=I.toPin
 refine wpAny_Try_except (wpAny_mono (hb pins _ [] s σ H D (I1.wish _) h) (fun f s1 q=>?_) fun e s1 q=>?_)
 ·cases f with
  | next=>obtain⟨σ',H',J,q⟩:=q;exact wpAny_execs_nil ⟨σ',H',J.unPin I.ok,q⟩
  | brk=>obtain⟨σ',H',J,q⟩:=q;exact⟨σ',H',J.unPin I.ok,q⟩
  | cont=>obtain⟨σ',H',J,q⟩:=q;exact⟨σ',H',J.unPin I.ok,q⟩
  | ret u=>obtain⟨v,σ',H',J,r,q⟩:=q;exact⟨v,σ',H',J.unPin I.ok,r,q⟩
 ·obtain⟨ea,cls,d,tb0,B,H1,σ1,rfl,x1,J1,hB,g,hex,hth⟩:=q
  have hfr:X.A.frames=some (X.env::X.outer):=by rw[I.ok.frames,hst]
  have e1:Exn tb0 B (X.env::X.outer) ea cls d s1.heap:=by rw[← hst];exact x1
  refine exn_note hfr hfl e1 fun h2 e2 u2=>exn_flight (s:={ s1 with heap:=h2 }) e2 fun h3 e3 u3=>?_
  have x2:Exn true B X.stack ea cls d h2:=by rw[hst];exact e2
  have x3:Exn true B X.stack ea cls d h3:=by rw[hst];exact e3
  have J2:Inv (X.pinned pins) [] σ1 H1 { s1 with heap:=h2 }:=J1.fly x1 x2.stays u2 hB g
  have J3:Inv (X.pinned pins) [] σ1 H1 { s1 with heap:=h3 }:=J2.fly (s:={ s1 with heap:=h2 }) x2 x3.stays u3 hB g
  have J4:Inv ((X.pinned pins).inX ea) [] σ1 H1 { s1 with heap:=h3 }:=J3.toX ea (hfm ea)
  obtain⟨oe,vs,he,hc,_⟩:=x3.ob
  have LT:PySem.W.Looks (model X.prog X.w) h3 (typeOf (.ref ea)) cls:=by rw[← hc];exact (PySem.W.Looks.ld he).andThen .now
  refine wpAny_handleBy_cons (codeAny_handlers_test (ld_glob (X:=(X.pinned pins).inX ea) J4 hg hm ((PySem.W.exm_one (K:=X.K) (h:=h3) J3.kIn LT hex).here ?_) hd)) (by intro q;cases q)
  refine codeAny_handlers_suite_as (exn_flight (s:={ s1 with heap:=h3 }) x3 fun h5 x5 u5=>?_)
  have J5:Inv (X.pinned pins) [] σ1 H1 { s1 with heap:=h5 }:=J3.fly (s:={ s1 with heap:=h3 }) x3 x5.stays u5 hB g
  obtain⟨hne,J6⟩:=J5.see (s:={ s1 with heap:=h5 }) x5 hB g
  have J7:Inv ((X.pinned pins).inX ea) [] σ1 (upd H1 ea (hX ea cls d)) { s1 with heap:=h5 }:=J6.toX ea (hfm ea)
  refine store_ok (X:=(X.pinned pins).inX ea) (v:=.ref ea) J7 hN hi (.inl hn) rfl (fun s8 J8=>?_) (.inr hn)
  refine wpAny_mono (hh ea pins [] s8 _ _ _ (J8.wish _) (hth ea hne)) (fun f s9 q=>?_) fun _ _ z=>z.elim
  have ub:∀ {σ9:St} {H9:Hp} {Q:Unit→Shared→Prop} {E:Value→Shared→Prop},Inv (((X.pinned pins).inX ea).wish fun _ _=>False) [] σ9 H9 s9→(∀ s',Inv X pins (σ9.set i none) H9 s'→Q () s')→wpAny (model X.prog X.w) X.A (do bindName X.env n .none;unbindBehindTheSuite X.env n hpos) Q E s9:=fun {σ9 H9 Q E} J q=>by
   have J':Inv X pins σ9 H9 s9:=⟨I.ok,J.os,J.bare,J.base,J.loc,J.cell,J.free,J.freeC,fun p hp=>J.pin p (by simpa using hp),J.hok,J.len⟩
   exact unbind_ok J' hN hi hn q
  cases f with
  | next=>obtain⟨σ',H',J,q⟩:=q;exact ub J fun s' J'=>⟨_,H',J',q⟩
  | brk=>obtain⟨σ',H',J,q⟩:=q;exact ub J fun s' J'=>⟨_,H',J',q⟩
  | cont=>obtain⟨σ',H',J,q⟩:=q;exact ub J fun s' J'=>⟨_,H',J',q⟩
  | ret u=>obtain⟨v,σ',H',J,r,q⟩:=q;exact ub J fun s' J'=>⟨v,_,H',J',r,q⟩
end
end L2
end
section
namespace L2
open PySem PySem.Spec PyProof.Rows PySem.W
structure ExcGet(K:W.Frag)(C:Addr):Prop where
 ga:findIn K (.ref C) "__getattribute__" = some (some (.builtin "BaseException.__getattribute__"))
 hook:findIn K (.ref C) "__getattr__" = some none
 base:mroIn K C (.type "BaseException")=some true
 obj:mroIn K C (.type "object")=some true
section
variable{prog:Program}{w:World}{A:Around}{E:Value→Shared→Prop}{s:Shared}{K:W.Frag}{x C:Addr}{ox:Obj}{od:Option Obj}{name:Str}
theorem exc_check{nameV:Value}{M:Model}{Q:Unit→Shared→Prop}(X:K.In s.heap)(I:PySem.W.InstAt s.heap x ox C od)(g:ExcGet K C)(h:Q () s):wpAny M A (checkBuiltinCall "BaseException.__getattribute__" ⟨[.ref x,nameV],[]⟩) Q E s:=by
 have hk:builtinKind "BaseException.__getattribute__" = some .slot:=by decide +kernel
 have hsplit:splitId "BaseException.__getattribute__" = some ("BaseException", "__getattribute__"):=by decide +kernel
 have ha:=F.args_bexc_ga (.ref x) nameV
 have L0:=I.type (M:=M)
 have L1:=looks_mroIn (M:=M) X g.base
 obtain⟨hh,g',d,t,os⟩:=s
 simp only[checkBuiltinCall,hk,hsplit]
 refine wpAny_bind ?_
 unfold isInstance
 refine wpAny_bind (L0.at (L1.at ?_))
 repeat (first|assumption|wp_step)
theorem exc_by{fill expr:Bool}{tk:Tok}{Q:Value→Shared→Prop}(X:K.In s.heap)(I:PySem.W.InstAt s.heap x ox C od)(g:ExcGet K C)
  (h:∀ A' R,(∀ v s',wpAny (model prog w) A (handedOut v) Q E s'→R (.done (.ret v)) s')→wpAny (model prog w) A' (Builtin.«object.__getattribute__» ⟨[.ref x,.str name tk],[]⟩) R (fun _ _=>False) s) :
  wpAny (model prog w) A (getAttrBy (.ref x) (.str name tk) fill expr) Q E s:=by
 have L0:=I.type (M:=model prog w)
 have L1:=looks_findIn (M:=model prog w) X g.ga
 have L2:=looks_findIn (M:=model prog w) X g.hook
 have f3:=F.excAttr_ValueError.ga.bind (.ref x)
 have hx0:(expr && onTheHeap (Value.builtin "BaseException.__getattribute__"))=false:=by cases expr<;>rfl
 have hx2:(Value.builtin "BaseException.__getattribute__" == Value.builtin "object.__getattribute__")=false:=by decide +kernel
 unfold getAttrBy
 refine wpAny_holding (wpAny_bind (L0.at (wpAny_bind (L1.at ?_))))
 show wpAny _ _ (if (onTheHeap (Value.ref C) && Value.builtin "BaseException.__getattribute__" == Value.builtin "object.__getattribute__")=true then _ else _) _ _ _
 rw[hx2]
 unfold getAttrByItsOwn hookBefore
 refine wpAny_bind (L2.at ?_)
 unfold callGetattribute
 rw[hx0]
 unfold boundAndCalled
 rw[f3]
 refine wpAny_bind (wpAny_attempt (wpAny_holding (wpAny_bind (wpAny_pure (wpAny_call (codeAny_call_builtin F.excAttr_ValueError.ga.plain F.entry_bexc_ga (exc_check X I g (wpAny_mono (h _ (fun fin s'=>match fin with|.done (.ret v)=>wpAny (model prog w) A (handedOut v) Q E s'|_=>False) fun v s' z=>z) (fun fin s' z=>?_) fun _ _ z=>z.elim))))))))
 rcases fin with (_|_|_|_)|_<;>first|exact z|exact z.elim
theorem exc_val{fill expr:Bool}{tk:Tok}{v:Value}{Q:Value→Shared→Prop}(X:K.In s.heap)(I:PySem.W.InstAt s.heap x ox C od)(g:ExcGet K C)(hf:findObj K C od name=some (.value v))(hh:handedIn v=true)(h:Q v s) :
  wpAny (model prog w) A (getAttrBy (.ref x) (.str name tk) fill expr) Q E s:=by
 refine exc_by X I g fun A' R k=>?_
 have L0:=I.type (M:=model prog w)
 have L1:=looks_find (M:=model prog w) X I hf
 obtain⟨hh',gg,d,t,os⟩:=s
 unfold Builtin.«object.__getattribute__»
 refine wpAny_bind (wpAny_pure (wpAny_bind (wpAny_pure (wpAny_bind (L0.at (wpAny_bind (L1.at ?_)))))))
 exact wpAny_pure (k _ _ (by rw[handedOut_of hh];exact wpAny_pure h))
theorem exc_attr{expr:Bool}{v:Value}{Q:Value→Shared→Prop}(X:K.In s.heap)(I:PySem.W.InstAt s.heap x ox C od)(g:ExcGet K C)(hf:findObj K C od name=some (.value v))(hh:handedIn v=true)(h:Q v { s with toks:=s.toks+1 }) :
  wpAny (model prog w) A (getAttr (.ref x) name expr) Q E s:=by
 unfold getAttr
 exact wpAny_bind (wpAny_mkText (exc_val (s:={ s with toks:=s.toks+1 }) X I g hf hh h))
theorem exc_class{Q:Option Value→Shared→Prop}(X:K.In s.heap)(I:PySem.W.InstAt s.heap x ox C od)(g:ExcGet K C)(hf:findObj K C od "__class__" = some (.bind (.builtin "getset_descriptor.__get__") (.builtin "object.__class__")))(h:Q (some (.ref C)) { s with toks:=s.toks+1 }) :
  wpAny (model prog w) A (getAttr? (.ref x) "__class__") Q E s:=by
 unfold getAttr? getAttrBy?
 refine wpAny_bind (wpAny_mkText (wpAny_bind (wpAny_attempt (exc_by (s:={ s with toks:=s.toks+1 }) X I g fun A' R k=>?_))))
 have L0:=I.type (M:=model prog w)
 have L1:=looks_find (M:=model prog w) X I hf
 obtain⟨hh',gg,d,t,os⟩:=s
 unfold Builtin.«object.__getattribute__»
 refine wpAny_bind (wpAny_pure (wpAny_bind (wpAny_pure (wpAny_bind (L0.at (wpAny_bind (L1.at ?_)))))))
 refine wpAny_bind (wpAny_holding (wpAny_call (class_get (s:=⟨hh',gg,d,t+1,os⟩) (ox:=ox) (od:=od) X I g.obj ?_)))
 exact wpAny_pure (k _ _ (handed_on rfl (wpAny_pure h)))
structure ExcCls(K:W.Frag)(C:Addr):Prop extends ExcGet K C where
 cls:findIn K (.ref C) "__class__" = some (some (.builtin "object.__class__"))
 get:specialIn K (.builtin "object.__class__") "__get__" = some (some (.builtin "getset_descriptor.__get__"))
 tks:takesIn K (.builtin "object.__class__")=some true
theorem ExcCls.isCls(g:ExcCls K C):∃ o cd,K.lookup C=some o∧o.data=.cls cd∧clsIn K C=some cd:=by
 obtain⟨cd,hc,_⟩:=Option.bind_eq_some_iff.mp g.obj
 have hc':=hc
 unfold clsIn at hc
 split at hc
 ·rename_i c' d' cd' sl' ho
  cases hc
  exact⟨_,_,ho,rfl,hc'⟩
 ·cases hc
theorem kitx_exc(g:ExcCls K C):KitX K (.ref x) (.ref C) (fun h=>∃ ox od,PySem.W.InstAt h x ox C od) where
 ty:=fun _ _ _ ⟨_,_,I⟩=>I.type
 it:=fun _ _ X _=>by
  obtain⟨o,cd,ho,hd,_⟩:=g.isCls
  intro A' Q' E' s' k q
  unfold isType loadHead
  obtain⟨c1,c2,c3,c4⟩:=o
  cases hd
  exact wpAny_bind (wpAny_loadPart (k _ _ (X _ _ ho)) (wpAny_pure q))
 ne:=fun h tp dd its n sl X htp=>by
  obtain⟨o,cd,ho,hd,_⟩:=g.isCls
  refine Bool.eq_false_iff.mpr fun q=>?_
  have e:C=tp:=Value.ref.inj (beq_iff_eq.mp q)
  subst e
  have z:=(X _ _ ho).symm.trans htp
  cases z
  cases hd
 ca:=fun X ⟨_,_,I⟩ k=>by
  obtain⟨o,cd,ho,hd,hc⟩:=g.isCls
  refine exc_class X I g.toExcGet ?_ k
  unfold findObj
  rw[hc,Option.bind_some,g.cls,Option.bind_some]
  simp[g.get,g.tks]
end
end L2
end
section
namespace VL
open PySem PySem.Spec PyProof.Rows L2
variable[Tabs]
noncomputable def dX(e:Exc):PyData:=.dict ((.none,.int e.cls)::e.fs.map fun p=>(.str p.1,p.2))
section
variable{K:W.Frag}{F:FK}{X:Exc→Sl→Prop}{ρ:Sl}{Q:TV→Prop}{DV:VEnds}{H0 H:Hp}{σ:L2.St}{ts:List V}{as:List TV}
theorem SR.pops(s:SR K H0 σ ρ ts as H):SR K H0 σ ρ [] [] H:=by
 obtain⟨⟨p,q,h1,h2,h3,h4⟩,sm⟩:=s
 exact SR.of_le (p:=p) (q:=q) (p':=p) (q':=fun _=>0) sm h3 h4 (fun b=>by omega) h1 (.nil fun _=>rfl)
theorem SR.aside(st:Stb as)(s:SR K H0 σ ρ ts as H):∃ H1,SR K H1 σ ρ [] [] H∧(∀ σ' ρ' H',SR K H1 σ' ρ' [] [] H'→SR K H0 σ' ρ' ts as H')∧(∀ σ' ρ' H' v a,SR K H1 σ' ρ' [v] [a] H'→SR K H0 σ' ρ' (v::ts) (a::as) H')∧Same H0 H1:=by
 obtain⟨⟨p,q,h1,h2,h3,h4⟩,sm⟩:=s
 have q0:=h2.stb st
 have none1:∀ b,0<p b→VL.hid H p q b=none:=fun b z=>by
  unfold VL.hid
  rw[if_neg (by omega)]
 have up:∀ b o,H0 b=some o→VL.hid H p q b=some o:=fun b o e=>by
  unfold VL.hid
  rw[if_pos]
  ·exact sm b o e
  ·rcases Nat.eq_zero_or_pos (p b+q b) with z|z
   ·exact z
   ·rw[h4 b z] at e;cases e
 have back:∀ {p' q':Fp} {H':Hp},(∀ b,0<p' b+q' b→VL.hid H p q b=none)→Same (VL.hid H p q) H'→RTs K (VL.hid H' p' q') H' ts as q:=fun {p' q' H'} k4 m=>by
  refine RTs.monoS (fun b o e=>?_) h2 st fun b o z=>by have:=q0 b;omega
  unfold VL.hid
  rw[if_pos]
  ·exact m b o e
  ·rcases Nat.eq_zero_or_pos (p' b+q' b) with z|z
   ·exact z
   ·rw[k4 b z] at e;cases e
 have no0:∀ {p' q':Fp},(∀ b,0<p' b+q' b→VL.hid H p q b=none)→∀ b,0<p' b+q' b→H0 b=none:=fun {p' q'} k4 b z=>by
  cases e:H0 b with
  | none=>rfl
  | some o=>have:=up b o e;rw[k4 b z] at this;cases this
 refine⟨VL.hid H p q,⟨⟨p,fun _=>0,h1.mono (hid_more fun b z=>by show p b+0=0;omega) (fun _ _ _ z=>z),.nil fun _=>rfl,fun b=>by have:=h3 b;show p b+0≤1;omega,fun b z=>none1 b (by have z':0<p b+0:=z;omega)⟩,hid_le⟩,fun σ' ρ' H' ⟨⟨p',q',k1,k2,k3,k4⟩,m⟩=>?_,fun σ' ρ' H' v a ⟨⟨p',q',k1,k2,k3,k4⟩,m⟩=>?_,up⟩
 ·cases k2 with
  | nil e=>exact⟨⟨p',q',k1,by
    have:=back k4 m
    have e2:q=q':=by funext b;rw[q0 b,e b]
    exact e2▸this,k3,no0 k4⟩,fun b o e=>m b o (up b o e)⟩
 ·cases k2 with
  | @cons _ _ _ _ q1 q2 _ r rs e =>
   cases rs with
   | nil e2=>exact⟨⟨p',q',k1,.cons r (back k4 m) fun b=>by have:=e b;have:=e2 b;have:=q0 b;omega,k3,no0 k4⟩,fun b o e=>m b o (up b o e)⟩
theorem XOk.aside{H1:Hp}(x:XOk K F X H0)(m:Same H0 H1)(b:∀ σ' ρ' H',SR K H1 σ' ρ' [] [] H'→SR K H0 σ' ρ' ts as H'):XOk K F X H1:=⟨fun e ρ z c d σ H' s r=>x.x e ρ z c d σ H' (b σ ρ H' s).pops r,x.t.same m⟩
theorem Fit.aside{H1:Hp}{D:Ends}(f:Fit K H0 ts as DV D)(b:∀ σ' ρ' H',SR K H1 σ' ρ' [] [] H'→SR K H0 σ' ρ' ts as H')(b1:∀ σ' ρ' H' v a,SR K H1 σ' ρ' [v] [a] H'→SR K H0 σ' ρ' (v::ts) (a::as) H'):Fit K H1 [] [] DV D :=
 ⟨fun ρ q σ H s=>f.nx ρ q σ H (b _ _ _ s),fun ρ q σ H s=>f.bk ρ q σ H (b _ _ _ s),fun ρ q σ H s=>f.ct ρ q σ H (b _ _ _ s),fun a q v σ ρ H s=>f.rt a q v σ ρ H (b1 _ _ _ _ _ s)⟩
theorem SR.dropS{i:Nat}{o:Option V}(h:SR K H0 σ ρ ts as H):SR K H0 (σ.set i o) (ρ.set i none) ts as H:=by
 obtain⟨⟨p,q,h1,h2,h3,h4⟩,s⟩:=h
 obtain⟨p2,e1,e2⟩:=h1.drop (i:=i) (o:=o)
 exact SR.of_le (p:=p) (q:=q) (p':=p2) (q':=q) s h3 h4 (fun b=>by have:=e1 b;omega) e2 h2
theorem SR.pushG{v:V}{x:PyData}(h:SR K H0 σ ρ ts as H)(r:∀ p q:Fp,(∀ b,0<p b+q b→∃ o,H b=some o∧Mu o)→Rep K (VL.hid H p q) v x):SR K H0 σ ρ (v::ts) (.av (.d x)::as) H:=by
 obtain⟨⟨p,q,h1,h2,h3,h4⟩,s⟩:=h
 exact⟨⟨p,q,h1,.cons (.av (.d (p:=fun _=>0) (r p q (SR.lsts h1 h2)) fun _=>rfl)) h2 (fun b=>by simp),h3,h4⟩,s⟩
theorem hid_keep{p q:Fp}(hl:∀ b,0<p b+q b→∃ o,H b=some o∧Mu o){a:Addr}{o:HO}(e:H a=some o)(n:¬ Mu o):VL.hid H p q a=some o:=by
 unfold VL.hid
 rw[if_pos]
 ·exact e
 ·rcases Nat.eq_zero_or_pos (p a+q a) with z|z
  ·exact z
  ·obtain⟨vs,z,mu⟩:=hl a z;rw[e] at z;cases z;exact absurd mu n
theorem SR.caught{e:Exc}{c:Value}{d:Option Addr}{ea:Addr}(s:SR K H0 σ ρ ts as H)(hn:H ea=none)(xr:XRep K H e c d)(nl:noLsts (e.fs.map Prod.snd)=true):SR K H0 σ ρ (.ref ea::ts) (.av (.d (dX e))::as) (upd H ea (hX ea c d)):=by
 have sm:Same H (upd H ea (hX ea c d)):=same_new hn
 refine (s.ext sm).pushG fun p q hl=>?_
 have h1:=hid_keep hl (a:=ea) (o:=hX ea c d) (upd_same ..) fun z=>(show False from z)
 obtain⟨rfl,⟨h2,rfl⟩|⟨a,vs,rfl,h2,h3,h4⟩⟩:=xr
 ·exact .exc h1 (by rw[h2];rfl)
 ·refine .excF h1 (hid_keep hl (sm _ _ h2) fun z=>(show False from z)) (Reps.hid hl nl (h4.same sm)) ?_
  have:(vs.map fun p=>PyData.str p.1)=e.fs.map fun p=>PyData.str p.1:=by
   have:=congrArg (List.map PyData.str) h3
   rw[List.map_map,List.map_map] at this
   exact this
  rw[this,List.zip_map']
theorem sv_tryAs{X':Exc→Sl→Prop}{C:Value}{i:Nat}{tb:FK→TS}{th:TS}(hb:∀ F',Sv K F' X' (tb F') ρ DV)
  (hx:∀ e ρ',X' e ρ'→PySem.W.exmOne K (.ref e.cls) C=some true∧noLsts (e.fs.map Prod.snd)=true∧i<ρ'.length∧Sv K F X th (ρ'.set i (some (.d (dX e)))) ⟨fun ρ2=>DV.nx (ρ2.set i none),DV.rt,fun ρ2=>DV.bk (ρ2.set i none),fun ρ2=>DV.ct (ρ2.set i none)⟩) :
  Sv K F X (tTryAs K C i tb th) ρ DV:=fun H0 σ ts as H D st s x f=>by
 obtain⟨H1,s1,b,b1,m⟩:=s.aside st
 refine hb _ H1 σ [] [] H D Stb.nil s1 ⟨fun e ρ' z c d σ' H' s' xr=>?_,x.t.same m⟩ (f.aside b b1)
 obtain⟨h1,nl,hi,h2⟩:=hx e ρ' z
 have hc:=xr.1
 refine⟨by rw[hc];exact h1,fun ea hea=>?_⟩
 have f1:=f.aside b b1
 exact h2 H1 _ [] [] _ _ Stb.nil ((s'.caught hea xr nl).store hi) (x.aside m b) ⟨fun ρ2 q σ2 H2 s2=>f1.nx _ q _ _ s2.dropS,fun ρ2 q σ2 H2 s2=>f1.bk _ q _ _ s2.dropS,fun ρ2 q σ2 H2 s2=>f1.ct _ q _ _ s2.dropS,f1.rt⟩
end
end VL
end
section
namespace L2
open PySem PySem.Spec PyProof.Rows
theorem boot_ValueError:bootBuiltins "ValueError" = some (.type "ValueError"):=by kernel_rfl
section
variable{P:Program}{w:World}{K:W.Frag}{mg:Str→Option Value}{base:Heap}
theorem passE{X:Cx}:Passes (CXE P w) X E0:=by
 intro _ _ _ _ _ _ _ h
 obtain⟨_,_,_,_,_,_,_,_,_,_,_,_,_,z⟩:=h
 exact z.elim
theorem FunD.okX{x qual:Str}{st:Stmt}{dV:Value}{f:Addr}{fd:FuncData}{N ps:List Str}{k:Nat}{sp:Sp}(F:FunD K x qual st dV f fd)(S:FnScope N ps (defScope st))(len:∀ vs H Q E,sp vs H Q E→vs.length=ps.length)
  (hbody:∀ (cdv:Value) (A:Around) (outer:List Env) (s:Shared) (H:Hp) (vs:List V) (Q:VK) (E:XK),Room k (A.deeper (envOfC qual (defScope st) s.heap.objs.size f cdv))→sp vs H Q E →
   ∃ t,PSs ((cxOf (CXE P w) P w K mg base N qual (defScope st) f cdv A outer s H E).wish (XE (cxOf (CXE P w) P w K mg base N qual (defScope st) f cdv A outer s H E) (toF E))) (defBody st) t∧t { nx:=fun _ H'=>Q .non H',rt:=Q } (start N vs) H):FnOk P w K mg base (CXE P w) (k+1) f fd ps sp:=by
 obtain⟨oc,od,kV,doc,pm,an,cdv,ct,osl,rfl,lk,hcd⟩:=F.ex
 refine fn_of lk hcd S len fun A outer s H vs Q E hr hsp=>?_
 obtain⟨t,h,q⟩:=hbody cdv A outer s H vs Q E hr hsp
 exact⟨t,h.xmono fun e s z=>leave_XE z,q⟩
theorem Tx.calX{x:Str}{st:Stmt}{N ps:List Str}{dvss:List (List V)}{k:Nat}{sp:Sp}(T:Tx K mg x st ps dvss)(S:FnScope N ps (defScope st))
  (len:∀ vs H Q E,sp vs H Q E→vs.length=ps.length)
  (hbody:∀ (f:Addr) (cdv:Value) (A:Around) (outer:List Env) (s:Shared) (H:Hp) (vs:List V) (Q:VK) (E:XK),Room k (A.deeper (envOfC x (defScope st) s.heap.objs.size f cdv))→sp vs H Q E →
   ∃ t,PSs ((cxOf (CXE P w) P w K mg base N x (defScope st) f cdv A outer s H E).wish (XE (cxOf (CXE P w) P w K mg base N x (defScope st) f cdv A outer s H E) (toF E))) (defBody st) t∧t { nx:=fun _ H'=>Q .non H',rt:=Q } (start N vs) H) :
  ∀ dvs∈dvss,Cal P w K mg base (CXE P w) (k+1) x ps dvs sp:=by
 obtain⟨dV,f,fd,F,m,b⟩:=T.ex
 intro dvs hd
 obtain⟨ds,b1,b2⟩:=b dvs hd
 exact⟨f,fd,ds,F.okX S len (fun cdv A outer s H vs Q E hr h=>hbody f cdv A outer s H vs Q E hr h),m,F.kp,b1,b2⟩
end
section
variable{X:Cx}{pins:List (Addr×Obj)}{σ:St}{H:Hp}{s:Shared}
theorem exc_inst{x:V}{C:Addr}{kvs:List (PyData×PyData)}(I:Inv X pins σ H s)(h:Rep X.K H x (.dict ((.none,.int (C:Nat))::kvs))):∃ ea ox od,x=.ref ea∧PySem.W.InstAt s.heap ea ox C od:=by
 cases h with
 | @exc ea C' _ h z =>
  have e:C=C':=by
   have:=(List.cons.inj z).1
   simp only[Prod.mk.injEq,PyData.int.injEq,true_and] at this
   exact Int.ofNat.inj this
  subst e
  obtain⟨o,vs,h1,h2,h3,h4⟩:=(I.hok _ _ h).1
  exact⟨ea,o,none,rfl,h1,h2,by obtain⟨c,d,da,sl⟩:=o;cases h4;rfl,by rw[h3];trivial⟩
 | @excF ea C' a vs ds _ h k _ z =>
  have e:C=C':=by
   have:=(List.cons.inj z).1
   simp only[Prod.mk.injEq,PyData.int.injEq,true_and] at this
   exact Int.ofNat.inj this
  subst e
  obtain⟨o,vs,h1,h2,h3,h4⟩:=(I.hok _ _ h).1
  obtain⟨mA,⟨od,es,ep,e1,_⟩,_⟩:=(I.hok _ _ k).1
  exact⟨ea,o,some od,rfl,h1,h2,by obtain⟨c,d,da,sl⟩:=o;cases h4;rfl,by rw[h3];exact e1⟩
 | dK _ _ z=>exact absurd z zipK_ne
 | dT _ _ z=>exact absurd z zipT_ne
 | dN _ _ _ z=>exact absurd z zipN_ne
noncomputable def rIsiX(K:W.Frag):List V→Hp→VK→Prop:=fun xs H Q=>∃ x c C kvs cv b,xs=[x,c]∧clsV c=some cv∧ExcCls K C∧Rep K H x (.dict ((.none,.int (C:Nat))::kvs))∧PySem.W.kitOne K (.ref C) cv=some b∧Q (.bl b) H
theorem call_isiX:CallR X (.builtin "isinstance") (rIsiX X.K):=by
 intro pins s σ H xs us Q I r h
 obtain⟨x,c,C,kvs,cv,b,rfl,hc,g,hx,e,q⟩:=h
 obtain⟨ea,ox,od,rfl,J⟩:=exc_inst I hx
 obtain⟨u,w',rfl,rx,r2⟩:=vals2 r
 rw[clsV_rel hc r2]
 cases (show u=Value.ref ea from rx)
 exact PySem.W.kia_one (kitx_exc g) I.kIn ⟨ox,od,J⟩ e (fun z=>nomatch z) fun tk=>⟨.bl b,H,I.tok tk,rfl,q⟩
inductive ClsVs:List V→List Value→Prop
 | nil:ClsVs [] []
 | cons {c:V} {cv:Value} {cs:List V} {cvs:List Value}:clsV c=some cv→ClsVs cs cvs→ClsVs (c::cs) (cv::cvs)
theorem ClsVs.rel{cs:List V}{cvs us:List Value}(h:ClsVs cs cvs)(r:Vals cs us):us=cvs:=by
 induction h generalizing us with
 | nil=>cases r;rfl
 | cons e _ ih=>cases r with|cons r1 r2=>rw[clsV_rel e r1,ih r2]
noncomputable def rIsiT(K:W.Frag):List V→Hp→VK→Prop:=fun xs H Q=>∃ x t cs cvs C kvs b,xs=[x,.ref t]∧H t=some (.tup cs)∧ClsVs cs cvs∧ExcCls K C∧Rep K H x (.dict ((.none,.int (C:Nat))::kvs))∧PySem.W.kitAny K (.ref C) cvs=some b∧Q (.bl b) H
theorem call_isiT:CallR X (.builtin "isinstance") (rIsiT X.K):=by
 intro pins s σ H xs us Q I r h
 obtain⟨x,t,cs,cvs,C,kvs,b,rfl,ht,hc,g,hx,e,q⟩:=h
 obtain⟨ea,ox,od,rfl,J⟩:=exc_inst I hx
 obtain⟨u,w',rfl,rx,r2⟩:=vals2 r
 cases (show u=Value.ref ea from rx)
 cases (show w'=Value.ref t from r2)
 obtain⟨_,its,rv,⟨⟨c0,d0,da0,sl0⟩,h1,h2,n,h3⟩⟩:=I.hok _ _ ht
 cases h2
 cases h3
 cases hc.rel rv
 exact PySem.W.kia_tup (kitx_exc g) I.kIn ⟨ox,od,J⟩ h1 e (fun z=>nomatch z) fun tk=>⟨.bl b,H,I.tok tk,rfl,q⟩
noncomputable def rIsi3(K:W.Frag):List V→Hp→VK→Prop:=fun xs H Q=>rIsi2 K xs H Q∨(rIsiX K xs H Q∨rIsiT K xs H Q)
theorem call_isi3K{K:W.Frag}(h:X.K=K):CallR X (.builtin "isinstance") (rIsi3 K):=h▸CallR.or (call_isi2K rfl) (CallR.or call_isiX call_isiT)
end
end L2
namespace VL
open PySem PySem.Spec PyProof.Rows L2
variable[Tabs]
section
variable{P:Program}{w:World}{K:W.Frag}{mg:Str→Option Value}{base:Heap}{x qual:Str}{st:Stmt}{N ps:List Str}{dvss:List (List V)}{k:Nat}{SX:List PyData→Exc→Prop}
end
section
variable{K:W.Frag}{E:FK}{X:Exc→Sl→Prop}{ρ:Sl}{Q:TV→Prop}{DV:VEnds}{a:TV}
theorem bi_isiX{e:Exc}{c:V}{cv:Value}{b:Bool}(g:ExcCls K e.cls)(hc:clsV c=some cv)(k:PySem.W.kitOne K (.ref e.cls) cv=some b)(q:Q (.av (.d (.bool b)))):Bi K E X (rIsi3 K) [.av (.d (dX e)),.raw c] Q:=fun H0 σ ρ ts as H vs QV s hl _ kk=>by
 obtain⟨v,w,rfl,s⟩:=two_of s hl
 have:=s.pop.raw
 subst this
 exact .inr (.inl ⟨v,w,e.cls,_,cv,b,rfl,hc,g,s.top_d,k,kk _ q _ H (s.pop.pop.bl _)⟩)
end
end VL
end
section
namespace L2
open PySem PySem.Spec PyProof.Rows
section
variable{prog:Program}{w:World}{A:Around}{E:Value→Shared→Prop}{h:Heap}{g:Array GenState}{d:Drawn}{t:Nat}{os:OsState}
variable{nm q:Str}{C N:Addr}{bs bm bmB:List Value}{hdct:Bool}{sn:List Str}{sub:List Value}{ab:Bool}{col:Option Bool}{dd:Option Addr}{k0 k1 k2 k3 k5:Option Value}{B Bn newId nid initId inN:String}{bmN:List Value}
theorem type_call_initU(Fn:ExcBaseFacts Bn newId inN bmN)(hBn:bmB.contains (.type Bn)=true)(F:ExcBaseFacts B nid initId bmB)(T:OwnTail h bmB bm){mN:Str→Option Value}{rest:List Value}{fI:Addr}{oI:Obj}{Q:Fin→Shared→Prop}
  (hC:h.get? C=some (excClassObj nm q C N bs bm hdct sn sub ab col dd k0 k1 k2 k3 k5 newId)) (hn:h.Ns N mN) (hi:mN "__init__" = some (.ref fI))
  (hfI:h.get? fI=some oI) (hfc:oI.cls=.type "function")
  (hq:∀ h' e,Heap.MadeExcOf h h' e (.ref C) rest →
   wpAny (model prog w) A (call (.ref fI) (.ref e::rest)) (fun r s'=>r=.none∧Q (.done (.ret (.ref e))) s') E ⟨h',g,d,t,os⟩) (hrest:rest.length≤sizeLine) :
  wpAny (model prog w) A (Builtin.«type.__call__» ⟨.ref C::rest,[]⟩) Q E ⟨h,g,d,t,os⟩:=by
 repeat (first|with_reducible refine wpAny_loadPart_at hC ?_|with_reducible refine wpAny_madeBy_exc hC ?_|wp_step)
 refine codeAny_call_builtin_code (Code.quiet_builtin _ Fn.quiet) (wpAny_check_new_subU Fn hBn T hC ?_)
 refine codeAny_exc_new_subU Fn hBn F T hC ?_ hrest
 show wpAny _ _ _ _ _ _
 have hC₁:=Heap.get?_push_of_some { cls:=.ref C,data:=.fields #[.ref h.objs.size,.none,.none,.none,.bool false,.none] }
  (Heap.get?_push_of_some { cls:=.type "tuple",data:=.seq rest.toArray } hC)
 have hfI₁:=Heap.get?_push_of_some { cls:=.ref C,data:=.fields #[.ref h.objs.size,.none,.none,.none,.bool false,.none] }
  (Heap.get?_push_of_some { cls:=.type "tuple",data:=.seq rest.toArray } hfI)
 have hn₁:((h.push { cls:=.type "tuple",data:=.seq rest.toArray }).push { cls:=.ref C,data:=.fields #[.ref h.objs.size,.none,.none,.none,.bool false,.none] }).Ns N mN :=
  let ⟨o,es,ep,e,r⟩:=hn;⟨o,es,ep,Heap.get?_push_of_some _ (Heap.get?_push_of_some _ e),r⟩
 have hget:((h.push { cls:=.type "tuple",data:=.seq rest.toArray }).push
   { cls:=.ref C,data:=.fields #[.ref h.objs.size,.none,.none,.none,.bool false,.none] }).get? (h.objs.size+1)=some
   { cls:=.ref C,data:=.fields #[.ref h.objs.size,.none,.none,.none,.bool false,.none] }:=by heap_get
 have hcC:(Value.ref C::bm).contains (.ref C)=true:=by simp
 have T₁:=T.keeps (h':=(h.push { cls:=.type "tuple",data:=.seq rest.toArray }).push { cls:=.ref C,data:=.fields #[.ref h.objs.size,.none,.none,.none,.bool false,.none] })
  fun b o e=>Heap.get?_push_of_some _ (Heap.get?_push_of_some _ e)
 unfold isInstance
 repeat (first|with_reducible refine wpAny_loadPart_at hget ?_|(with_reducible refine wpAny_isSubtype_exc hC₁ ?_;rw[hcC])|wp_step)
 show wpAny _ _ (typeLookup (.ref C) _) _ _ _
 refine wpAny_typeLookup_tail hC₁ hn₁ T₁ F.mroIs F.init.lookup ?_
 rw[hi]
 refine wpAny_holding (wpAny_bind ?_)
 unfold bindSpecial
 refine wpAny_bind (wpAny_typeOf (T := "function") ⟨_,hfI₁,hfc⟩ ?_)
 rw[if_pos (by decide)]
 refine wpAny_pure (wpAny_bind (wpAny_mono (hq _ (h.objs.size+1) ⟨fun b o hb=>Heap.get?_push_of_some _ (Heap.get?_push_of_some _ hb),Heap.get?_none_of_le (Nat.le_succ _),h.objs.size,hget,Heap.get?_none_of_le (Nat.le_refl _),?_⟩) (fun r s' hr=>?_) fun _ _ x=>x))
 ·exact Heap.get?_push_of_some _ (Heap.get?_push_at rfl rfl)
 ·obtain⟨rfl,hQ⟩:=hr
  wp_walk
  exact hQ
theorem call_initU(Fn:ExcBaseFacts Bn newId inN bmN)(hBn:bmB.contains (.type Bn)=true)(F:ExcBaseFacts B nid initId bmB)(T:OwnTail h bmB bm){mN:Str→Option Value}{rest:List Value}{fI:Addr}{oI:Obj}{Q:Value→Shared→Prop}
  (hC:h.get? C=some (excClassObj nm q C N bs bm hdct sn sub ab col dd k0 k1 k2 k3 k5 newId)) (hn:h.Ns N mN) (hi:mN "__init__" = some (.ref fI))
  (hfI:h.get? fI=some oI) (hfc:oI.cls=.type "function")
  (hq:∀ h' e,Heap.MadeExcOf h h' e (.ref C) rest →
   wpAny (model prog w) (A.under (.builtin "type.__call__" ⟨.ref C::rest,[]⟩)) (call (.ref fI) (.ref e::rest)) (fun r s'=>r=.none∧Q (.ref e) s') E ⟨h',g,d,t,os⟩) (hrest:rest.length≤sizeLine) :
  wpAny (model prog w) A (call (.ref C) rest) Q E ⟨h,g,d,t,os⟩:=by
 have f1:=tc_lookup
 have f2:=tc_bind (.ref C)
 have hT:(⟨h,g,d,t,os⟩:Shared).TypeIs (.ref C) "type" := ⟨_,hC,rfl⟩
 refine wpAny_call (codeAny_of_tree ?_)
 show wpAny _ _ (callAny (.ref C) _) _ _ _
 repeat (any_goals (first|assumption|with_reducible refine wpAny_loadPart_at hC ?_|wp_step))
 refine⟨rfl,?_⟩
 refine codeAny_call_builtin_at (Code.quiet_builtin _ (by decide +kernel)) entry_typeCall (wpAny_check_type_call_sub hC (type_call_initU (hrest:=hrest) Fn hBn F T hC hn hi hfI hfc fun h' e hm=>?_))
 exact hq h' e hm
end
section
variable{prog:Program}{w:World}{A:Around}{E:Value→Shared→Prop}{s:Shared}{env:Env}
variable{nm q:Str}{C N:Addr}{bs bm bmB:List Value}{hdct:Bool}{sn:List Str}{sub:List Value}{ab:Bool}{col:Option Bool}{dd:Option Addr}{k0 k1 k2 k3 k5:Option Value}{B Bn newId nid initId inN:String}{bmN:List Value}
theorem raiseStmt_dict{M:Model}{x:Sem Value}{Q:Flow→Shared→Prop}(hbase:bm.contains (.type "BaseException")=true)(hh:A.handled=none)
  (h:wpAny M A x (fun v s₁=>∃ e t dx,v=.ref e∧s₁.heap.get? C=some (excClassObj nm q C N bs bm hdct sn sub ab col dd k0 k1 k2 k3 k5 newId) ∧
   s₁.heap.get? e=some { cls:=.ref C,dict:=dx,data:=.fields #[.ref t,.none,.none,.none,.bool false,.none] }∧E (.ref e) s₁) E s) :
  wpAny M A (raiseStmt env (some x) none) Q E s:=by
 have hcB:(Value.ref C::bm).contains (.type "BaseException")=true:=by rw[List.contains_cons,hbase,Bool.or_true]
 unfold raiseStmt
 refine wpAny_bind (wpAny_mono h (fun v s₁ h₁=>?_) fun _ _ x=>x)
 obtain⟨e,t,dx,rfl,hC,he,hE⟩:=h₁
 obtain⟨hp,g,d,tk,os⟩:=s₁
 repeat (first|with_reducible refine wpAny_loadPart_at he ?_|with_reducible refine wpAny_loadPart_at hC ?_|(with_reducible refine wpAny_isSubtype_exc hC ?_;rw[hcB])|wp_step)
 exact wpAny_raiseNew_none hh hE
theorem Raise_call_initU(Fn:ExcBaseFacts Bn newId inN bmN)(hBn:bmB.contains (.type Bn)=true)(F:ExcBaseFacts B nid initId bmB){mN:Str→Option Value}{x:Str}{np cpos pos:Pos}{args:List Expr}{fI:Addr}{Q:Flow→Shared→Prop}
  (hbase:bm.contains (.type "BaseException")=true) (hh:A.handled=none) (hplain:(backTo cpos (starEach args env)).any (·.1)=false) (hi:mN "__init__" = some (.ref fI))
  (h:wpAny (model prog w) A (eval (.Name x np) env) (fun f s₁=>f=.ref C∧wpAny (model prog w) A (evalArgs (.ref C) true (backTo cpos (starEach args env)) [])
   (fun a s₂=>a.kw=[]∧a.pos.length≤sizeLine∧s₂.heap.get? C=some (excClassObj nm q C N bs bm hdct sn sub ab col dd k0 k1 k2 k3 k5 newId)∧s₂.heap.Ns N mN∧OwnTail s₂.heap bmB bm∧(∃ oI,s₂.heap.get? fI=some oI∧oI.cls=.type "function") ∧
    ∀ h' e,Heap.MadeExcOf s₂.heap h' e (.ref C) a.pos→wpAny (model prog w) (A.under (.builtin "type.__call__" ⟨.ref C::a.pos,[]⟩)) (call (.ref fI) (.ref e::a.pos)) (fun r s'=>r=.none ∧
     s'.heap.get? C=some (excClassObj nm q C N bs bm hdct sn sub ab col dd k0 k1 k2 k3 k5 newId)∧(∃ t dx,s'.heap.get? e=some { cls:=.ref C,dict:=dx,data:=.fields #[.ref t,.none,.none,.none,.bool false,.none] })∧E (.ref e) s') E { s₂ with heap:=h' }) E s₁) E s) :
  wpAny (model prog w) A (exec (.Raise (some (.Call (.Name x np) args [] cpos)) none pos) env) Q E s:=by
 rw[arm_exec_Raise]
 first
  | refine wpAny_bind (wpAny_standAt (raiseStmt_dict (C:=C) (nm:=nm) (q:=q) (N:=N) (bs:=bs) (bm:=bm) (hdct:=hdct) (sn:=sn) (sub:=sub) (ab:=ab) (col:=col) (dd:=dd) (k0:=k0) (k1:=k1) (k2:=k2) (k3:=k3) (k5:=k5) (newId:=newId) hbase hh (wpAny_bind (wpAny_mono (wpAny_Call_ofName (wpAny_mono h (fun f s₁ h₁=>?_) fun _ _ x=>x)) (fun v s₃ h₃=>wpAny_bind (wpAny_standAt (wpAny_pure h₃))) fun _ _ x=>x))))
  | (simp only[evalOpt,Option.map];refine wpAny_bind (wpAny_standAt (raiseStmt_dict (C:=C) (nm:=nm) (q:=q) (N:=N) (bs:=bs) (bm:=bm) (hdct:=hdct) (sn:=sn) (sub:=sub) (ab:=ab) (col:=col) (dd:=dd) (k0:=k0) (k1:=k1) (k2:=k2) (k3:=k3) (k5:=k5) (newId:=newId) hbase hh (wpAny_bind (wpAny_mono (wpAny_Call_ofName (wpAny_mono h (fun f s₁ h₁=>?_) fun _ _ x=>x)) (fun v s₃ h₃=>wpAny_bind (wpAny_standAt (wpAny_pure h₃))) fun _ _ x=>x)))))
  | (refine wpAny_bind (wpAny_standAt (raiseStmt_dict (C:=C) (nm:=nm) (q:=q) (N:=N) (bs:=bs) (bm:=bm) (hdct:=hdct) (sn:=sn) (sub:=sub) (ab:=ab) (col:=col) (dd:=dd) (k0:=k0) (k1:=k1) (k2:=k2) (k3:=k3) (k5:=k5) (newId:=newId) hbase hh ?_));refine wpAny_bind (wpAny_mono (wpAny_Call_ofName (wpAny_mono h (fun f s₁ h₁=>?_) fun _ _ x=>x)) (fun v s₃ h₃=>wpAny_bind (wpAny_standAt (wpAny_pure h₃))) fun _ _ x=>x))
 obtain⟨rfl,h₁⟩:=h₁
 unfold callWith
 refine wpAny_bind (wpAny_holding (wpAny_mono h₁ (fun a s₂ h₂=>wpAny_bind (wpAny_standAt ?_)) fun _ _ x=>x))
 obtain⟨apos,akw⟩:=a
 obtain⟨hkw,hlen,hC,hn,T,⟨oI,hfI,hfc⟩,h₂⟩:=h₂
 obtain rfl:akw=[]:=hkw
 obtain⟨hp,g,d,tk,os⟩:=s₂
 simp only[hplain]
 refine wpAny_bind (wpAny_keeperOf_exc hC ?_)
 refine wpAny_bind (call_initU (hrest:=hlen) Fn hBn F T hC hn hi hfI hfc fun h' e hm=>wpAny_mono (h₂ h' e hm) (fun r s' z=>⟨z.1,wpAny_bind (wpAny_holding (wpAny_point (wpAny_pure ?_)))⟩) fun _ _ z=>z)
 obtain⟨_,z1,⟨t,dx,z2⟩,z3⟩:=z
 exact⟨e,t,dx,rfl,z1,z2,z3⟩
end
end L2
end
section
namespace L2
open PySem PySem.Spec PyProof.Rows PySem.W PySem.Builtin.ObjectAttr
noncomputable def onlyVal:List Value→Bool
 | [.type a,.type b,.type c,.type d]=>a == "ValueError" && b == "Exception" && c == "BaseException" && d == "object"
 | .ref _::r=>onlyVal r
 | _=>false
theorem onlyVal_inv{l:List Value}(h:onlyVal l=true):(∃ c r,l=.ref c::r∧onlyVal r=true)∨l=[.type "ValueError",.type "Exception",.type "BaseException",.type "object"]:=by
 unfold onlyVal at h
 split at h
 ·rename_i a b c d
  simp only[Bool.and_eq_true,beq_iff_eq] at h
  obtain⟨⟨⟨rfl,rfl⟩,rfl⟩,rfl⟩:=h
  exact .inr rfl
 ·exact .inl ⟨_,_,rfl,h⟩
 ·cases h
theorem refuse_onlyVal(self:Value)(l:List Value)(h:onlyVal l=true):refuseLoop self "__setattr__" l=pure ():=by
 induction l with
 | nil=>cases h
 | cons v r ih =>
  rcases onlyVal_inv h with⟨c,r',e,h'⟩|e
  ·cases e;rw[refuseLoop_ref];exact ih h'
  ·rw[e];exact PySem.F.store_ValueError.passes self
theorem onlyVal_has(l:List Value)(h:onlyVal l=true):l.contains (.type "object")=true:=by
 induction l with
 | nil=>cases h
 | cons v r ih =>
  rcases onlyVal_inv h with⟨c,r',e,h'⟩|e
  ·cases e;rw[List.contains_cons,ih h',Bool.or_true]
  ·rw[e];decide +kernel
noncomputable def valOver(K:Frag)(C:Addr):Bool:=(clsIn K C).any fun cd=>onlyVal cd.mro
structure ExcSet(K:W.Frag)(C:Addr)(name:Str):Prop where
 sa:findIn K (.ref C) "__setattr__" = some (some (.builtin "object.__setattr__"))
 ov:valOver K C=true
 tk:takerIn K C name=some none
 hd:hasDictIn K C=true
section
variable{prog:Program}{w:World}{A:Around}{E:Value→Shared→Prop}{s:Shared}{K:W.Frag}{x C:Addr}{ox:Obj}{od:Option Obj}{name:Str}{R:Result→Shared→Prop}
theorem osa_openX{tk:Tok}{v:Value}(X:K.In s.heap)(I:PySem.W.InstAt s.heap x ox C od)(hp:valOver K C=true)(ht:takerIn K C name=some none)
  (h:∀ b,wpAny (model prog w) A.in1 (storeInOwnDict (.ref x) (.ref C) (.str name tk) name v b)
   (fun fin s'=>match fin with|.done f=>R (.ok f) s'|.again c'=>c'.quiet=true∧codeAny (model prog w) A c' R s') (fun e s'=>R (.error e) s') s) :
  codeAny (model prog w) A (.call (.builtin "object.__setattr__") ⟨[.ref x,.str name tk,v],[]⟩) R s:=by
 have SF:=PySem.F.store_object
 obtain⟨cd,hc,ho⟩:=any_some hp
 have ne:cd.mro.isEmpty=false:=by cases q:cd.mro with|nil=>rw[q] at ho;cases ho|cons _ _=>rfl
 have sub:Looks (model prog w) s.heap (isInstance (.ref x) (.type "object")) true:=I.type.andThen (looks_mroIn X (by unfold mroIn;rw[hc,Option.bind_some,if_neg (by rw[ne];decide),onlyVal_has _ ho]))
 refine codeAny_call_builtin SF.slot.plain SF.entry (@check_slot (model prog w) _ _ s "object.__setattr__" "object" "__setattr__" (.ref x) [.str name tk,v] [] _ SF.kind SF.split sub (SF.args (.ref x) (.str name tk) v) ?_)
 obtain⟨attr,ha,hr⟩:=Option.bind_eq_some_iff.mp ht
 have hm:Looks (model prog w) s.heap (mroOf (.ref C)) cd.mro:=(looks_clsIn X hc).andThen .now
 have L3:Looks (model prog w) s.heap (storeTaker? attr) none:=by
  cases attr with
  | none=>exact .now
  | some a =>
   obtain⟨b,hb,hr'⟩:=Option.map_eq_some_iff.mp hr
   refine (looks_takesIn X hb).andThen ?_
   cases b with
   | false=>exact .now
   | true=>cases hr'
 rw[osa_eq,refuse_eq]
 refine wpAny_bind (wpAny_bind (I.type.here (wpAny_bind (hm.here ?_))))
 rw[refuse_onlyVal _ _ ho]
 refine wpAny_pure (wpAny_bind (I.type.here (wpAny_bind ((looks_findIn X ha).here (wpAny_bind (L3.here ?_))))))
 exact h _
theorem exc_set0{v:Value}{vs:Array Value}{sl:Array (Option Value)}{Q:Unit→Shared→Prop}(X:K.In s.heap)(g:ExcSet K C name)(hx:s.heap.get? x=some ⟨.ref C,none,.fields vs,sl⟩)
  (h:∀ h',h'.get? x=some ⟨.ref C,some s.heap.objs.size,.fields vs,sl⟩→h'.Ns1 s.heap.objs.size (fun y=>if y=name then some v else none)→(∀ b o,b≠x→s.heap.get? b=some o→h'.get? b=some o)→Q () { s with heap:=h',toks:=s.toks+2 }) :
  wpAny (model prog w) A (setAttr (.ref x) name v) Q E s:=by
 have I:PySem.W.InstAt s.heap x ⟨.ref C,none,.fields vs,sl⟩ C none:=⟨hx,rfl,rfl,trivial⟩
 refine PySem.W.set_plain X I g.sa (osa_openX (s:={ s with toks:=s.toks+1 }) X I g.ov g.tk fun b=>?_)
 obtain⟨cd,hc,hd'⟩:=PySem.W.any_some g.hd
 have hxs:x≠s.heap.objs.size:=Nat.ne_of_lt (Heap.lt_size hx)
 refine wpAny_bind (wpAny_pure (wpAny_bind (wpAny_bind (wpAny_loadPart hx (wpAny_bind (PySem.W.Looks.here (s:={ s with toks:=s.toks+1 }) (PySem.W.looks_clsIn X hc) ?_))))))
 rw[hd']
 have hx₁:(s.heap.push { cls:=.type "dict",data:=.dict #[] }).get? x=some ⟨.ref C,none,.fields vs,sl⟩:=Heap.get?_push_of_some _ hx
 refine wpAny_bind (wpAny_alloc ?_)
 refine wpAny_bind (wpAny_update hx₁ ?_)
 refine wpAny_pure (wpAny_bind (wpAny_pure (wpAny_bind ?_)))
 have hgd:((s.heap.push { cls:=.type "dict",data:=.dict #[] }).update x fun o=>{ o with dict:=some s.heap.objs.size }).get? s.heap.objs.size=some { cls:=.type "dict",data:=.dict #[] } :=
  (Heap.get?_update_ne _ _ _ _ hxs.symm).trans (Heap.get?_push_at rfl rfl)
 have hnd:((s.heap.push { cls:=.type "dict",data:=.dict #[] }).update x fun o=>{ o with dict:=some s.heap.objs.size }).Ns s.heap.objs.size (fun _=>none) :=
  ⟨_,#[],_,hgd,rfl,fun e he=>absurd he (by simp),fun _=>rfl⟩
 refine wpAny_nsSet1 (Heap.Ns1.of_empty hnd) fun h' hn' hs=>?_
 obtain⟨oD,esD,epD,hoD,hdD,hcD⟩:=hn'.count (Within.cons name v Within.nil)
 refine wpAny_bind (wpAny_lookBehind hoD (by rw[hdD];exact pastItsLine_dict (Nat.le_trans hcD (by rw[List.length_cons,List.length_nil,sizeLine_eq];omega))) ?_)
 refine wpAny_pure (h h' ?_ hn' fun b o hb e=>?_)
 ·exact (hs.2 x hxs).trans (Heap.get?_update_self _ hx₁ rfl)
 ·exact (hs.2 b (Nat.ne_of_lt (Heap.lt_size e))).trans ((Heap.get?_update_ne _ _ _ _ hb).trans (Heap.get?_push_of_some _ e))
theorem exc_set1{v:Value}{vs:Array Value}{sl:Array (Option Value)}{dx:Addr}{mA:Str→Option Value}{ns:List Str}{Q:Unit→Shared→Prop}(X:K.In s.heap)(g:ExcSet K C name)(hx:s.heap.get? x=some ⟨.ref C,some dx,.fields vs,sl⟩)(hne:dx≠x)
  (hn:s.heap.Ns1 dx mA) (hw:PySem.Within mA ns) (hsz:ns.length<1000)
  (h:∀ h',h'.Ns1 dx (fun y=>if y=name then some v else mA y)→Heap.SameBut dx s.heap h'→Q () { s with heap:=h',toks:=s.toks+2 }) :
  wpAny (model prog w) A (setAttr (.ref x) name v) Q E s:=by
 obtain⟨od,es,ep,e1,e2⟩:=id hn
 have I:PySem.W.InstAt s.heap x ⟨.ref C,some dx,.fields vs,sl⟩ C (some od):=⟨hx,rfl,rfl,e1⟩
 refine PySem.W.set_plain X I g.sa (osa_openX (s:={ s with toks:=s.toks+1 }) X I g.ov g.tk fun b=>?_)
 obtain⟨cd,hc,hd'⟩:=PySem.W.any_some g.hd
 refine wpAny_bind (wpAny_pure (wpAny_bind (wpAny_bind (wpAny_loadPart hx (wpAny_bind (PySem.W.Looks.here (s:={ s with toks:=s.toks+1 }) (PySem.W.looks_clsIn X hc) ?_))))))
 rw[hd']
 refine wpAny_pure (a:=some dx) (wpAny_bind (wpAny_pure (wpAny_bind ?_)))
 refine wpAny_nsSet1 (s:={ s with toks:=s.toks+1 }) hn fun h' hn2 hs2=>?_
 obtain⟨oD,esD,epD,hoD,hdD,hcD⟩:=hn2.count (PySem.Within.cons name v hw)
 refine wpAny_bind (wpAny_lookBehind hoD (by rw[hdD];exact pastItsLine_dict (Nat.le_trans hcD (by rw[List.length_cons,sizeLine_eq];omega))) ?_)
 exact wpAny_pure (h _ hn2 hs2)
end
end L2
end
section
namespace L2
open PySem PySem.Spec PyProof.Rows PySem.W
noncomputable def YObj(e C:Addr)(d:Option Addr):Heap→Prop:=fun h=>∃ t,h.get? e=some ⟨.ref C,d,.fields #[.ref t,.none,.none,.none,.bool false,.none],#[]⟩
noncomputable def hY(e C:Addr)(d:Option Addr):HO:=.ext (YObj e C d)
theorem ok_hY{P:Program}{w:World}{H:Hp}{h:Heap}{e C:Addr}{d:Option Addr}(x:YObj e C d h):ObjOk P w H h e (hY e C d) :=
 ⟨x,let ⟨t,q⟩:=x;⟨_,q⟩,fun h1 h2 ⟨t,q⟩ k=>⟨t,k _ q⟩⟩
theorem ok_hXD{P:Program}{w:World}{H:Hp}{h:Heap}{d:Addr}{fs:List (Str×V)}(x:XDct d fs h):ObjOk P w H h d (hXD d fs) :=
 ⟨x,let ⟨_,⟨_,_,_,q,_⟩,_⟩:=x;⟨_,q⟩,fun h1 h2 ⟨mA,n,r⟩ k=>⟨mA,n.at k,r⟩⟩
noncomputable def sXset(K:W.Frag)(C:Addr)(ta tv:TE)(f:Str):TS:=fun D σ H=>tv σ H fun y H1=>ta σ H1 fun x H2=>∃ e,x=.ref e ∧
  ((H2 e=some (hY e C none)∧∀ d,H2 d=none→d≠e→D.nx σ (upd (upd H2 e (hY e C (some d))) d (hXD d [(f,y)]))) ∨
   ∃ d fs,H2 e=some (hY e C (some d))∧H2 d=some (hXD d fs)∧d≠e∧fs.length<900∧D.nx σ (upd H2 d (hXD d (putF f y fs))))
section
variable{X:Cx}{pins:List (Addr×Obj)}{σ:St}{H:Hp}{s:Shared}{o value:Expr}{f:Str}{pos pos':Pos}{ta tv:TE}{C:Addr}
theorem Inv.excd{e d:Addr}{φ:Heap→Prop}{o1 o2:HO}{h':Heap}{t':Nat}(I:Inv X pins σ H s)(he:H e=some (.ext φ))(hd:H d=none)(hds:s.heap.get? d=none)(k:∀ b u,b≠e→s.heap.get? b=some u→h'.get? b=some u)(heo:∃ u,h'.get? e=some u)
  (n1:ObjOk X.prog X.w (upd (upd H e o1) d o2) h' e o1) (n2:ObjOk X.prog X.w (upd (upd H e o1) d o2) h' d o2):Inv X pins σ (upd (upd H e o1) d o2) { s with heap:=h',toks:=t' }:=by
 have hde:d≠e:=fun z=>by rw[z,he] at hd;cases hd
 have ne:∀ b,H b=none→b≠e:=fun b n z=>by rw[z,he] at n;cases n
 have nd:∀ b u,s.heap.get? b=some u→b≠d:=fun b u q z=>by rw[z,hds] at q;cases q
 have keepH:∀ b u,H b=some u→(∀ ψ,u≠.ext ψ)→upd (upd H e o1) d o2 b=some u:=fun b u q n=>by
  rw[upd_ne (fun z=>by rw[z,hd] at q;cases q),upd_ne (fun z=>by rw[z,he] at q;cases q;exact n _ rfl)];exact q
 refine I.un ⟨fun b u q n _ _=>k b u (ne b n) q,fun b u q n _ _=>⟨u.slots,k b u (ne b n) q⟩,fun b u q n _=>by rw[upd_ne (nd b u q),upd_ne (ne b n)];exact n,fun b u q _=>?_,fun b xs q=>keepH b _ q (by intro _ z;cases z),fun b u xs q=>keepH b _ q (by intro _ z;cases z),fun b ps q=>⟨#[],by simpa using keepH b _ q (by intro _ z;cases z)⟩⟩ fun a u q=>?_
 ·by_cases hbe:b=e
  ·subst hbe;exact heo
  ·exact⟨u,k b u hbe q⟩
 ·by_cases had:a=d
  ·subst had;rw[upd_same] at q;cases q;exact n2
  ·rw[upd_ne had] at q
   by_cases hae:a=e
   ·subst hae;rw[upd_same] at q;cases q;exact n1
   ·rw[upd_ne hae] at q
    refine (I.hok a u q).stay (fun b u' hb z=>k b u' (fun y=>?_) z) (fun b z=>keepH b _ z (by intro _ y;cases y)) (fun b xs z=>keepH b _ z (by intro _ y;cases y)) fun b o z=>keepH b _ z (by intro _ w;cases w)
    rcases hb with r|r
    ·exact hae (r▸y)
    ·rw[y,he] at r;cases r
theorem ps_xset(g:ExcSet X.K C f)(ha:PE X o ta)(hv:PE X value tv)(hs:swapsWith value (some (.Attribute o f pos')) pos.line X.env=pure false):PS X (.Assign [.Attribute o f pos'] value pos) (sXset X.K C ta tv f):=by
 intro pins s σ H D I h
 refine plainObj_wpAny_Assign_Attribute (thn (hv pins s σ H _ I h) fun u s1 ⟨y,H1,I1,ry,q⟩=>thn (ha pins s1 σ H1 _ I1 q) fun ov s2 ⟨x,H2,I2,rx,e,ex,q2⟩=>?_) hs
 subst ex
 obtain rfl:ov=Value.ref e:=rx
 rcases q2 with⟨he,q2⟩|⟨d,fs,he,hd,hde,hl,q2⟩
 ·obtain⟨t,ht⟩:=(I2.hok _ _ he).1
  have hf:H2 s2.heap.objs.size=none:=I2.hok.fresh (Nat.le_refl _)
  have hde:s2.heap.objs.size≠e:=Nat.ne_of_gt (Heap.lt_size ht)
  refine exc_set0 I2.kIn g ht fun h' k1 k2 k3=>⟨σ,_,I2.excd (t':=s2.toks+2) he hf (Heap.get?_none_of_le (Nat.le_refl _)) k3 ⟨_,k1⟩ (ok_hY ⟨t,k1⟩) (ok_hXD ⟨_,k2,fun g=>?_,fun g hg=>?_⟩),q2 _ hf hde⟩
  ·by_cases z:g=f
   ·subst z;simp only[List.lookup_cons_self,if_true];exact ry
   ·have:([(f,y)]:List (Str×V)).lookup g=none:=by
     rw[List.lookup_cons]
     have:(g == f)=false:=beq_false_of_ne z
     rw[this];rfl
    rw[this,if_neg z];trivial
  ·by_cases z:g=f
   ·subst z;exact .head _
   ·exact absurd (if_neg z) hg
 ·obtain⟨t,ht⟩:=(I2.hok _ _ he).1
  obtain⟨mA,hn,hr,hw⟩:=(I2.hok _ _ hd).1
  refine exc_set1 I2.kIn g ht hde hn hw (by rw[List.length_map];omega) fun h' k1 k2=>⟨σ,_,I2.write (t':=s2.toks+2) (x:=d) (e:=d) (by rw[hd];exact True.intro) (.inl rfl) (fun b u hb z=>(k2.2 b hb).trans z) (let ⟨o,_,_,q,_⟩:=k1;⟨o,q⟩) (ok_hXD ⟨_,k1,fun g=>?_,fun g hg=>?_⟩),q2⟩
  ·rw[lookup_putF]
   by_cases z:g=f
   ·rw[if_pos z,if_pos z];exact ry
   ·rw[if_neg z,if_neg z];exact hr g
  ·by_cases z:g=f
   ·rw[z];exact (keys_putF f y fs).1
   ·exact (keys_putF f y fs).2 g (hw g fun q=>hg ((if_neg z).trans q))
end
end L2
end
section
namespace L2
open PySem PySem.Spec PyProof.Rows
structure ExcI(K:W.Frag)(C:Addr)(bmB:List Value)(newId:String)(fI:Addr):Prop where
 ex:∃ tl N nm qn bs hdct sn sub ab col dd k0 k1 k2 k3 k5,K.lookup C=some (excClassObj nm qn C N bs tl hdct sn sub ab col dd k0 k1 k2 k3 k5 newId)∧PySem.W.nsOkIn K N=true∧PySem.W.nsIn K N "__init__" = some (some (.ref fI))∧PySem.W.tailIn K bmB tl=true∧∃ oN,K.lookup N=some oN
 fn:∃ oI,K.lookup fI=some oI∧oI.cls=.type "function"
theorem ns_some{K:W.Frag}{h:Heap}{N:Addr}{m:Str→Option Value}{n:Str}{v:Value}(X:K.In h)(G:h.Ns N m)(e:PySem.W.nsIn K N n=some (some v)):m n=some v:=by
 obtain⟨o,es,ep,ho,hd,_,hf⟩:=G
 have hf':=hf n
 unfold PySem.W.nsIn at e
 split at e
 case h_2=>cases e
 rename_i q
 have e1:=(X _ _ q).symm.trans ho
 cases e1
 cases hd
 split at e
 case h_2=>split at e<;>cases e
 rename_i en he
 cases e
 rw[← hf']
 unfold nsFind findBy
 rw[← Array.find?_toList,he]
 rfl
section
variable{X:Cx}{pins:List (Addr×Obj)}{σ:St}{H:Hp}{s:Shared}{F:FK}
theorem Inv.born{e:Addr}{o:HO}{h':Heap}{t':Nat}(I:Inv X pins σ H s)(hn:H e=none)(hes:s.heap.get? e=none)(k:∀ b u,s.heap.get? b=some u→h'.get? b=some u)(n1:ObjOk X.prog X.w (upd H e o) h' e o):Inv X pins σ (upd H e o) { s with heap:=h',toks:=t' }:=by
 have ne:∀ b u,s.heap.get? b=some u→b≠e:=fun b u q z=>by rw[z,hes] at q;cases q
 refine I.un ⟨fun b u q n _ _=>k b u q,fun b u q n _ _=>⟨u.slots,k b u q⟩,fun b u q n _=>by rw[upd_ne (ne b u q)];exact n,fun b u q _=>⟨u,k b u q⟩,fun b xs q=>by rw[upd_ne (ne_of_none q hn)];exact q,fun b u xs q=>by rw[upd_ne (ne_of_none q hn)];exact q,fun b ps q=>⟨#[],by rw[upd_ne (ne_of_none q hn)];simpa using q⟩⟩ fun a u q=>?_
 by_cases ha:a=e
 ·subst ha;rw[upd_same] at q;cases q;exact n1
 ·rw[upd_ne ha] at q
  refine (I.hok a u q).stay (fun b u' _ z=>k b u' z) (fun b z=>by rw[upd_ne (ne_of_none z hn)];exact z) fun b xs z=>by rw[upd_ne (ne_of_none z hn)];exact z
noncomputable def del(H:Hp)(e:Addr):Hp:=fun b=>if b=e then none else H b
theorem del_ne{b e:Addr}(h:b≠e):del H e b=H b:=if_neg h
theorem Inv.forget{e:Addr}{φ:Heap→Prop}(I:Inv X pins σ H s)(he:H e=some (.ext φ)):Inv X pins σ (del H e) s:=by
 have keepH:∀ b u,H b=some u→(∀ ψ,u≠.ext ψ)→del H e b=some u:=fun b u q n=>by
  rw[del_ne (fun z=>by rw[z,he] at q;cases q;exact n _ rfl)];exact q
 have:=I.un (t':=s.toks) (H':=del H e) (h':=s.heap) ⟨fun b u q n _ _=>q,fun b u q n _ _=>⟨u.slots,q⟩,fun b u q n _=>by unfold del;split;rfl;exact n,fun b u q _=>⟨u,q⟩,fun b xs q=>keepH b _ q (by intro _ z;cases z),fun b u xs q=>keepH b _ q (by intro _ z;cases z),fun b ps q=>⟨#[],by simpa using keepH b _ q (by intro _ z;cases z)⟩⟩ fun a u q=>?_
 ·exact this
 ·have ha:a≠e:=fun z=>by rw[z] at q;unfold del at q;rw[if_pos rfl] at q;cases q
  rw[del_ne ha] at q
  exact (I.hok a u q).stay (fun b u' _ z=>z) (fun b z=>keepH b _ z (by intro _ y;cases y)) (fun b xs z=>keepH b _ z (by intro _ y;cases y)) fun b o z=>keepH b _ z (by intro _ w;cases w)
theorem made_XE2{s':Shared}{ea:Addr}{oe:Obj}{vs:Array Value}{H':Hp}(I:Inv X pins σ H s)(I':Inv X pins σ H' s')(k:∀ b o,s.heap.get? b=some o→b∉frs X.stack→H b=none→s'.heap.get? b=some o)
  (he:s'.heap.get? ea=some oe) (hd:oe.data=.fields vs) (hz:1<vs.size) (h1:vs[1]?=some .none) (hn:H' ea=none) (hnew:s.heap.get? ea=none) (th:∀ b o,s.heap.get? b=some o→∃ o',s'.heap.get? b=some o') (f:F oe.cls oe.dict σ H'):XE X F (.ref ea) s':=by
 have nf:ea∉frs X.stack:=fun hm=>by
  obtain⟨_,o,ho,hdn⟩:=I'.stack.mem hm
  rw[he] at ho
  cases ho
  exact hdn vs hd
 have hin:∀ env∈X.stack,∀ a,env.frame=some a→a∈ea::frs X.stack:=fun env h1 a h2=>.tail _ (List.mem_filterMap.mpr ⟨env,h1,h2⟩)
 refine⟨ea,oe.cls,oe.dict,false,PySem.W.hideAll s'.heap (ea::frs X.stack),H',σ,rfl,⟨fun b o e=>PySem.W.of_hideAll _ e,PySem.W.hideAll_none _ (.head _),PySem.W.funFrames_hide I'.stack hin,oe,vs,he,rfl,rfl,hd,hz,by rw[if_neg Bool.false_ne_true];exact h1⟩,
  I'.pins_of fun p hp=>I'.pin p (by simpa using List.mem_append_left _ (by simpa using hp)),fun a o e=>?_,⟨fun b o e n nf' ne=>?_,fun b o e nf' ne=>?_,fun p hp=>?_⟩,f⟩
 ·refine (I'.hok a o e).stay (fun b u hb q=>PySem.W.hideAll_get _ q fun hm=>?_) (fun _ z=>z) fun _ _ z=>z
  have hnb:H' b=none:=by
   rcases List.mem_cons.mp hm with z|z
   ·rw[z];exact hn
   ·exact I'.stkFree b z
  rcases hb with z|z
  ·rw[z,e] at hnb;cases hnb
  ·rw[z] at hnb;cases hnb
 ·have e1:=I.base.keep b o e n (fun z=>nf' (fs_stack I z)) ne
  exact PySem.W.hideAll_get _ (k b o e1 nf' (I.base.free b o e n ne)) fun hm=>by
   rcases List.mem_cons.mp hm with z|z
   ·rw[z,hnew] at e1;cases e1
   ·exact nf' z
 ·obtain⟨o1,e1⟩:=I.base.there b o e ne
  obtain⟨o',e'⟩:=th b o1 e1
  exact⟨o',PySem.W.hideAll_get _ e' fun hm=>by
   rcases List.mem_cons.mp hm with z|z
   ·rw[z,hnew] at e1;cases e1
   ·exact nf' z⟩
 ·obtain⟨e1,n1,l1,f1,_⟩:=I'.pin p (List.mem_append_left _ hp)
  obtain⟨e0,n0,l0,f0,_⟩:=I.pin p (List.mem_append_left _ hp)
  refine PySem.W.hideAll_get _ e1 fun z=>?_
  rcases List.mem_cons.mp z with z|z
  ·rw[z,hnew] at e0;cases e0
  rcases I.ok.stk with e|⟨e,ef⟩
  ·rw[e] at z;exact f1 z
  ·rw[e] at z
   rcases frs_at z with y|y
   ·rw[ef] at y;exact l1 (Option.some.inj y).symm
   ·exact f1 y
noncomputable def spInit(C:Addr)(ks:List Str):Sp:=fun vs H Q _=>∃ e ws,vs=.ref e::ws∧ws.length=ks.length∧H e=some (hY e C none)∧∀ d,H d=none→d≠e→Q .non (upd (upd H e (hY e C (some d))) d (hXD d (ks.zip ws)))
noncomputable def tRaiseI(C:Addr)(ks:List Str)(F:FK)(t:TA):TS:=fun _ σ H=>t σ H fun vs H1=>vs.length=ks.length∧vs.length≤1000∧∀ d,H1 d=none→F (.ref C) (some d) σ (upd H1 d (hXD d (ks.zip vs)))
theorem ps_raiseI{C fI:Addr}{x:Str}{np cpos pos:Pos}{bm bmN:List Value}{B Bn newId nid initId inN:String}{k:Nat}{fd:FuncData}{ps ks:List Str}{t:TA}{e:Expr}{es:List Expr}(Fn:ExcBaseFacts Bn newId inN bmN)(hBn:bm.contains (.type Bn)=true)(FB:ExcBaseFacts B nid initId bm)(hx:ExcI X.K C bm newId fI)(hc:X.calm=true)(hg:Gl X x)(hm:X.mg x=some (.ref C))
  (Fk:FnOk X.prog X.w X.K X.mg X.base (CXE X.prog X.w) k fI fd ps (spInit C ks)) (hr:Room (k+1) X.A) (hb:Binds X.K fd ps []) (ha:PA (X.wish (XE X F)) (e::es) t) (hd:(x == ("__debug__" : Str))=false:=by decide)
  (he:starEach (e::es) X.env=(false,eval e X.env)::starEach es X.env:=by rfl) (hpl:(backTo cpos (starEach es X.env)).any (·.1)=false:=by rfl) :
  PS (X.wish (XE X F)) (.Raise (some (.Call (.Name x np) (e::es) [] cpos)) none pos) (tRaiseI C ks F t):=by
 intro pins s σ H D I f
 have I0:Inv X pins σ H s:=I.unwish
 obtain⟨tl,N,nm,q,bs,hdct,sn,sub,ab,col,dd,k0,k1,k2,k3,k5,hC,hN,hi,hT,oN,hoN⟩:=hx.ex
 obtain⟨oI,hoI,hfc⟩:=hx.fn
 have G:s.heap.Ns N (s.heap.nsMap N):=.of_isNs (PySem.W.isNs_of_in I0.kIn hN)
 have hplain:(backTo cpos (starEach (e::es) X.env)).any (·.1)=false:=by rw[he];show (false || (backTo cpos (starEach es X.env)).any (·.1))=false;rw[hpl];rfl
 refine Raise_call_initU (C:=C) (nm:=nm) (q:=q) (N:=N) (bs:=bs) (bm:=tl) (hdct:=hdct) (sn:=sn) (sub:=sub) (ab:=ab) (col:=col) (dd:=dd) (k0:=k0) (k1:=k1) (k2:=k2) (k3:=k3) (k5:=k5) (mN:=s.heap.nsMap N) (fI:=fI)
  Fn hBn FB ((PySem.W.tail_of_in I0.kIn hT).hasType FB.hasBase) (I0.ok.hd hc) hplain (ns_some I0.kIn G hi) (ld_glob (X:=X.wish (XE X F)) I hg hm ⟨rfl,?_⟩ hd)
 have ha1:=ha cpos pins s σ H _ I f
 rw[he] at ha1 ⊢
 refine Calls.evalArgs_plain (thn ha1 fun us s1 ⟨vs,H1,I1w,r,hl1,hl2,hq⟩=>?_)
 have I1:Inv X pins σ H1 s1:=I1w.unwish
 refine⟨rfl,by rw[← r.length,sizeLine_eq];omega,I1.kIn _ _ hC,?_,PySem.W.tail_of_in I1.kIn hT,⟨oI,I1.kIn _ _ hoI,hfc⟩,fun h' ea mk=>?_⟩
 ·obtain⟨o,es',ep,e1,r1⟩:=G
  have:=(I0.kIn _ _ hoN).symm.trans e1
  cases this
  exact⟨_,es',ep,I1.kIn _ _ hoN,r1⟩
 have hne:H1 ea=none:=by
  cases z:H1 ea with
  | none=>rfl
  | some o =>
   obtain⟨u,hu⟩:=objOk_there (I1.hok ea o z)
   rw[mk.new] at hu
   cases hu
 obtain⟨tt,he0,ht0,_⟩:=mk.there
 have I2:Inv X pins σ (upd H1 ea (hY ea C none)) { s1 with heap:=h',toks:=s1.toks }:=I1.born hne mk.new mk.keeps (ok_hY ⟨tt,he0⟩)
 have r2:Vals (V.ref ea::vs) (Value.ref ea::us):=.cons rfl r
 have hsp:spInit C ks (V.ref ea::vs) (upd H1 ea (hY ea C none)) (fun v H2=>v=.non∧∃ d,H1 d=none∧d≠ea∧H2=upd (upd (upd H1 ea (hY ea C none)) ea (hY ea C (some d))) d (hXD d (ks.zip vs))) E0 :=
  ⟨ea,vs,rfl,hl1,upd_same ..,fun d hd hde=>⟨rfl,d,by rw[upd_ne hde] at hd;exact hd,hde,rfl⟩⟩
 have hlen:(Value.ref ea::us++[]).length=ps.length:=by
  rw[List.append_nil,← Fk.len _ _ _ _ hsp];exact r2.length.symm
 have hbb:=hb _ (Value.ref ea::us) I2.kIn hlen
 rw[List.append_nil] at hbb
 refine wpAny_call (codeAny_mono (Fk.run _ X.stack _ _ ⟨Value.ref ea::us,[]⟩ (Value.ref ea::us) _ _ E0 (hr.make C us []) (I2.env0.make C us []) hbb r2 hsp) fun z s' hq'=>?_)
 cases z with
 | error e=>obtain⟨_,_,_,_,_,_,_,_,_,_,_,_,_,y⟩:=hq';exact y.elim
 | ok fl =>
  cases fl with
  | ret u =>
   have hq2:=hq'
   obtain⟨_,H',_,_,un,_,_,_,_⟩:=hq2
   obtain⟨v,H',I3,rv,ev,d,hd1,hde,rfl⟩:=I2.after hq'
   subst ev
   have hY3:upd (upd (upd H1 ea (hY ea C none)) ea (hY ea C (some d))) d (hXD d (ks.zip vs)) ea=some (hY ea C (some d)):=by rw[upd_ne (Ne.symm hde),upd_same]
   obtain⟨t3,g3⟩:=(I3.hok _ _ hY3).1
   have eH:del (upd (upd (upd H1 ea (hY ea C none)) ea (hY ea C (some d))) d (hXD d (ks.zip vs))) ea=upd H1 d (hXD d (ks.zip vs)):=by
    funext b
    by_cases z:b=ea
    ·subst z;rw[upd_ne (Ne.symm hde)];unfold del;rw[if_pos rfl];exact hne.symm
    ·rw[del_ne z]
     by_cases y:b=d
     ·subst y;rw[upd_same,upd_same]
     ·rw[upd_ne y,upd_ne y,upd_ne z,upd_ne z]
   have I4:=I3.forget hY3
   rw[eH] at I4
   have hu:u=Value.none:=rv
   have nb:∀ b o,s1.heap.get? b=some o→b≠ea:=fun b o q z=>by rw[z,mk.new] at q;cases q
   refine⟨hu,I3.kIn _ _ hC,⟨t3,some d,g3⟩,made_XE2 (oe:=⟨.ref C,some d,.fields #[.ref t3,.none,.none,.none,.bool false,.none],#[]⟩) I1 I4 (fun b o q nf n=>?_) g3 rfl (by simp) rfl (by rw[upd_ne (Ne.symm hde)];exact hne) mk.new (fun b o q=>un.there b o (mk.keeps b o q) (by simp)) (hq d hd1)⟩
   exact un.keep b o (mk.keeps b o q) (by rw[upd_ne (nb b o q)];exact n) nf (by simp)
  | next=>exact hq'.elim
  | brk=>exact hq'.elim
  | cont=>exact hq'.elim
end
end L2
end
section
namespace L2
open PySem PySem.Spec PyProof.Rows
structure ExcFld(K:W.Frag)(C:Addr)(f:Str):Prop where
 get:ExcGet K C
 hd:PySem.W.hasDictIn K C=true
 no:PySem.W.findIn K (.ref C) f=some none
noncomputable def tXfld(K:W.Frag)(ta:TE)(f:Str):TE:=fun σ H Q=>ta σ H fun x H1=>∃ ea C a vs v,x=.ref ea∧H1 ea=some (hX ea (.ref C) (some a))∧H1 a=some (hXD a vs)∧ExcFld K C f∧vs.lookup f=some v∧Q v H1
theorem pe_xfld{X:Cx}{e:Expr}{f:Str}{pos:Pos}{ta:TE}(he:PE X e ta)(hb:attributeBase e f X.env (eval e X.env)=eval e X.env:=by rfl):PE X (.Attribute e f pos) (tXfld X.K ta f):=by
 intro pins s σ H Q I h
 refine attr_of hb (thn (he pins s σ H _ I h) fun u s1 ⟨x,H1,I1,rx,ea,C,a,vs,v,ex,h1,h2,g,l,q⟩=>?_)
 subst ex
 obtain rfl:u=Value.ref ea:=rx
 obtain⟨o,ws,k1,k2,k3,k4⟩:=(I1.hok _ _ h1).1
 obtain⟨mA,n,r,_⟩:=(I1.hok _ _ h2).1
 obtain⟨od,ho,hl⟩:=lookIn_ns n
 have rf:=r f
 rw[l] at rf
 cases hv:mA f with
 | none=>rw[hv] at rf;exact rf.elim
 | some u =>
  rw[hv] at rf
  have ru:RelV v u:=rf
  have J:PySem.W.InstAt s1.heap ea o C (some od):=⟨k1,k2,by obtain⟨c,d,da,sl⟩:=o;cases k4;rfl,by rw[k3];exact ho⟩
  exact exc_attr I1.kIn J g.get (PySem.W.findObj_own g.hd g.no rfl (by rw[hl,hv])) (handed_of ru) ⟨v,H1,I1.tok _,ru,q⟩
theorem pe_xfldK{X:Cx}{K:W.Frag}{e:Expr}{f:Str}{pos:Pos}{ta:TE}(h:X.K=K)(he:PE X e ta)(hb:attributeBase e f X.env (eval e X.env)=eval e X.env:=by rfl):PE X (.Attribute e f pos) (tXfld K ta f):=h▸pe_xfld he hb
theorem init_sem1{K:W.Frag}{C e:Addr}{k1:Str}{H:Hp}{Q:VK}{w1:V}(he:H e=some (hY e C none))(q:∀ d,H d=none→d≠e→Q .non (upd (upd H e (hY e C (some d))) d (hXD d [(k1,w1)]))) :
  sXset K C (tVar 0) (tVar 1) k1 { nx:=fun _ H'=>Q .non H',rt:=Q } [some (.ref e),some w1] H :=
 ⟨w1,rfl,.ref e,rfl,e,rfl,.inl ⟨he,q⟩⟩
theorem init_sem2{K:W.Frag}{C e:Addr}{k1 k2:Str}{H:Hp}{Q:VK}{w1 w2:V}(hk:k1≠k2)(he:H e=some (hY e C none))(q:∀ d,H d=none→d≠e→Q .non (upd (upd H e (hY e C (some d))) d (hXD d [(k1,w1),(k2,w2)]))) :
  tSeq (sXset K C (tVar 0) (tVar 1) k1) (sXset K C (tVar 0) (tVar 2) k2) { nx:=fun _ H'=>Q .non H',rt:=Q } [some (.ref e),some w1,some w2] H :=
 ⟨w1,rfl,.ref e,rfl,e,rfl,.inl ⟨he,fun d hd hde=>⟨w2,rfl,.ref e,rfl,e,rfl,.inr ⟨d,[(k1,w1)],by rw[upd_ne (Ne.symm hde),upd_same],upd_same ..,hde,by simp,by
  show Q .non (upd (upd (upd H e (hY e C (some d))) d (hXD d [(k1,w1)])) d (hXD d (putF k2 w2 [(k1,w1)])))
  rw[upd_upd,show putF k2 w2 [(k1,w1)]=[(k1,w1),(k2,w2)] from by simp[putF,hk]]
  exact q d hd hde⟩⟩⟩⟩
section
variable{P:Program}{w:World}{K:W.Frag}{mg:Str→Option Value}{base:Heap}{CX:CXT}{qual p1 p2 k1 k2 self:Str}{st:Stmt}{f C:Addr}{fd:FuncData}{k:Nat}{dV:Value}
theorem init1(F:FunD K "__init__" qual st dV f fd)(Sc:FnScope [self,p1] [self,p1] (defScope st))
  (hbody:∀ (cdv:Value) (A:Around) (outer:List Env) (s:Shared) (H:Hp) (E:XK),PSs (cxOf CX P w K mg base [self,p1] qual (defScope st) f cdv A outer s H E).nox (defBody st) (sXset K C (tVar 0) (tVar 1) k1)) :
  FnOk P w K mg base CX (k+1) f fd [self,p1] (spInit C [k1]):=by
 refine F.ok Sc (fun vs H Q E ⟨e,ws,z,l,_⟩=>by rw[z,List.length_cons,l];rfl) fun cdv A outer s H vs Q E _ h=>⟨_,hbody cdv A outer s H E,?_⟩
 obtain⟨e,ws,rfl,l,he,q⟩:=h
 match ws,l with
 | [w1],_=>exact init_sem1 he q
theorem init2(hk:k1≠k2)(F:FunD K "__init__" qual st dV f fd)(Sc:FnScope [self,p1,p2] [self,p1,p2] (defScope st))
  (hbody:∀ (cdv:Value) (A:Around) (outer:List Env) (s:Shared) (H:Hp) (E:XK),PSs (cxOf CX P w K mg base [self,p1,p2] qual (defScope st) f cdv A outer s H E).nox (defBody st) (tSeq (sXset K C (tVar 0) (tVar 1) k1) (sXset K C (tVar 0) (tVar 2) k2))) :
  FnOk P w K mg base CX (k+1) f fd [self,p1,p2] (spInit C [k1,k2]):=by
 refine F.ok Sc (fun vs H Q E ⟨e,ws,z,l,_⟩=>by rw[z,List.length_cons,l];rfl) fun cdv A outer s H vs Q E _ h=>⟨_,hbody cdv A outer s H E,?_⟩
 obtain⟨e,ws,rfl,l,he,q⟩:=h
 match ws,l with
 | [w1,w2],_=>exact init_sem2 hk he q
end
end L2
namespace VL
open PySem PySem.Spec PyProof.Rows L2
variable[Tabs]
section
variable{K:W.Frag}{F:FK}{X:Exc→Sl→Prop}{ρ:Sl}{Q:TV→Prop}{DV:VEnds}
theorem zip_fst{α β:Type}:∀ {as:List α} {bs:List β},as.length=bs.length→(as.zip bs).map Prod.fst=as
 | [],[],_=>rfl
 | a::as,b::bs,h=>by rw[List.zip_cons_cons,List.map_cons,zip_fst (by simpa using h)]
theorem zip_snd{α β:Type}:∀ {as:List α} {bs:List β},as.length=bs.length→(as.zip bs).map Prod.snd=bs
 | [],[],_=>rfl
 | a::as,b::bs,h=>by rw[List.zip_cons_cons,List.map_cons,zip_snd (by simpa using h)]
theorem sv_raiseI{C:Addr}{ks:List Str}{A:TA}(h:Ea K F X A ρ fun bs=>NRs bs∧bs.length=ks.length∧bs.length≤1000∧X ⟨C,ks.zip (bs.map TV.data)⟩ ρ):Sv K F X (tRaiseI C ks F A) ρ DV:=fun H0 σ ts as H D _ s x _ =>
 h H0 σ ts as H _ s x fun bs ⟨nr,hl,hz,q⟩ vs H' s' hv=>by
  obtain⟨rp,s2⟩:=SR.reps nr.all hv s'
  have l1:ks.length=vs.length:=by omega
  have l2:ks.length=(bs.map TV.data).length:=by rw[List.length_map];omega
  refine⟨by omega,by omega,fun d hd=>x.x _ ρ q _ _ σ _ (s2.ext (same_new hd)).pops ⟨rfl,.inr ⟨d,ks.zip vs,rfl,upd_same ..,?_,?_⟩⟩⟩
  ·rw[zip_fst l1,zip_fst l2]
  ·rw[zip_snd l1,zip_snd l2]
   exact rp.same (same_new hd)
theorem fld_look{G:Hp}{f:Str}{y:PyData}:∀ {fs:List (Str×PyData)} {vs:List (Str×V)} {ds:List PyData},fs.map (fun p=>(PyData.str p.1,p.2))=(vs.map fun p=>PyData.str p.1).zip ds→Reps K G (vs.map Prod.snd) ds→fs.lookup f=some y→∃ v,vs.lookup f=some v∧Rep K G v y
 | [],_,_,_,_,l=>by cases l
 | (g,x)::fs,[],_,e,_,_=>by simp at e
 | (g,x)::fs,(g',v)::vs,[],e,_,_=>by simp at e
 | (g,x)::fs,(g',v)::vs,d::ds,e,r,l=>by
  simp only[List.map_cons,List.zip_cons_cons,List.cons.injEq,Prod.mk.injEq,PyData.str.injEq] at e
  obtain⟨⟨rfl,rfl⟩,e⟩:=e
  cases r with
  | cons r rs =>
   rw[List.lookup_cons] at l ⊢
   cases z:f == g with
   | true=>rw[z] at l;cases l;exact⟨v,rfl,r⟩
   | false=>rw[z] at l;exact fld_look e rs l
theorem ev_xfld{te:TE}{f:Str}(h:Ev K F X te ρ fun a=>∃ (e:Exc) (y:PyData),a=.av (.d (dX e))∧ExcFld K e.cls f∧e.fs.lookup f=some y∧Q (.av (.d y))):Ev K F X (tXfld K te f) ρ Q:=fun H0 σ ts as H QV s x k =>
 h H0 σ ts as H _ s x fun a ⟨e,y,ea,g,l,q⟩ v H' s'=>by
  subst ea
  obtain⟨w,⟨b,c,vs,rfl,h1,h2,h3⟩,s2⟩:=s'.item (c:=.av (.d y)) (y:=y) NR.av Item.d (fun w=>∃ b c vs,v=.ref b∧H' b=some (hX b (.ref e.cls) (some c))∧H' c=some (hXD c vs)∧vs.lookup f=some w) fun G r sm=>by
   have r':Rep K G v (.dict ((.none,.int e.cls)::e.fs.map fun p=>(.str p.1,p.2))):=r
   cases r' with
   | exc _ z => 
    have:=(List.cons.inj z).2
    cases hf:e.fs with
    | nil=>rw[hf] at l;cases l
    | cons _ _=>rw[hf] at this;cases this
   | @excF b C' c vs ds _ h1 h2 rs z =>
    obtain⟨z1,z2⟩:=List.cons.inj z
    simp only[Prod.mk.injEq,PyData.int.injEq,true_and] at z1
    have z3:e.cls=C':=Int.ofNat.inj z1
    subst z3
    obtain⟨w,hw,rw'⟩:=fld_look z2 rs l
    exact⟨w,⟨b,c,vs,rfl,sm _ _ h1,sm _ _ h2,hw⟩,rw'⟩
   | dK _ _ z=>exact absurd z zipK_ne
   | dT _ _ z=>exact absurd z zipT_ne
   | dN _ _ _ z=>exact absurd z zipN_ne
  exact⟨b,e.cls,c,vs,w,rfl,h1,h2,g,h3,k _ q _ _ s2⟩
end
end VL
end
section
namespace VL
open PySem PySem.Spec L2
variable[Tabs]
section
variable{K:W.Frag}{G G' H H' H0:Hp}{σ:St}{ρ:Sl}{ts:List V}{as:List TV}{v x y:V}{a b:TV}
theorem RAs.pick{c:AV}:∀ {vs:List V} {xs:List AV} {p:Fp} {j:Nat},RAs K G H vs xs p→xs[j]?=some c →
  ∃ (p1 p2:Fp) (w:V),(∀ b,p b=p1 b+p2 b)∧vs[j]?=some w∧RA K G H w c p1∧∀ (G' H':Hp) (c':AV) (p1':Fp),Same G G'→(∀ b o,0<p2 b→H b=some o→H' b=some o)→RA K G' H' w c' p1'→RAs K G' H' vs (xs.set j c') (fun b=>p1' b+p2 b)
 | _,_,_,_,.nil _,e=>by simp at e
 | _,_,_,0,.cons (p:=p1) (q:=q1) (v:=v0) r rs e0,e=>by
  simp at e
  subst e
  exact⟨p1,q1,v0,e0,rfl,r,fun G' H' c' p1' m k r'=>.cons r' (rs.mono m k) fun _=>rfl⟩
 | _,_,_,j+1,.cons (p:=p1) (q:=q1) r rs e0,e=>by
  obtain⟨pa,pb,w,h1,h2,h3,h4⟩:=RAs.pick (j:=j) rs (by simpa using e)
  refine⟨pa,fun b=>p1 b+pb b,w,fun b=>by have:=e0 b;have:=h1 b;dsimp only;omega,by simpa using h2,h3,fun G' H' c' p1' m k r'=>?_⟩
  exact .cons (r.mono m fun b o z=>k b o (by dsimp only;omega)) (h4 G' H' c' p1' m (fun b o z=>k b o (by dsimp only;omega)) r') fun b=>by dsimp only;omega
theorem SR.write2{i j:Nat}{xs ys ys':List AV}{c:AV}(h:SR K H0 σ ρ (v::ts) (.av c::as) H)(hS:Stb as)(hi:ρ[i]?=some (some (.own xs)))(hj:xs[j]?=some (.own ys)) :
  ∃ l m us vs,σ[i]?=some (some (.ref l))∧H l=some (.lst us)∧us.length=xs.length∧us[j]?=some (.ref m)∧H m=some (.lst vs)∧vs.length=ys.length∧∀ vs',(∀ G H p q,RAs K G H vs ys p→RA K G H v c q→∃ p':Fp,(∀ b,p' b≤p b+q b)∧RAs K G H vs' ys' p')→SR K H0 σ (ρ.set i (some (.own (xs.set j (.own ys'))))) ts as (upd H m (.lst vs')):=by
 obtain⟨⟨p,q,h1,h2,h3,h4⟩,s⟩:=h
 obtain⟨p1,p2,w,e1,e2,e3,e4⟩:=h1.frz hi fun _ _ _ _=>trivial
 cases h2 with
 | @cons _ _ _ _ q1 q2 _ r rs eq =>
  cases r with
  | av r =>
  cases e3 with
  | @own l us _ p3 _ hl hr ep =>
   obtain⟨pa,pb,u,f1,f2,f3,f4⟩:=hr.pick hj
   cases f3 with
   | @own m vs _ p5 _ hm hy em =>
   refine⟨l,m,us,vs,e2,hl,hr.len,f2,hm,hy.len,fun vs' hw=>?_⟩
   have hpl:p1 l=1+p3 l:=by have:=ep l;simpa using this
   have hpm:pa m=1+p5 m:=by have:=em m;simpa using this
   have tot:∀ b,p1 b=(if b=l then 1 else 0)+(pa b+pb b):=fun b=>by rw[ep b,f1 b]
   have lm:l≠m:=fun y=>by subst y;have a1:=tot l;rw[if_pos rfl] at a1;have:=e1 l;have:=h3 l;omega
   have ne:∀ b u,p b+q b=0→H b=some u→b≠m:=fun b u z _ y=>by subst y;have:=e1 b;have:=tot b;omega
   have m0:Same (hid H p q) (hid (upd H m (.lst vs')) p q):=hid_upd fun b u z w=>⟨z,ne b u z w⟩
   have k0:∀ b o,0<(if b=l then 1 else 0)+pb b+p5 b+p2 b+q b→H b=some o→upd H m (.lst vs') b=some o:=fun b o z w=>by
    rw[upd_ne (fun y=>by subst y;have:=h3 b;have:=e1 b;have:=tot b;simp[lm.symm] at z;omega)];exact w
   obtain⟨p',l1,l2⟩:=hw _ _ _ _ (hy.mono m0 fun b o z=>k0 b o (by omega)) (r.mono m0 fun b o z=>k0 b o (by have:=eq b;omega))
   have in1:=f4 (hid (upd H m (.lst vs')) p q) (upd H m (.lst vs')) (.own ys') (fun b=>(if b=m then 1 else 0)+p' b) m0 (fun b o z=>k0 b o (by omega)) (.own upd_same l2 fun _=>rfl)
   have z:=e4 (hid (upd H m (.lst vs')) p q) (upd H m (.lst vs')) (.ref l) (.own (xs.set j (.own ys'))) (fun b=>(if b=l then 1 else 0)+(((if b=m then 1 else 0)+p' b)+pb b)) (fun b=>((if b=l then 1 else 0)+(((if b=m then 1 else 0)+p' b)+pb b))+p2 b) m0 (fun b o z=>k0 b o (by omega)) (.own (k0 l _ (by simp;omega) hl) in1 fun _=>rfl) (fun _=>rfl)
   rw[set_same e2] at z
   have s2:Same H0 (upd H m (.lst vs')):=s.updF (h4 m (by have:=e1 m;have:=tot m;omega))
   refine SR.of_le (p:=p) (q:=q) (p':=fun b=>((if b=l then 1 else 0)+(((if b=m then 1 else 0)+p' b)+pb b))+p2 b) (q':=q2) s2 h3 h4 (fun b=>?_) z (rs.monoS m0 hS fun b o y=>k0 b o (by have:=eq b;omega))
   have:=l1 b;have:=em b;have:=tot b;have:=e1 b;have:=eq b
   show ((if b=l then 1 else 0)+(((if b=m then 1 else 0)+p' b)+pb b))+p2 b+q2 b≤p b+q b
   omega
end
section
variable{K:W.Frag}{E:FK}{X:Exc→Sl→Prop}{ρ:Sl}{Q:TV→Prop}{DV:VEnds}{ta tb te ti tj:TE}{i j:Int}{n:Nat}{r r':R2}{t u:TS}{a b:TV}
noncomputable def Pu(K:W.Frag)(t:TE)(ρ:Sl)(Q:Int→Prop):Prop:=∀ (H0:Hp) (σ:St) (ts:List V) (as:List TV) (H:Hp) (QV:VK),SR K H0 σ ρ ts as H→(∀ i,Q i→QV (.int i) H)→t σ H QV
theorem pu_int{P:Int→Prop}(q:P i):Pu K (tC (.int i)) ρ P:=fun H0 σ ts as H QV s k=>k i q
theorem sv_set2{xs:List AV}(hi:ρ[n]?=some (some (.own xs)))(h:Ev K E X te ρ fun a=>Ev K E X ti ρ fun b=>∃ k j ys,b=.av (.d (.int k))∧ixN xs.length k=some j∧xs[j]?=some (.own ys)∧Pu K tj ρ fun m=>∃ a' z,a.sto=some a'∧ixN ys.length m=some z∧DV.nx (ρ.set n (some (.own (xs.set j (.own (ys.set z a'))))))) :
  Sv K E X (tAsg te (gSub (tOp (rOr (rIxL K) r') (tVar n) ti) tj rSetA)) ρ DV:=fun H0 σ ts as H D st s x f=>by
 refine h H0 σ ts as H _ s x fun a h2 v H1 s1=>?_
 obtain⟨l,vs,e1,e2,e3,_⟩:=(s.push (x:=.none) fun _=>.non).write (xs':=xs) st hi
 refine⟨.ref l,e1,h2 H0 σ _ _ H1 _ s1 x fun b ⟨k,j,ys,eb,hj,hy,h3⟩ w H2 s2=>.inl ?_⟩
 subst eb
 have ew:=s2.top_d.int_inv
 subst ew
 obtain⟨l',m',us,vs1,g1,g2,g3,g4,g5,g6,_⟩:=SR.write2 (v:=.non) (c:=.d .none) (ys':=ys) ((s2.pop.pop).push (x:=.none) fun _=>.non) st hi hy
 rw[e1] at g1
 cases g1
 refine⟨l,us,k,.ref m',rfl,rfl,SqL.of g2,?_,h3 H0 σ _ _ H2 _ s2.pop fun m ⟨a',z,ea,hz,q⟩=>?_⟩
 ·unfold L2.atI
  rw[g3,hj]
  exact g4
 ·obtain⟨l2,m2,us2,vs2,k1,k2,k3,k4,k5,k6,k7⟩:=(s2.pop.sto ea).write2 (ys':=ys.set z a') st hi hy
  rw[e1] at k1
  cases k1
  rw[g2] at k2
  cases k2
  rw[g4] at k4
  cases k4
  exact .inl ⟨m',vs2,m,z,rfl,rfl,k5,by rw[k6];exact hz,f.nx _ q _ _ (k7 _ fun G H p q r1 r2=>RAs.set r2 z r1)⟩
theorem cat_T{ds es:List PyData}(ha:a.data=.tuple ds)(hb:b.data=.tuple es)(ka:Kp a ds)(kb:Kp b es)(hz:ds.length+es.length≤1000000)(q:Q (.av (.d (.tuple (ds++es)))))(na:NR a:=by first|exact NR.av|exact NR.bor)(nb:NR b:=by first|exact NR.av|exact NR.bor):Op K E X (rPlus K) a b Q:=fun H0 σ ρ ts as H x y QV s _ k=>by
 have kd:∀ {c:TV} {es:List PyData},NR c→c.data=.tuple es→Kp c es→∀ {z:V} {ts:List V} {as:List TV},SR K H0 σ ρ (z::ts) (c::as) H→SR K H0 σ ρ (z::ts) (.av (.d (.tuple es))::as) H:=fun {c es} nc hc kc {z ts as} s=>by
  rcases kc with e|e
  ·rw[hc] at e;rw[e] at s;exact s
  ·have hx:noLst (.tuple es)=true:=by simpa [noLst] using e
   exact s.pop.pushF hx (hc▸s.top nc)
 obtain⟨ys,⟨l2,e2,h2⟩,hl2,s2⟩:=s.items kb (fun ys=>∃ l,y=.ref l∧SqT K H l ys) (fun G rp sm=>by
  rw[hb] at rp
  obtain⟨l,xs,e,h3,h4⟩:=rp.tuple_inv
  exact⟨xs,⟨l,e,sm.tupS h3⟩,h4⟩) nb
 have s3:SR K H0 σ ρ (x::(ys++ts)) (a::((es.map AV.d).map TV.av++as)) H:=SR.rot (by rw[List.length_map,List.length_map,hl2]) s2
 obtain⟨xs,⟨l1,e1,h1⟩,hl1,s4⟩:=s3.items ka (fun ys=>∃ l,x=.ref l∧SqT K H l ys) (fun G rp sm=>by
  rw[ha] at rp
  obtain⟨l,xs,e,h3,h4⟩:=rp.tuple_inv
  exact⟨xs,⟨l,e,sm.tupS h3⟩,h4⟩) na
 by_cases hx:xs=[]
 ·subst hx
  have:ds=[]:=List.length_eq_zero_iff.mp (by rw[← hl1];rfl)
  subst this
  refine .inr (.inr (.inr (.inr ⟨l1,l2,ys,e1,e2,h1,h2,?_⟩)))
  have z:=kd nb hb kb s
  have z2:=z.swap.pop
  rw[e2] at z2
  exact k _ q _ _ z2
 ·refine .inr (.inr (.inl ⟨l1,l2,xs,ys,e1,e2,h1,h2,hx,Nat.le_of_lt (small6 (by omega)),fun ey=>?_,fun _ p hp=>k _ q _ _ ?_⟩))
  ·subst ey
   have:es=[]:=List.length_eq_zero_iff.mp (by rw[← hl2];rfl)
   subst this
   rw[List.append_nil] at q
   have z:=kd na ha ka s.pop
   rw[e1] at z
   exact k _ q _ _ z
  ·have s5:SR K H0 σ ρ ((xs++ys)++ts) (((ds++es).map AV.d).map TV.av++as) H:=by
    rw[List.append_assoc,List.map_append,List.map_append,List.append_assoc]
    exact s4
   have:=SR.newT s5 (by rw[List.length_append,List.length_map,List.length_append,hl1,hl2]) hp
   rw[datas_d] at this
   exact this
end
end VL
end
section
namespace VL
open PySem PySem.Spec L2
variable[Tabs]
section
variable{α:Type}[DecidableEq α]
end
section
variable{K:W.Frag}{H:Hp}{α κ:Type}[DecidableEq α][DecidableEq κ]{g:α→κ}{en:κ→PyData}
end
section
variable{K:W.Frag}{G G' H H' H0:Hp}{σ:St}{ρ:Sl}{ts:List V}{as:List TV}{v x y:V}{a b:TV}
end
section
variable{K:W.Frag}{E:FK}{X:Exc→Sl→Prop}{ρ:Sl}{Q:TV→Prop}{DV:VEnds}{ta tb te ti tj:TE}{i j:Int}{n:Nat}{r r':R2}{t u:TS}{a b:TV}
end
end VL
end
section
namespace VL
open PySem PySem.Spec PyProof.Rows L2
variable[Tabs]
noncomputable def Z0:Fp:=fun _=>0
noncomputable def spR(K:W.Frag)(Pre:List AV→Prop)(Post:List AV→AV→Prop)(PX:List AV→Exc→Prop):Sp:=fun vs H Q E=>TabsIn H ∧
 ∃ as,RAs K H H vs as Z0∧Pre as∧(∀ c,Post as c→∀ v H',Rs K H H' v c→Q v H')∧∀ e,PX as e→∀ c d H',Same H H'→XRep K H' e c d→E c d H'
noncomputable def NP:List AV→Exc→Prop:=fun _ _=>False
noncomputable abbrev inA(N:List Str)(as:List AV):Sl:=as.map some++List.replicate (N.length-as.length) none
noncomputable abbrev finR(Post:AV→Prop):VEnds:=⟨fun _=>Post (.d .none),fun a=>∃ c,Res a c∧Post c,fun _=>False,fun _=>False⟩
section
variable{K:W.Frag}{H H0:Hp}{σ:L2.St}{ρ:Sl}{ts:List V}{as:List TV}
theorem SR.startA{N:List Str}{vs:List V}{cs:List AV}(h:RAs K H H vs cs Z0):SR K H (L2.start N vs) (inA N cs) [] [] H:=by
 have hl:=h.len
 have hid0:hid H (fun _=>0) (fun _=>0)=H:=by funext b;simp[hid]
 refine⟨⟨fun _=>0,fun _=>0,?_,.nil fun _=>rfl,fun _=>by simp,fun b z=>by simp at z⟩,.refl H⟩
 rw[hid0]
 unfold L2.start inA
 rw[hl]
 clear hl
 generalize N.length-cs.length=m
 have gen:∀ {vs:List V} {cs:List AV} {p:Fp},RAs K H H vs cs p→(∀ b,p b=0)→RSl K H H (vs.map some++List.replicate m none) (cs.map some++List.replicate m none) fun _=>0:=by
  intro vs cs
  induction vs generalizing cs with
  | nil =>
   intro p r _
   cases r
   simp only[List.map_nil,List.nil_append]
   clear h
   induction m with
   | zero=>exact .nil fun _=>rfl
   | succ m ih=>exact .no ih
  | cons v vs ih =>
   intro p r z
   cases r with
   | @cons _ _ _ _ p1 q1 _ r rs e =>
    have z1:∀ b,p1 b=0:=fun b=>by have:=e b;have:=z b;omega
    have z2:∀ b,q1 b=0:=fun b=>by have:=e b;have:=z b;omega
    exact .so r (ih rs z2) fun b=>by simp[z1 b]
 exact gen h fun _=>rfl
theorem bodyR{t:TS}{N:List Str}{Pre:List AV→Prop}{Post:List AV→AV→Prop}{PX:List AV→Exc→Prop}{vs:List V}{Qv:VK}{E:XK}(sp:spR K Pre Post PX vs H Qv E)
  (h:∀ cs,Pre cs→Sv K (toF E) (fun e _=>PX cs e) t (inA N cs) (finR (Post cs))):t { nx:=fun _ H'=>Qv .non H',rt:=Qv } (L2.start N vs) H:=by
 obtain⟨tb,cs,rp,pre,q,qx⟩:=sp
 refine h cs pre H _ [] [] H _ Stb.nil (SR.startA rp) ⟨fun e ρ z c d σ H' s xr=>qx e z c d H' s.same xr,tb⟩ ⟨fun ρ z σ' H' s'=>?_,fun _ z=>z.elim,fun _ z=>z.elim,fun a ⟨c,r,z⟩ v σ' ρ' H' s'=>?_⟩
 ·exact q _ z _ _ (SR.rs (v:=.non) (s'.push fun _=>.non))
 ·rcases r with rfl|⟨nr,rfl⟩
  ·exact q _ z _ _ s'.rs
  ·refine q _ z _ _ ⟨s'.same,fun _=>0,fun _=>by simp,fun b z=>by simp at z,.d ?_ fun _=>rfl⟩
   have hid0:hid H' (fun _=>0) (fun _=>0)=H':=by funext b;simp[hid]
   rw[hid0]
   exact s'.top nr
inductive Sh:TV→AV→Prop
 | d {b:TV} {x:PyData}:NR b→b.data=x→Sh b (.d x)
 | o {φ:V→Hp→Prop}:Sh (.av (.obj φ)) (.obj φ)
inductive Shs:List TV→List AV→Prop
 | nil:Shs [] []
 | cons {b:TV} {c:AV} {bs:List TV} {cs:List AV}:Sh b c→Shs bs cs→Shs (b::bs) (c::cs)
theorem SR.lent:∀ {vs:List V} {bs:List TV} {cs:List AV},Shs bs cs→vs.length=bs.length→SR K H0 σ ρ (vs++ts) (bs++as) H→RAs K H H vs cs Z0∧SR K H0 σ ρ ts as H
 | [],_,_,.nil,_,s=>⟨.nil fun _=>rfl,s⟩
 | [],_,_,.cons _ _,e,_=>by simp at e
 | v::vs,_,_,.nil,e,_=>by simp at e
 | v::vs,b::bs,c::cs,.cons h t,e,s=>by
  have s':SR K H0 σ ρ (v::(vs++ts)) (b::(bs++as)) H:=s
  obtain⟨r,s2⟩:=SR.lent t (by simpa using e) s'.pop
  refine⟨.cons (p:=Z0) (q:=Z0) ?_ r fun _=>rfl,s2⟩
  cases h with
  | d nr ed=>exact .d (ed▸s'.top nr) fun _=>rfl
  | o =>
   obtain⟨⟨p,q,h1,h2,h3,h4⟩,sm⟩:=s'
   cases h2 with
   | cons r rs e=>cases r with
    | av r=>cases r with
     | obj h m z=>exact .obj (m _ _ hid_le h) m fun _=>rfl
end
section
variable{P:Program}{w:World}{K:W.Frag}{mg:Str→Option Value}{base:Heap}{CX:CXT}{x qual:Str}{st:Stmt}{N ps:List Str}{dvss:List (List V)}{k:Nat}{Pre:List AV→Prop}{Post:List AV→AV→Prop}{PX:List AV→Exc→Prop}
theorem spR_len{vs:List V}{H:Hp}{Q:VK}{E:XK}{n:Nat}(h:spR K Pre Post PX vs H Q E)(hS:∀ cs,Pre cs→cs.length=n):vs.length=n:=by
 obtain⟨_,cs,r,pre,_⟩:=h
 rw[r.len];exact hS cs pre
theorem valR(T:Tx K mg x st ps dvss)(Sc:FnScope N ps (defScope st))(hS:∀ cs,Pre cs→cs.length=ps.length)
  (hbody:∀ (f:Addr) (cdv:Value) (A:Around) (outer:List Env) (s:Shared) (H:Hp) (E:XK),Room k (A.deeper (envOfC x (defScope st) s.heap.objs.size f cdv)) →
   ∃ t,PSs (cxOf CX P w K mg base N x (defScope st) f cdv A outer s H E).nox (defBody st) t∧∀ cs,Pre cs→Sv K (toF E) NE t (inA N cs) (finR (Post cs))) :
  ∀ dvs∈dvss,Cal P w K mg base CX (k+1) x ps dvs (spR K Pre Post NP) :=
 T.cal (k:=k) Sc (fun vs H Q E h=>spR_len h hS) fun f cdv A outer s H vs Q E hr h =>
  let ⟨t,h1,h2⟩:=hbody f cdv A outer s H E hr
  ⟨t,h1,bodyR h fun cs pre=>h2 cs pre⟩
theorem valRX(T:Tx K mg x st ps dvss)(Sc:FnScope N ps (defScope st))(hS:∀ cs,Pre cs→cs.length=ps.length)
  (hbody:∀ (f:Addr) (cdv:Value) (A:Around) (outer:List Env) (s:Shared) (H:Hp) (E:XK),Room k (A.deeper (envOfC x (defScope st) s.heap.objs.size f cdv)) →
   ∃ t,PSs ((cxOf (CXE P w) P w K mg base N x (defScope st) f cdv A outer s H E).wish (XE (cxOf (CXE P w) P w K mg base N x (defScope st) f cdv A outer s H E) (toF E))) (defBody st) t∧∀ cs,Pre cs→Sv K (toF E) (fun e _=>PX cs e) t (inA N cs) (finR (Post cs))) :
  ∀ dvs∈dvss,Cal P w K mg base (CXE P w) (k+1) x ps dvs (spR K Pre Post PX) :=
 T.calX (k:=k) Sc (fun vs H Q E h=>spR_len h hS) fun f cdv A outer s H vs Q E hr h =>
  let ⟨t,h1,h2⟩:=hbody f cdv A outer s H E hr
  ⟨t,h1,bodyR h fun cs pre=>h2 cs pre⟩
end
section
variable{K:W.Frag}{E:FK}{X:Exc→Sl→Prop}{ρ:Sl}{Q:TV→Prop}{DV:VEnds}{a:TV}{Pre:List AV→Prop}{Post:List AV→AV→Prop}{PX:List AV→Exc→Prop}
noncomputable def ClR(Pre:List AV→Prop)(Post:List AV→AV→Prop)(PX:List AV→Exc→Prop)(dds:List AV)(Q:TV→Prop)(X:Exc→Prop)(bs:List TV):Prop :=
 ∃ cs,Shs bs cs∧Pre (cs++dds)∧(∀ c,Post (cs++dds) c→∃ a,Got c a∧Q a)∧∀ e,PX (cs++dds) e→X e
theorem RAs.app{H:Hp}:∀ {vs ws:List V} {xs ys:List AV},RAs K H H vs xs Z0→RAs K H H ws ys Z0→RAs K H H (vs++ws) (xs++ys) Z0:=by
 intro vs ws xs ys h g
 have gen:∀ {vs:List V} {xs:List AV} {p:Fp},RAs K H H vs xs p→(∀ b,p b=0)→RAs K H H (vs++ws) (xs++ys) Z0:=by
  intro vs
  induction vs with
  | nil=>intro xs p r _;cases r;exact g
  | cons v vs ih =>
   intro xs p r z
   cases r with
   | @cons _ _ _ _ p1 q1 _ r rs e =>
    have z1:∀ b,p1 b=0:=fun b=>by have:=e b;have:=z b;omega
    have z2:∀ b,q1 b=0:=fun b=>by have:=e b;have:=z b;omega
    exact .cons r (ih rs z2) fun b=>by simp[Z0,z1 b]
 exact gen h fun _=>rfl
theorem dv_nil{H:Hp}:RAs K H H [] [] Z0:=.nil fun _=>rfl
theorem ev_rN{dvs:List V}{dds:List AV}{A:TA}{E':XK}(hd:∀ H,RAs K H H dvs dds Z0)(h:Ea K E X A ρ (ClR Pre Post NP dds Q fun _=>True)):Ev K E X (tCall (spR K Pre Post NP) dvs E' A) ρ Q:=fun H0 σ ts as H QV s x k =>
 h H0 σ ts as H _ s x fun bs ⟨cs,sh,pre,q,_⟩ vs H' s' hl=>by
  obtain⟨rp,s2⟩:=SR.lent sh hl s'
  exact⟨x.t.same s2.same,cs++dds,rp.app (hd H'),pre,fun c hc v H2 r=>let ⟨a,g,z⟩:=q c hc;k a z v H2 (s2.gotG r g),fun e z=>z.elim⟩
theorem ev_r0{A:TA}{E':XK}(h:Ea K E X A ρ (ClR Pre Post NP [] Q fun _=>True)):Ev K E X (tCall (spR K Pre Post NP) [] E' A) ρ Q:=ev_rN (fun _=>dv_nil) h
theorem ev_rXN{dvs:List V}{dds:List AV}{A:TA}(hd:∀ H,RAs K H H dvs dds Z0)(h:Ea K E X A ρ (ClR Pre Post PX dds Q fun e=>X e ρ)):Ev K E X (tCallX (spR K Pre Post PX) dvs E A) ρ Q:=fun H0 σ ts as H QV s x k =>
 h H0 σ ts as H _ s x fun bs ⟨cs,sh,pre,q,qx⟩ vs H' s' hl=>by
  obtain⟨rp,s2⟩:=SR.lent sh hl s'
  exact⟨x.t.same s2.same,cs++dds,rp.app (hd H'),pre,fun c hc v H2 r=>let ⟨a,g,z⟩:=q c hc;k a z v H2 (s2.gotG r g),fun e z c d H2 sm xr=>x.x e ρ (qx e z) c d σ H2 (s2.ext sm).pops xr⟩
theorem ev_rx0{A:TA}(h:Ea K E X A ρ (ClR Pre Post PX [] Q fun e=>X e ρ)):Ev K E X (tCallX (spR K Pre Post PX) [] E A) ρ Q:=ev_rXN (fun _=>dv_nil) h
end
end VL
end
section
namespace VL
open PySem PySem.Spec L2
variable[Tabs]
section
variable{K:W.Frag}{E:FK}{X:Exc→Sl→Prop}{Q:TV→Prop}{nx bk ct:Sl→Prop}{rt:TV→Prop}{ta tb te ti tj:TE}{x:PyData}{r:Sl}{a:AV}{n:Nat}{ρ:Sl}{r':R2}
theorem sv_ss4{s0 s1 s2 s3:Option AV}{xs:List AV}(h:Ev K E X te (s0::s1::s2::s3::some (.own xs)::r) fun a=>Ev K E X ti (s0::s1::s2::s3::some (.own xs)::r) fun b=>∃ k j ys,b=.av (.d (.int k))∧ixN xs.length k=some j∧xs[j]?=some (.own ys)∧Pu K tj (s0::s1::s2::s3::some (.own xs)::r) fun m=>∃ a' z,a.sto=some a'∧ixN ys.length m=some z∧nx (s0::s1::s2::s3::some (.own (xs.set j (.own (ys.set z a'))))::r)):Sv K E X (tAsg te (gSub (tOp (rOr (rIxL K) r') (tVar 4) ti) tj rSetA)) (s0::s1::s2::s3::some (.own xs)::r) ⟨nx,rt,bk,ct⟩:=sv_set2 (n:=4) rfl h
end
end VL
end
section
namespace L2
section
variable{α β:Type}[DecidableEq α]
end
end L2
namespace VL
open PySem PySem.Spec L2
variable[Tabs]
section
variable{K:W.Frag}{ρ:Sl}{P:Sl→Prop}{g1 g2 g3:TG}{x y z:PyData}
theorem gv_tup2(h:Gv K g1 x ρ fun ρ'=>Gv K g2 y ρ' P):Gv K (gTup K 2 (gCons g1 (gCons g2 gNil))) (.tuple [x,y]) ρ P:=fun H0 σ ts as H v Qg s k=>by
 obtain⟨xs,⟨l,e,h1⟩,h2,s'⟩:=s.items (es:=[x,y]) Kp.d (fun xs=>∃ l,v=.ref l∧SqT K H l xs) (fun G rp sm=>by
  obtain⟨l,xs,e,h3,h4⟩:=Rep.tuple_inv (ds:=[x,y]) rp
  exact⟨xs,⟨l,e,sm.tupS h3⟩,h4⟩) NR.av
 obtain⟨a,b,rfl⟩:=len2 h2
 refine⟨l,[a,b],e,h1,rfl,a,[b],rfl,h H0 σ (b::ts) (.av (.d y)::as) H a _ s' fun ρ' hg σ' H' s2=>?_⟩
 exact⟨b,[],rfl,hg H0 σ' ts as H' b _ s2 fun ρ2 p σ2 H2 s3=>⟨rfl,k ρ2 p σ2 H2 s3⟩⟩
end
section
variable{K:W.Frag}{E:FK}{X:Exc→Sl→Prop}{ρ:Sl}{nx bk ct:Sl→Prop}{rt:TV→Prop}{c:TT}{t u:TS}
end
end VL
end
section
namespace VL
open PySem PySem.Spec L2
variable[Tabs]
section
variable{K:W.Frag}{E:FK}{X:Exc→Sl→Prop}{ρ:Sl}{Q:TV→Prop}{te:TE}
theorem ev_compR{cap:List (Option Nat)}{wi:TI}{g:TG}{tt:TT}(h:Iv K E X wi ρ fun n f _=>n≤1000000∧∃ I:Nat→List AV→Prop,I 0 []∧(∀ i ys,i<n→I i ys→Gv K g (f i) (capV cap ρ) fun ρ'=>Wk ρ' (capV cap ρ)∧Tv K E NE tt ρ' fun b=>if b=true then Ev K E NE te ρ' fun a=>∃ c,a.sto=some c∧I (i+1) (ys++[c]) else I (i+1) ys) ∧
  ∀ ys,I n ys→∃ a,Got (.own ys) a∧Q a):Ev K E X (tComp cap wi g tt te) ρ Q:=fun H0 σ ts as H QV s x k =>
 h H0 σ ts as H _ s x fun n f hd ⟨hn,I,i0,turn,fin⟩ u J H1 nr s1 ok D hD=>by
  have xo:XOk K E NE H1:=XOk.ne (x.t.same s1.same)
  have sD:Same H1 (upd H1 D (.lst [])):=same_new hD
  have st:Stb [TV.av (.d hd.data)]:=Stb.cons Stb.nil
  have start:SR K H1 (capS cap σ) (capV cap ρ) [.ref D,u] [.av (.own []),.av (.d hd.data)] (upd H1 D (.lst [])):=by
   have m:Same H1 (hid (upd H1 D (.lst [])) (fun _=>0) fun b=>if b=D then 1 else 0):=fun b o e=>by
    have hb:b≠D:=ne_of_none e hD
    unfold hid
    simp[hb]
    rw[upd_ne hb]
    exact e
   refine⟨⟨fun _=>0,fun b=>if b=D then 1 else 0,RSl.cap s1 m cap,.cons (.av (.own upd_same (.nil (p:=fun _=>0) fun _=>rfl) (q:=fun b=>if b=D then 1 else 0) fun b=>by simp)) (.cons (.av (.d (p:=fun _=>0) ((s1.top nr).same m) fun _=>rfl)) (.nil (p:=fun _=>0) fun _=>rfl) (r:=fun _=>0) fun b=>by simp) (fun b=>by simp),fun b=>by simp;split<;>omega,fun b z=>?_⟩,sD⟩
   by_cases hb:b=D
   ·rw[hb];exact hD
   ·simp[hb] at z
  refine⟨fun i m σ' H'=>m=n-i∧i≤n∧∃ ys,I i ys∧ys.length≤i∧SR K H1 σ' (capV cap ρ) [.ref D,u] [.av (.own ys),.av (.d hd.data)] H',⟨n,by simp,Nat.zero_le _,[],i0,Nat.le_refl _,start⟩,?_⟩
  rintro i m σ2 H2 ⟨rfl,hi,ys,iy,hly,s2⟩
  by_cases hlt:i<n
  ·obtain⟨g1,g2⟩:=s2.swap.turn ok hlt
   refine .inr ⟨g1,fun σ' H'=>∃ ys,I (i+1) ys∧ys.length≤i+1∧SR K H1 σ' (capV cap ρ) [.ref D,u] [.av (.own ys),.av (.d hd.data)] H',fun σ' H' p=>⟨n-(i+1),by omega,rfl,hlt,p⟩,fun w H3 hw=>?_⟩
   have s3:=g2 w H3 hw
   refine turn i ys hlt iy H1 σ2 _ _ H3 w _ s3 fun ρ4 ⟨wk,tv⟩ σ4 H4 s4=>?_
   refine tv H1 σ4 _ _ H4 _ s4 xo fun b qb H5 s5=>?_
   cases b with
   | true =>
    rw[if_pos rfl] at qb ⊢
    refine qb H1 σ4 _ _ H5 _ s5 xo fun a ⟨c,e2,e1⟩ z H6 s6=>?_
    have s7:=(s6.sto e2)
    have s8:SR K H1 σ4 ρ4 [z,.ref D,u] [.av c,.av (.own ys),.av (.d hd.data)] H6:=by
     obtain⟨⟨p,q,k1,k2,k3,k4⟩,e⟩:=s7
     refine⟨⟨p,q,k1,?_,k3,k4⟩,e⟩
     cases k2 with
     | cons r rs eq=>exact .cons r rs.swap eq
    obtain⟨vs,h1,h2,h3⟩:=s8.snocT st
    refine⟨vs,h1,small6 ?_,ys++[c],e1,by rw[List.length_append];simp;omega,wk _ _ _ _ _ _ h3⟩
    rw[h2]
    omega
   | false =>
    rw[if_neg Bool.false_ne_true] at qb ⊢
    exact⟨ys,qb,by omega,wk _ _ _ _ _ _ s5.swap⟩
  ·have e:i=n:=by omega
   subst e
   obtain⟨a,hg,q⟩:=fin ys iy
   exact .inl ⟨s2.swap.halt NR.av rfl ok (Nat.le_refl _),k _ q _ _ (s1.pop.gotG s2.rs hg)⟩
theorem compR_R{cap:List (Option Nat)}{A:TA}{g:TG}{tt:TT}(h:Ea K E X A ρ fun bs=>∃ (j:Int) (I:Nat→List AV→Prop),bs=[.av (.d (.int j))]∧(-(2 ^ 62)≤j∧j≤1000000)∧I 0 [] ∧
  (∀ (i:Nat) ys,i<j.toNat→I i ys→Gv K g (.int i) (capV cap ρ) fun ρ'=>Wk ρ' (capV cap ρ)∧Tv K E NE tt ρ' fun b=>if b=true then Ev K E NE te ρ' fun a=>∃ c,a.sto=some c∧I (i+1) (ys++[c]) else I (i+1) ys) ∧
  ∀ ys,I j.toNat ys→∃ a,Got (.own ys) a∧Q a):Ev K E X (tComp cap (iRng1 A) g tt te) ρ Q :=
 ev_compR (iv_rng1 fun H0 σ ts as H QV s x k=>h H0 σ ts as H QV s x (fun bs hh=>by
  obtain⟨j,I,e,hj,i0,turn,fin⟩:=hh
  exact k bs ⟨j,e,⟨hj.1,by omega⟩,by omega,I,i0,fun i ys hi iy H0 σ ts as H v Qg s k=>by
  have s:SR K H0 σ (capV cap ρ) (v::ts) (.av (.d (.int (0+(i:Int))))::as) H:=s
  rw[Int.zero_add] at s
  exact turn i ys hi iy H0 σ ts as H v Qg s k,fin⟩))
theorem tv_allc{ρ:Sl}{B C:Prop}(h:B):Tv K E NE tAll ρ fun b=>if b=true then B else C:=tv_all (by rw[if_pos rfl];exact h)
end
end VL
end
section
namespace VL
open PySem PySem.Spec L2
variable[Tabs]
section
variable{K:W.Frag}{E:FK}{X:Exc→Sl→Prop}{ρ:Sl}{Q:TV→Prop}{te:TE}
theorem it_enum{l:Addr}{ds:List PyData}:ItOk K (Ite K l) (.ref l) (.list ds) ds.length fun i=>.tuple [.int i,ds.getD i .none]:=by
 intro G H sm rp
 obtain⟨l',ys,e',h3,h4⟩:=rp.list_inv
 cases e'
 have h5:=sm.seq h3
 refine⟨fun i hi=>?_,fun i hi=>⟨ys,h5,by rw[h4.length];exact hi⟩⟩
 obtain⟨w,h6,h7⟩:=h4.get (i:=i) (d:=ds.getD i .none) (by rw[List.getD_eq_getElem?_getD,List.getElem?_eq_getElem hi];rfl)
 refine⟨⟨ys,w,h5,h6⟩,fun x H' ⟨p,x0,hp,e1,e2,e3⟩=>?_⟩
 subst e1 e2
 have:=e3 ys h5
 rw[h6] at this
 cases this
 exact⟨same_new hp,fun G' m k=>.tup (k p _ upd_same hp) (.cons (.int i) (.cons (h7.same m) .nil))⟩
theorem iv_enum{A:TA}{P:Nat→(Nat→PyData)→TV→Prop}(h:Ea K E X A ρ fun bs=>∃ a ds,bs=[a]∧a.data=.list ds∧NR a∧P ds.length (fun i=>.tuple [.int i,ds.getD i .none]) a.frz):Iv K E X (iEnum K A) ρ P:=fun H0 σ ts as H R s x k =>
 h H0 σ ts as H _ s x fun bs ⟨a,ds,eb,e,na,q⟩ vs H' s' hl=>by
  subst eb
  obtain⟨v,rfl,s'⟩:=one_of s' hl
  have rp:=s'.top na
  rw[e] at rp
  obtain⟨l,xs,rfl,h1,h2⟩:=rp.list_inv
  refine⟨l,rfl,⟨xs,h1⟩,k _ _ _ q (.ref l) _ H' (TV.frz_nr na) s'.frzV ?_⟩
  rw[TV.frz_data,e]
  exact it_enum
theorem for_E{α:Type}{nx bk ct:Sl→Prop}{rt:TV→Prop}{A:TA}{g:TG}{tb:TS}(h:Ea K E X A ρ fun bs=>∃ (a:TV) (xs:List α) (e:α→PyData),bs=[a]∧a.data=.list (xs.map e)∧(∃ c,a=.av c)∧∃ Iw:Nat→Sl→Prop,Iw 0 ρ∧(∀ i ρ' (hi:i<xs.length),Iw i ρ'→Gv K g (.tuple [.int i,e xs[i]]) ρ' fun ρ''=>Sv K E X tb ρ'' ⟨Iw (i+1),rt,nx,Iw (i+1)⟩)∧∀ ρ',Iw xs.length ρ'→nx ρ'):Sv K E X (tFor (iEnum K A) g tb) ρ ⟨nx,rt,bk,ct⟩ :=
 sv_for (iv_enum fun H0 σ ts as H QV s x k=>h H0 σ ts as H QV s x fun bs ⟨a,xs,e,eb,ha,⟨c,hc⟩,Iw,i0,turn,fin⟩=>k bs ⟨a,xs.map e,eb,ha,by subst hc;exact NR.av,⟨c.data,by rw[hc];rfl⟩,Iw,i0,fun i ρ' hi w=>by
  rw[List.length_map] at hi
  show Gv K g (.tuple [.int i,(xs.map e).getD i .none]) ρ' _
  rw[getD_map hi]
  exact turn i ρ' hi w,fun ρ' w=>fin ρ' (by rw[List.length_map] at w;exact w)⟩)
end
end VL
end
section
namespace L2
open PySem PySem.Spec PyProof.Rows
section
variable{prog:Program}{w:World}{A:Around}{s:Shared}{R:Result→Shared→Prop}{I:Addr}{fp wr:List Addr}{G:Array GenState→Array GenState→Prop}{n:Nat}{P:Nat→Value→Prop}{St:Nat→Shared→Prop}
end
end L2
end
section
namespace L2
open PySem PySem.Spec PyProof.Rows
section
variable{prog:Program}{w:World}{A:Around}{E:Value→Shared→Prop}{s:Shared}
theorem nextOf_tuple_item{it l:Addr}{i:Nat}{items:Array Value}{x:Value}{Q:Value→Shared→Prop}(hit:s.heap.IsTupleIter it l i)(hl:s.heap.IsTuple l items)(hx:items[i]?=some x)
  (hQ:∀ h',h'.IsTupleIter it l (i+1)→Heap.SameBut it s.heap h'→Q x { s with heap:=h' }):wpAny (model prog w) A (Builtin.SmallTypes.nextOf (.ref it)) Q E s:=by
 obtain⟨o,ho,hc,hd⟩:=id hit
 obtain⟨ol,hol,_,nl,hdl⟩:=hl
 unfold Builtin.SmallTypes.nextOf
 refine wpAny_bind (wpAny_callSpecial?_slot (name:=Str.ofString "__next__") hit.typeIs F.slot_tuple_iterator_next
  (wpAny_call_entry F.slot_tuple_iterator_next hit.typeIs F.entry_tuple_iterator_next ?_ (F.args_tuple_iterator_next_1 _)))
 show wpAny _ _ (field (.ref it) 0 >>= _) _ _ s
 refine wpAny_bind (wpAny_field ho hd (x:=.ref l) rfl ?_)
 show wpAny _ _ (if (Value.ref l == Value.none)=true then _ else _) _ _ s
 rw[if_neg (show ¬ ((Value.ref l == Value.none)=true) from Bool.false_ne_true)]
 show wpAny _ _ (field (.ref it) 1 >>= _) _ _ s
 refine wpAny_bind (wpAny_field ho hd (x:=.int i 0) rfl ?_)
 show wpAny _ _ (seqItems? (.ref l) >>= _) _ _ s
 refine wpAny_bind (wpAny_seqItems hol hdl ?_)
 simp only[Int.toNat_natCast,hx]
 refine wpAny_bind (wpAny_setField ho hd (by simp) (wpAny_pure ⟨x,rfl,wpAny_pure (hQ _ ?_ (Heap.SameBut.update ..))⟩))
 exact⟨_,Heap.get?_update_self _ ho (Obj.isFreed_of_fields (Obj.data_mapFields hd _)),(Obj.cls_mapFields ..).trans hc,by
  rw[Obj.data_mapFields hd];simp[rawInt]⟩
theorem nextOf_tuple_end{it l:Addr}{i:Nat}{items:Array Value}{Q:Value→Shared→Prop}(hh:A.handled=none)(hit:s.heap.IsTupleIter it l i)(hl:s.heap.IsTuple l items)(hx:items[i]?=none)
  (hE:∀ h' e,Heap.ExtBut it s.heap h'→(∃ o,h'.get? e=some o∧o.cls=.type "StopIteration")→E (.ref e) { s with heap:=h' }):wpAny (model prog w) A (Builtin.SmallTypes.nextOf (.ref it)) Q E s:=by
 obtain⟨o,ho,hc,hd⟩:=id hit
 obtain⟨ol,hol,_,nl,hdl⟩:=hl
 unfold Builtin.SmallTypes.nextOf
 refine wpAny_bind (wpAny_callSpecial?_slot (name:=Str.ofString "__next__") hit.typeIs F.slot_tuple_iterator_next
  (wpAny_call_entry F.slot_tuple_iterator_next hit.typeIs F.entry_tuple_iterator_next ?_ (F.args_tuple_iterator_next_1 _)))
 show wpAny _ _ (field (.ref it) 0 >>= _) _ _ s
 refine wpAny_bind (wpAny_field ho hd (x:=.ref l) rfl ?_)
 show wpAny _ _ (if (Value.ref l == Value.none)=true then _ else _) _ _ s
 rw[if_neg (show ¬ ((Value.ref l == Value.none)=true) from Bool.false_ne_true)]
 show wpAny _ _ (field (.ref it) 1 >>= _) _ _ s
 refine wpAny_bind (wpAny_field ho hd (x:=.int i 0) rfl ?_)
 show wpAny _ _ (seqItems? (.ref l) >>= _) _ _ s
 refine wpAny_bind (wpAny_seqItems hol hdl ?_)
 simp only[Int.toNat_natCast,hx]
 refine wpAny_bind (wpAny_rule (wpAny_bind (wpAny_setField ho hd (by simp) ?_)))
 show wpAny _ _ (newExc (.type "StopIteration") [] >>= _) _ _ _
 refine wpAny_bind ?_
 simp only[newExc,newTuple]
 refine wpAny_bind (wpAny_newObj_type ?_ (by size_fits))
 refine wpAny_bind (m:=firstArgMember _ _) (wpAny_of_eq (a:=Value.none) (by first|rfl|(simp only[firstArgMember];rfl)) ?_)
 refine wpAny_newObj_type ?_ (by size_fits)
 simp only[raiseNew]
 refine wpAny_bind (wpAny_handled ?_)
 first|rw[show A.in1.handled=none from hh]|rw[hh]
 refine wpAny_bind (wpAny_pure (wpAny_throw ?_))
 exact hE _ _ (((Heap.SameBut.update ..).extBut.push _).push _) ⟨_,Heap.get?_push_size _ rfl,rfl⟩
end
end L2
end
section
namespace L2
open PySem PySem.Spec PyProof.Rows
end L2
namespace VL
open PySem PySem.Spec L2
variable[Tabs]
section
variable{K:W.Frag}{E:FK}{X:Exc→Sl→Prop}{ρ:Sl}{Q:TV→Prop}{te:TE}
end
end VL
end
section
namespace L2
open PySem PySem.Spec PySem.Calls PyProof.Rows PySem.W
theorem attach_callB{l:OpenLaw}{n:Nat}{q:Program}{loose:List Str}{XP:(Str→Option Value)→Heap→Prop}{YP:World→Heap→Prop}{d:DefRec}
  (hn:l.most=some n) (hdf:d.params.defaults=[])
  (call:∀ (w:World) (s₀ s₁:Shared) (mg mb:Str→Option Value) (fa:Addr) (o:Obj) (pm cd doc:Value) (a:Addr) (vs:List Value) (ns:List Int),
   Ground q loose [] XP w s₀ mg mb s₁.heap→YP w s₁.heap →
   s₁.heap.get? fa=some o→o.data=.func (docDef d.name d.params d.body d.scope pm cd doc)→s₁.heap.CodeRec cd d.name→mg d.name=some (.ref fa) →
   s₁.heap.get? a=some { cls:=.type "list",data:=.seq vs.toArray }→IntsAre vs ns→ns.length≤n→s₁.gens=#[]→(∀ x∈ns,Builtin.Int.intBits x≤2 ^ 20) →
   codeAny (model l.prog w) callerA (.call (.ref fa) ⟨[.ref a],[]⟩) (fun r s'=>r=.ok (.ret (.bool true))∧OldK s₁.heap s'.heap∧s'.os=s₁.os∧AllBare s'.gens) s₁) :
  WalkO q loose XP YP l.row.toRowW d [] (fun f vs=>PySem.call f vs):=by
 intro w s₀ s₁ mg mb G Y fa o pm cd doc dV kV ho hd hcd hD hmg hg args vals as hpre hlay hrd hwl hlo
 obtain rfl:dV=.none:=Dflts.none hD hdf
 obtain rfl:kV=.none:=Dflts.noKw hD
 obtain⟨a,vs,ns,rfl,rfl,hobj,hints,hlen⟩:=Att.script_of hn hpre hwl
 refine enter_call (codeAny_mono (call w s₀ s₁ mg mb fa o pm cd doc a vs ns G Y ho (fd_plain hd) hcd hmg hobj hints hlen hg ?_) fun r s' hq=>?_)
 ·intro x hx
  have h1:=(layW_cons hlay).1
  have h2:=layableW_item h1 (.int x) (List.mem_map.mpr ⟨x,hx,rfl⟩)
  exact PyData.bits_of_layable (PyData.layable0_of (fun _=>rfl) (layable_int h2))
 obtain⟨rfl,h2,h3,h4⟩:=hq
 exact⟨.inl ⟨.bool true,.bool true,[],rfl,fun _=>rfl,.bool true,Att.post_true l _,fun _=>⟨List.Pairwise.nil,fun _ hm=>(nomatch hm)⟩⟩,h2,h3,h4⟩
end L2
namespace VL
open PySem PySem.Spec PyProof.Rows L2
variable[Tabs]
variable{P:Program}{w:World}{K:W.Frag}{mg:Str→Option Value}{base:Heap}{CX:CXT}{x qual:Str}{st:Stmt}{N ps:List Str}{k:Nat}
end VL
end
section
namespace L2
open PySem PySem.Spec PyProof.Rows
open Classical
section
variable{C:Addr→Prop}{P:Program}{w:World}{H H':Hp}{h h':Heap}{fs ex:List Addr}{b:Addr}
end
section
variable{X:Cx}{CX:CXT}{k:Nat}{sp:Sp}{E:XK}{x:Str}{p pos:Pos}{e:Expr}{es:List Expr}{t:TA}{i:Nat}
end
section
variable{X:Cx}{pins:List (Addr×Obj)}{σ:St}{H:Hp}{s:Shared}
end
section
variable{X:Cx}{CX:CXT}{k:Nat}{f:Addr}{fd:FuncData}{ps:List Str}{sp:Sp}{dvs:List V}{ds:List Value}{E:XK}{x:Str}{p pos:Pos}{e:Expr}{es:List Expr}{t:TA}
end
end L2
end
section
namespace L2
open PySem PySem.Spec PyProof.Rows
section
variable{X:Cx}{pins:List (Addr×Obj)}{σ:St}{H:Hp}{s:Shared}
end
end L2
end
section
namespace L2
open PySem PySem.Spec PyProof.Rows
section
variable{CX:CXT}{P:Program}{w:World}{K:W.Frag}{mg:Str→Option Value}{base:Heap}{N ps:List Str}{qual:Str}{scope:Scope}{cl:List (Str×Addr)}{f:Addr}{cd:Value}{A:Around}{outer:List Env}{s:Shared}{H:Hp}{E:XK}{σ:St}
end
end L2
end
section
namespace L2
open PySem PySem.Spec PyProof.Rows
end L2
namespace VL
open PySem PySem.Spec PyProof.Rows L2
variable[Tabs]
section
variable{K:W.Frag}{E:FK}{X:Exc→Sl→Prop}{ρ:Sl}{Q:TV→Prop}{nx bk ct:Sl→Prop}{rt:TV→Prop}
end
section
variable{K:W.Frag}{H0 H G:Hp}
end
section
variable{K:W.Frag}{G G' H H':Hp}
end
section
variable{Y:Cx}{CX:CXT}{k:Nat}{name qual:Str}{params:Arguments}{body:List Stmt}{scope:Scope}{Pt:Addr}{N ps:List Str}{cap:List (Option Nat)}{Pre:List AV→Prop}{Post:List AV→AV→Prop}{H0 H1 H2:Hp}{σ:L2.St}{ρ:Sl}{ts:List V}{as:List TV}{v:V}
end
end VL
end
section
namespace VL
open PySem PySem.Spec PyProof.Rows L2
variable[Tabs]
section
variable{K:W.Frag}{Y:Cx}{H0 H1 H2:Hp}{σ:L2.St}{ρ:Sl}{ts:List V}{as:List TV}
variable{E:FK}{X:Exc→Sl→Prop}{Q:TV→Prop}{Pre:List AV→Prop}{Post:List AV→AV→Prop}
end
section
variable{P:Program}{w:World}{K:W.Frag}{mg:Str→Option Value}{base:Heap}{CX:CXT}{x qual:Str}{st:Stmt}{N ps:List Str}{k:Nat}
noncomputable def sp_lawT(K:W.Frag):Sp:=fun vs H Q _=>TabsIn H∧∃ (a:Addr) (ns:List Int),vs=[.ref a]∧SqL K H a (ns.map V.int)∧ns.length≤63∧(∀ x∈ns,Builtin.Int.intBits x≤2 ^ 20)∧∀ H',Same H H'→Q (.bl true) H'
theorem val_lawT{f:Addr}{fd:FuncData}{dV:Value}(F:FunD K x qual st dV f fd)(Sc:FnScope N ps (defScope st))(hps:ps.length=1)
  (hbody:∀ (cdv:Value) (A:Around) (outer:List Env) (s:Shared) (H:Hp) (E:XK),Room k (A.deeper (envOfC qual (defScope st) s.heap.objs.size f cdv)) →
   ∃ t,PSs (cxOf CX P w K mg base N qual (defScope st) f cdv A outer s H E).nox (defBody st) t∧∀ ns:List Int,ns.length≤63→(∀ x∈ns,Builtin.Int.intBits x≤2 ^ 20)→Sv K (toF E) NE t (ini N [dI ns]) (fin (.d (.bool true)))) :
  FnOk P w K mg base CX (k+1) f fd ps (sp_lawT K):=by
 refine F.ok (k:=k) Sc (fun vs H Q E h=>?_) fun cdv A outer s H vs Q E hr h=>?_
 ·obtain⟨_,a,ns,rfl,_⟩:=h
  exact hps.symm
 ·obtain⟨tb,a,ns,rfl,hS,hl,hb,q⟩:=h
  obtain⟨t,h1,h2⟩:=hbody cdv A outer s H E hr
  refine⟨t,h1,val_body (E:=E) (S:=fun ds c=>∃ ns:List Int,ds=[dI ns]∧(ns.length≤63∧∀ x∈ns,Builtin.Int.intBits x≤2 ^ 20)∧c=.d (.bool true)) ⟨tb,[dI ns],.cons (.ints hS) .nil,.inl ⟨_,⟨ns,rfl,⟨hl,hb⟩,rfl⟩,fun v H' r=>?_⟩⟩ fun ds c hc=>?_⟩
  ·obtain⟨sm,p,_,_,ra⟩:=r
   cases ra with
   | d rp _=>rw[Rep.bl_inv rp];exact q _ sm
  ·obtain⟨ns,rfl,⟨hl,hb⟩,rfl⟩:=hc
   exact h2 ns hl hb
end
end VL
namespace L2
open PySem PySem.Spec PySem.Calls PyProof.Rows PySem.W
noncomputable def H00(ts:List (Addr×(Nat→Nat→Str)))(sc:Option (Addr×HO)):Hp:=fun b=>match ts.lookup b with
 | some q=>some (.tbq q)
 | none=>match sc with
  | some (a,o)=>if b=a then some o else none
  | none=>none
theorem lookup_of{ts:List (Addr×(Nat→Nat→Str))}(nd:(ts.map Prod.fst).Nodup){p:Addr×(Nat→Nat→Str)}(h:p∈ts):ts.lookup p.1=some p.2:=by
 induction ts with
 | nil=>cases h
 | cons q r ih =>
  rw[List.map_cons,List.nodup_cons] at nd
  rw[show (q::r)=((q.1,q.2)::r) from rfl,List.lookup_cons]
  rcases List.mem_cons.mp h with e|h
  ·subst e
   rw[beq_self_eq_true]
  ·have hne:p.1≠q.1:=fun z=>nd.1 (z▸List.mem_map_of_mem h)
   rw[beq_false_of_ne hne]
   exact ih nd.2 h
theorem mem_of_lk{ts:List (Addr×(Nat→Nat→Str))}{b:Addr}{q:Nat→Nat→Str}(h:ts.lookup b=some q):(b,q)∈ts:=by
 induction ts with
 | nil=>cases h
 | cons p r ih =>
  rw[show (p::r)=((p.1,p.2)::r) from rfl,List.lookup_cons] at h
  cases e:b == p.1 with
  | true =>
   rw[e] at h
   cases h
   rw[beq_iff_eq.mp e]
   exact .head _
  | false=>rw[e] at h;exact .tail _ (ih h)
theorem law_callT{P:Program}{w:World}{K:W.Frag}{mg mb:Str→Option Value}{CX:CXT}{k:Nat}{fa a:Addr}{fd:FuncData}{x:Str}{sp:Sp}{s₁:Shared}{vs:List Value}{ns:List Int}{ts:List (Addr×(Nat→Nat→Str))}
  (nd:(ts.map Prod.fst).Nodup) (KX:K.In s₁.heap) (hns:s₁.heap.Ns mainGlobals mg) (hb:s₁.heap.Ns builtinsNs mb) (hbb:∀ x:Str,x ≠ "__name__" → mb x=bootBuiltins x) (hlim:s₁.heap.NoLimit) (hg:s₁.gens=#[])
  (ha:s₁.heap.get? a=some { cls:=.type "list",data:=.seq vs.toArray }) (hi:IntsAre vs ns) (hl:ns.length≤sizeLine) (hr:Room k callerA)
  (hts:∀ p∈ts,s₁.heap.get? p.1=some (tabObj #[])∧K.lookup p.1=none∧isCodeTable s₁.heap p.1) (hbm:s₁.heap.BuiltinsAt mg mainGlobals)
  (F:∀ base:Heap,K.In base→base.Ns mainGlobals mg→base.BuiltinsAt mg mainGlobals→FnOk P w K mg base CX k fa fd [x] sp) (hbind:∀ (s:Shared) (u:Value),BindsTo s fd ⟨[u],[]⟩ [(x,u)])
  (hsp:∀ H:Hp,(∀ p∈ts,H p.1=some (.tbq p.2))→SqL K H a (ns.map V.int)→sp [.ref a] H (fun v H'=>v=.bl true∧Same H H') fun _ _ _=>False)
  (hCX:∀ H e s',CX [] H s₁ (fun _ _ _=>False) e s'→False) :
  codeAny (model P w) callerA (.call (.ref fa) ⟨[.ref a],[]⟩) (fun r s'=>r=.ok (.ret (.bool true))∧OldK s₁.heap s'.heap∧s'.os=s₁.os∧AllBare s'.gens) s₁:=by
 have rv:=vals_ints hi
 have lenV:=hi.length
 have core:∀ H:Hp,(∀ p∈ts,H p.1=some (.tbq p.2))→SqL K H a (ns.map V.int)→HOk P w H s₁.heap→(∀ b o,H b=some o→(∃ p∈ts,b=p.1)∨(b=a∧∃ ob u,o=.frz ob u))→(∀ b o,H b=some o→K.lookup b=none) →
   codeAny (model P w) callerA (.call (.ref fa) ⟨[.ref a],[]⟩) (fun r s'=>r=.ok (.ret (.bool true))∧OldK s₁.heap s'.heap∧s'.os=s₁.os∧AllBare s'.gens) s₁:=by
  intro H hT hS hok hA hK
  have noA:∀ {b:Addr} {o:Obj},s₁.heap.get? b=some o→(∀ vs n,o.data≠.seq vs n)→(∀ vs,o.data≠.fields vs)→H b=none:=fun {b o} e n1 n2=>by
   cases q:H b with
   | none=>rfl
   | some u =>
    rcases hA b u q with⟨p,hp,rfl⟩|⟨rfl,_⟩
    ·rw[(hts p hp).1] at e
     cases e
     exact absurd rfl (n2 _)
    ·rw[ha] at e
     cases e
     exact absurd rfl (n1 _ _)
  have nsK:∀ {b:Addr} {m:Str→Option Value},s₁.heap.Ns b m→(hidT s₁.heap H).Ns b m:=fun {b m} ⟨o,es,ep,e,d,r⟩ =>
   ⟨o,es,ep,hidT_get e (noA e (fun _ _ z=>by rw[d] at z;cases z) fun _ z=>by rw[d] at z;cases z),d,r⟩
  have hKb:K.In (hidT s₁.heap H):=fun b o e=>hidT_get (KX b o e) (by
   cases q:H b with
   | none=>rfl
   | some u=>rw[hK b u q] at e;cases e)
  have hM:Mod K mg (hidT s₁.heap H):=⟨hKb,nsK hns,⟨mb,nsK hb,hbb⟩,let ⟨mc,h1,h2⟩:=hlim;⟨mc,nsK h1,h2⟩⟩
  have hB:(hidT s₁.heap H).BuiltinsAt mg mainGlobals:=by
   obtain⟨bm,o,b1,b2,b3,b4,b5,b6,b7,b8⟩:=hbm
   exact⟨bm,o,b1,b2,b3,b4,hidT_get b5 (noA b5 (fun _ _ z=>by rw[b8] at z;cases z) fun _ z=>by rw[b8] at z;cases z),b6,b7,b8⟩
  have e0:Env0 P w K mg (hidT s₁.heap H) callerA [] s₁ H:=⟨rfl,hM,fun b o e=>of_hidT e,Nat.le_of_eq (hidT_size _ _),trivial,fun b hb=>absurd (show b∈([]:List Addr) from hb) (by simp),hok,.of_eq hg⟩
  refine codeAny_mono ((F _ hKb (nsK hns) hB).run callerA [] s₁ H ⟨[.ref a],[]⟩ [.ref a] [.ref a] _ _ hr e0 (hbind s₁ (.ref a)) (.cons rfl .nil) (hsp H hT hS)) fun r s' h=>?_
  cases r with
  | error e=>exact (hCX H e s' h).elim
  | ok fl =>
   cases fl with
   | next=>exact False.elim h
   | brk=>exact False.elim h
   | cont=>exact False.elim h
   | ret u =>
    obtain⟨v,H',os,bare,un,hok',r',q',sm⟩:=h
    subst q'
    obtain rfl:u=Value.bool true:=r'
    refine⟨rfl,⟨fun b o e=>?_,fun b o e=>un.there b o e (by simp)⟩,os,bare⟩
    cases q:H b with
    | none=>exact .inl (un.keep b o e q (by intro z;exact absurd (show b∈([]:List Addr) from z) (by simp)) (by simp))
    | some u =>
     rcases hA b u q with⟨p,hp,rfl⟩|⟨rfl,ob,y,rfl⟩
     ·obtain⟨e1,_,e3⟩:=hts p hp
      rw[e1] at e
      cases e
      obtain⟨ps,e4,_⟩:=hok' p.1 _ (sm _ _ (hT p hp))
      exact .inr (.inl ⟨e3,rfl,#[],ps,rfl,by rw[Array.empty_append];exact e4⟩)
     ·have e1:=(hok b _ q).1
      have e2:=(hok' b _ (sm _ _ q)).1
      rw[e] at e1
      cases e1
      exact .inl e2
 have naT:∀ p∈ts,p.1≠a:=fun p hp z=>by
  have:=(hts p hp).1
  rw[z,ha] at this
  cases this
 have lka:ts.lookup a=none:=by
  cases e:ts.lookup a with
  | none=>rfl
  | some q=>exact absurd rfl (naT _ (mem_of_lk e))
 have tbl:∀ {sc:Option (Addr×HO)} {b:Addr} {q:Nat→Nat→Str},ts.lookup b=some q→ObjOk P w (H00 ts sc) s₁.heap b (.tbq q):=fun {sc b q} e =>
  ⟨#[],(hts _ (mem_of_lk e)).1,trivial,fun pos cv z=>by simp[codeAmong] at z⟩
 have hT:∀ sc,∀ p∈ts,H00 ts sc p.1=some (.tbq p.2):=fun sc p hp=>by unfold H00;rw[lookup_of nd hp]
 cases hk:K.lookup a with
 | some o =>
  have e:=KX a o hk
  rw[ha] at e
  cases e
  refine core (H00 ts none) (hT none) (.inr ⟨_,vs.toArray,_,hk,rfl,rfl,rfl,by rw[List.size_toArray,lenV];exact hl,by simpa using rv⟩) (fun b u z=>?_) (fun b u z=>?_) fun b u z=>?_
  ·unfold H00 at z
   cases e:ts.lookup b with
   | none=>rw[e] at z;cases z
   | some q=>rw[e] at z;cases z;exact tbl e
  ·unfold H00 at z
   cases e:ts.lookup b with
   | none=>rw[e] at z;cases z
   | some q=>exact .inl ⟨_,mem_of_lk e,rfl⟩
  ·unfold H00 at z
   cases e:ts.lookup b with
   | none=>rw[e] at z;cases z
   | some q=>exact (hts _ (mem_of_lk e)).2.1
 | none =>
  have hsa:H00 ts (some (a,.frz { cls:=.type "list",data:=.seq vs.toArray } (.lst (ns.map V.int)))) a=some (.frz { cls:=.type "list",data:=.seq vs.toArray } (.lst (ns.map V.int))):=by
   unfold H00;rw[lka];exact if_pos rfl
  refine core (H00 ts (some (a,.frz { cls:=.type "list",data:=.seq vs.toArray } (.lst (ns.map V.int))))) (hT _) (.inl (.inr ⟨_,hsa⟩)) (fun b u z=>?_) (fun b u z=>?_) fun b u z=>?_
  ·by_cases hb:b=a
   ·subst hb
    rw[hsa] at z
    cases z
    exact⟨ha,by rw[List.length_map];exact hl,vs,_,rv,ha⟩
   ·unfold H00 at z
    cases e:ts.lookup b with
    | none=>rw[e] at z;have z':=(if_neg hb).symm.trans z;cases z'
    | some q=>rw[e] at z;cases z;exact tbl e
  ·by_cases hb:b=a
   ·subst hb
    rw[hsa] at z
    cases z
    exact .inr ⟨rfl,_,_,rfl⟩
   ·unfold H00 at z
    cases e:ts.lookup b with
    | none=>rw[e] at z;have z':=(if_neg hb).symm.trans z;cases z'
    | some q=>exact .inl ⟨_,mem_of_lk e,rfl⟩
  ·by_cases hb:b=a
   ·rw[hb];exact hk
   ·unfold H00 at z
    cases e:ts.lookup b with
    | none=>rw[e] at z;have z':=(if_neg hb).symm.trans z;cases z'
    | some q=>exact (hts _ (mem_of_lk e)).2.1
theorem walk_ofT{l:PySem.W.OpenLaw}{n k:Nat}{q:Program}{loose:List Str}{XP:(Str→Option Value)→Heap→Prop}{YP:World→Heap→Prop}{d:DefRec}{K:Params→W.Frag}{CX:World→CXT}{sp:World→Sp}{x:Str}{ts:List (Addr×(Nat→Nat→Str))}
  (nd:(ts.map Prod.fst).Nodup) (hn:l.most=some n) (hn2:n≤sizeLine) (hdf:d.params.defaults=[]) (hr:Room k callerA)
  (hY:∀ (w:World) (h:Heap),YP w h→(K w.params).In h) (hYt:∀ (w:World) (h:Heap),YP w h→∀ p∈ts,h.get? p.1=some (tabObj #[])) (hK:∀ (w:World) (p:Addr×(Nat→Nat→Str)),p∈ts→(K w.params).lookup p.1=none∧∃ c,codeHdIn (K w.params) c p.1=true)
  (F:∀ (w:World) (mg:Str→Option Value) (fa:Addr) (h:Heap),(K w.params).In h→h.Ns mainGlobals mg→mg d.name=some (.ref fa) →
   ∃ fd:FuncData,(∀ (s:Shared) (u:Value),BindsTo s fd ⟨[u],[]⟩ [(x,u)]) ∧
    ∀ base:Heap,(K w.params).In base→base.Ns mainGlobals mg→base.BuiltinsAt mg mainGlobals→FnOk l.prog w (K w.params) mg base (CX w) k fa fd [x] (sp w))
  (hsp:∀ (w:World) (H:Hp) (a:Addr) (ns:List Int),ns.length≤n→(∀ x∈ns,Builtin.Int.intBits x≤2 ^ 20)→(∀ p∈ts,H p.1=some (.tbq p.2))→SqL (K w.params) H a (ns.map V.int)→sp w [.ref a] H (fun v H'=>v=.bl true∧Same H H') fun _ _ _=>False)
  (hCX:∀ (w:World) (H:Hp) (s:Shared) (e:Value) (s':Shared),CX w [] H s (fun _ _ _=>False) e s'→False) :
  PySem.W.WalkO q loose XP YP l.row.toRowW d [] (fun f vs=>PySem.call f vs):=by
 refine attach_callB hn hdf fun w s₀ s₁ mg mb fa o pm cd doc a vs ns G Y ho hd hcd hmg hobj hints hlen hg hbits=>?_
 have KX:=hY w _ Y
 obtain⟨fd,hb,hF⟩:=F w mg fa _ KX G.T.g hmg
 have hbm:s₁.heap.BuiltinsAt mg mainGlobals:=by
  obtain⟨bm,ob,b1,b2,b3,b4,b5,b6⟩:=G.T.bmain
  have hne:bm≠mainGlobals:=fun z=>by
   obtain⟨o,es,ep,e,d,_⟩:=G.T.g
   rw[z,e] at b3
   cases b3
   rw[d] at b6
   cases b6
  exact⟨bm,ob,b1,b2,hne,hne,b3,b4,b5,b6⟩
 refine law_callT nd KX G.T.g G.T.b G.T.builtins G.T.nolimit hg hobj hints (Nat.le_trans hlen hn2) hr (fun p hp=>?_) hbm hF hb (fun H hT hS=>hsp w H a ns hlen hbits hT hS) fun H e s'=>hCX w H s₁ e s'
 obtain⟨h1,c,h2⟩:=hK w p hp
 have h3:=hYt w _ Y p hp
 exact⟨h3,h1,((codeHd_of_K KX h2).tab h3).isCodeTable⟩
end L2
end
section
namespace L2
open PySem PySem.Spec PyProof.Rows
section
variable{X:Cx}{pins:List (Addr×Obj)}{σ:St}{H:Hp}{s:Shared}{a:Addr}{y v:V}{u r:Value}{A:Around}{E:Value→Shared→Prop}
end
end L2
namespace VL
open PySem PySem.Spec PyProof.Rows L2
variable[Tabs]
section
variable{K:W.Frag}{E:FK}{X:Exc→Sl→Prop}{ρ:Sl}{Q:TV→Prop}{te:TE}{A:TA}
end
end VL
end
section
namespace L2
open PySem PySem.Spec PyProof.Rows
end L2
namespace VL
open PySem PySem.Spec PyProof.Rows L2
variable[Tabs]
end VL
end
section
namespace L2
open PySem PySem.Spec PyProof.Rows
end L2
namespace VL
open PySem PySem.Spec PyProof.Rows L2
variable[Tabs]
section
variable{P:Program}{w:World}{K:W.Frag}{mg:Str→Option Value}{base:Heap}{CX:CXT}{x:Str}{st:Stmt}{N ps:List Str}{dvss:List (List V)}{k:Nat}{Θ:Type}{Pre:Θ→List AV→Prop}{Post:Θ→List AV→AV→Prop}
end
section
variable{K:W.Frag}{E:FK}{X:Exc→Sl→Prop}{ρ:Sl}{Q:TV→Prop}{Θ:Type}{Pre:Θ→List AV→Prop}{Post:Θ→List AV→AV→Prop}
theorem ev_tupB{A:TA}(h:Ea K E X A ρ fun bs=>NRs bs∧bs.length≤1000∧Q (.bor (.tuple (bs.map TV.data)))):Ev K E X (tTup A) ρ Q:=fun H0 σ ts as H QV s x k =>
 h H0 σ ts as H _ s x fun bs ⟨nr,hz,q⟩ vs H2 s2 hl=>by
  obtain⟨rp,s3⟩:=SR.reps nr.all hl s2
  exact⟨Nat.le_of_lt (small1000 (by omega)),fun p hp=>k _ q _ _ ((s3.ext (same_new hp)).pushB (.tup upd_same (rp.same (same_new hp))))⟩
end
end VL
end
section
namespace VL
open PySem PySem.Spec L2
variable[Tabs]
section
variable{K:W.Frag}{G G' H H' H0:Hp}{σ:St}{ρ:Sl}{ts:List V}{as:List TV}{v x y:V}{a b:TV}
theorem SR.newTO{l:Addr}{vs:List V}{xs:List AV}(h:SR K H0 σ ρ (vs++ts) (xs.map TV.av++as) H)(e:vs.length=xs.length)(hl:H l=none):SR K H0 σ ρ (.ref l::ts) (.av (.tup xs)::as) (upd H l (.tup vs)):=by
 obtain⟨⟨p,q,h1,h2,h3,h4⟩,s⟩:=h
 have hL:=SR.lsts h1 h2
 obtain⟨p1,p2,e2,e3,e4⟩:=RTs.avs (xs:=xs) e h2
 have s2:Same H (upd H l (.tup vs)):=same_new hl
 have zl:p l+q l=0:=by
  rcases Nat.eq_zero_or_pos (p l+q l) with w|w
  ·exact w
  ·obtain⟨_,w,_⟩:=hL l w;rw[hl] at w;cases w
 have m:Same (hid H p q) (hid (upd H l (.tup vs)) p q):=same_hid s2
 refine⟨⟨p,q,h1.mono m (fun b o _=>s2 b o),.cons (.av (.tup ?_ (e3.mono m fun b o _=>s2 b o))) (e4.mono m s2) e2,h3,h4⟩,s.trans s2⟩
 unfold hid;rw[if_pos zl];exact upd_same
end
section
variable{K:W.Frag}{E:FK}{X:Exc→Sl→Prop}{ρ:Sl}{Q:TV→Prop}{DV:VEnds}{ta tb tc te ti tj:TE}{i j:Int}{n:Nat}{r r':R2}{t u:TS}{a b:TV}
theorem isnt_N(ha:a.data=.none)(q:Q (.av (.d (.bool false))))(na:NR a:=by first|exact NR.av|exact NR.bor):Op K E X (fun x y H Q=>y=.non∧Q (.bl (!decide (x=.non))) H) a (.av (.d .none)) Q:=fun H0 σ ρ ts as H x y QV s _ k=>by
 have r:=s.pop.top na
 have r2:=s.top_d
 rw[ha] at r
 cases r
 cases r2
 exact⟨rfl,k _ q _ _ (s.pop.pop.bl _)⟩
noncomputable def someD:PyData→Bool
 | .tuple _=>true
 | .list _=>true
 | .int _=>true
 | .str _=>true
 | _=>false
theorem someD_ne{H:Hp}{v:V}{x:PyData}(hx:someD x=true)(r:Rep K H v x):v≠.non:=by
 intro e
 subst e
 cases r<;>simp[someD] at hx
theorem is_S(ha:someD a.data=true)(q:Q (.av (.d (.bool false))))(na:NR a:=by first|exact NR.av|exact NR.bor):Op K E X (fun x y H Q=>y=.non∧Q (.bl (decide (x=.non))) H) a (.av (.d .none)) Q:=fun H0 σ ρ ts as H x y QV s _ k=>by
 have r:=s.pop.top na
 have r2:=s.top_d
 cases r2
 refine⟨rfl,?_⟩
 show QV (.bl (decide (x=.non))) H
 rw[decide_eq_false (someD_ne ha r)]
 exact k _ q _ _ (s.pop.pop.bl _)
theorem isnt_S(ha:someD a.data=true)(q:Q (.av (.d (.bool true))))(na:NR a:=by first|exact NR.av|exact NR.bor):Op K E X (fun x y H Q=>y=.non∧Q (.bl (!decide (x=.non))) H) a (.av (.d .none)) Q:=fun H0 σ ρ ts as H x y QV s _ k=>by
 have r:=s.pop.top na
 have r2:=s.top_d
 cases r2
 refine⟨rfl,?_⟩
 show QV (.bl (!decide (x=.non))) H
 rw[decide_eq_false (someD_ne ha r)]
 exact k _ q _ _ (s.pop.pop.bl _)
noncomputable abbrev OkS:={ x:Str // PyData.strOk x=true }
noncomputable abbrev dS(x:OkS):PyData:=.str x.1
theorem Enc.str:Enc dS 0:=⟨fun a b=>by simp[PyData.eqv,Subtype.ext_iff],fun x=>by simp[PyData.canLay0,x.2],fun _=>by simp[PyData.depth]⟩
end
end VL
end
section
namespace L2
open PySem PySem.Spec PyProof.Rows
end L2
namespace VL
open PySem PySem.Spec PyProof.Rows L2
variable[Tabs]
section
variable{K:W.Frag}{E:FK}{X:Exc→Sl→Prop}{ρ:Sl}{Q:TV→Prop}{te ti:TE}{A:TA}
end
end VL
end
section
namespace L2
open PySem PySem.Spec PyProof.Rows
end L2
namespace VL
open PySem PySem.Spec PyProof.Rows L2
variable[Tabs]
section
variable{K:W.Frag}{G H:Hp}
end
section
variable{K:W.Frag}{E:FK}{X:Exc→Sl→Prop}{ρ:Sl}{Q:TV→Prop}{DV:VEnds}{te ti:TE}{n:Nat}
end
end VL
end
section
namespace L2
open PySem PySem.Spec PyProof.Rows
section
variable{X:Cx}{x x':Str}{C C':Value}{np hpos np' hpos' pos:Pos}{body suite suite':List Stmt}{b₀ b₁:Stmt}{tb:FK→TS}{th th':TS}
end
end L2
namespace VL
open PySem PySem.Spec PyProof.Rows L2
variable[Tabs]
section
variable{K:W.Frag}{F:FK}{X:Exc→Sl→Prop}{ρ:Sl}{DV:VEnds}
end
end VL
end
section
namespace HT
open PySem PySem.Spec PyProof.Rows
end HT
namespace L2
open PySem PySem.Spec PyProof.Rows
section
variable{X:Cx}{K:W.Frag}
end
end L2
namespace VL
open PySem PySem.Spec PyProof.Rows L2
variable[Tabs]
section
variable{K:W.Frag}{E:FK}{X:Exc→Sl→Prop}{ρ:Sl}{Q:TV→Prop}{te:TE}{tl th:TO}
end
end VL
end
section
namespace L2
open PySem PySem.Spec PyProof.Rows
section
variable{X:Cx}{pins:List (Addr×Obj)}{σ:St}{H:Hp}{s:Shared}{F:FK}{k:Nat}{f:Addr}{fd:FuncData}{ps:List Str}{sp:Sp}{dvs:List V}{ds:List Value}{x:Str}{p pos:Pos}{e:Expr}{es:List Expr}{t:TA}
end
end L2
namespace VL
open PySem PySem.Spec PyProof.Rows L2
variable[Tabs]
section
variable{P:Program}{w:World}{K:W.Frag}{mg:Str→Option Value}{base:Heap}{x:Str}{st:Stmt}{N ps:List Str}{dvss:List (List V)}{k:Nat}{Θ:Type}{PreF:Θ→List AV→Prop}{PostF:Θ→List AV→AV→Prop}{PXF:Θ→List AV→Exc→Prop}{Pre:List AV→Prop}{Post:List AV→AV→Prop}{PX:List AV→Exc→Prop}
end
section
variable{K:W.Frag}{E:FK}{X:Exc→Sl→Prop}{ρ:Sl}{Q:TV→Prop}{Θ:Type}{Pre:Θ→List AV→Prop}{Post:Θ→List AV→AV→Prop}{PX:Θ→List AV→Exc→Prop}{te ti:TE}
end
end VL
end
section
namespace L2
open PySem PySem.Spec PyProof.Rows
section
variable{X:Cx}{A:Around}{ea:Addr}{CX:CXT}{k:Nat}{ps:List Str}{sp:Sp}{dvs:List V}{E:XK}{x:Str}{p pos:Pos}{e:Expr}{es:List Expr}{t:TA}
end
end L2
namespace VL
open PySem PySem.Spec PyProof.Rows L2
variable[Tabs]
end VL
end
section
namespace VL
open PySem PySem.Spec PyProof.Rows L2
variable[Tabs]
section
variable{K:W.Frag}{G H:Hp}
theorem RAs.cat{zs:List V}{ys:List AV}{q:Fp}(h2:RAs K G H zs ys q):∀ {vs:List V} {xs:List AV} {p:Fp},RAs K G H vs xs p→RAs K G H (vs++zs) (xs++ys) (fun b=>p b+q b)
 | _,_,p,.nil e=>by
  have z:(fun b=>p b+q b)=q:=funext fun b=>by rw[e b,Nat.zero_add]
  rw[z]
  exact h2
 | _,_,_,.cons r1 rs e=>.cons r1 (RAs.cat h2 rs) fun b=>by have:=e b;omega
end
section
variable{K:W.Frag}{E:FK}{X:Exc→Sl→Prop}{ρ:Sl}{Q:TV→Prop}{DV:VEnds}{te:TE}{n:Nat}
end
end VL
end
section
namespace PySem
section
variable{prog:Program}{w:World}{K:Type}[DecidableEq K]{knd:HeapKind prog w K}{A:Around}{E:Value→Shared→Prop}{s:Shared}
end
end PySem
namespace L2
open PySem PySem.Spec PyProof.Rows
end L2
namespace VL
open PySem PySem.Spec PyProof.Rows L2
variable[Tabs]
section
variable{K:W.Frag}{E:FK}{X:Exc→Sl→Prop}{ρ:Sl}{Q:TV→Prop}{DV:VEnds}{te ti:TE}{n:Nat}
end
end VL
end
section
namespace L2
open PySem PySem.Spec PyProof.Rows
section
variable{X:Cx}{a b c d:Expr}{pos:Pos}{ta tb tc td:TE}
end
end L2
namespace VL
open PySem PySem.Spec PyProof.Rows L2
variable[Tabs]
section
variable{K:W.Frag}{E:FK}{X:Exc→Sl→Prop}{ρ:Sl}{Q:TV→Prop}{ta tb tc td:TE}{r3:R2}
end
end VL
end
section
namespace VL
open PySem PySem.Spec PyProof.Rows L2
variable[Tabs]
section
variable{K:W.Frag}{E:FK}{X:Exc→Sl→Prop}{ρ:Sl}{DV:VEnds}{te ti:TE}{n:Nat}
end
end VL
end
section
namespace L2
open PySem PySem.Spec PyProof.Rows
noncomputable def clsBody:Stmt→List Stmt
 | .ClassDef _ _ _ b _ _ _ _ _ _ _=>b
 | _=>[]
noncomputable def isFn(K:W.Frag)(f:Addr):Bool:=match K.lookup f with
 | some o=>o.cls == .type "function"
 | none=>false
noncomputable def hasObj(K:W.Frag)(N:Addr):Bool:=(K.lookup N).isSome
noncomputable def excInI(K:W.Frag)(C:Addr)(bmB:List Value)(newId:String)(fI:Addr):Bool:=match K.lookup C with
 | some ⟨.type "type",_,.cls cd,sl⟩=>(match cd.mro,sl.toList with
  | .ref C'::bm,[_,_,_,_,some (.builtin n),_]=>C' == C && n == newId && !cd.hasDel && PySem.W.tailIn K bmB bm && PySem.W.nsOkIn K cd.ns && PySem.W.nsIn K cd.ns "__init__" == some (some (.ref fI)) && hasObj K cd.ns && isFn K fI
  | _,_=>false)
 | _=>false
theorem excI_of{K:W.Frag}{C:Addr}{bmB:List Value}{newId:String}{fI:Addr}(q:excInI K C bmB newId fI=true):ExcI K C bmB newId fI:=by
 unfold excInI at q
 split at q
 ·rename_i dd cd sl ho
  split at q
  ·rename_i C' bm k0 k1 k2 k3 n k5 hm hs
   simp only[Bool.and_eq_true,beq_iff_eq,Bool.not_eq_true'] at q
   obtain⟨⟨⟨⟨⟨⟨⟨z1,z2⟩,hdel⟩,ht⟩,hok⟩,hni⟩,hobj⟩,hfn⟩:=q
   subst z1 z2
   obtain⟨nm,bs,mro,ns,qn,hd,sn,sub,ab,col,del⟩:=cd
   dsimp only at hm hdel hok hni hobj
   subst hm hdel
   have hsl:sl=#[k0,k1,k2,k3,some (.builtin n),k5]:=by
    obtain⟨l⟩:=sl
    simp only at hs
    rw[hs]
   subst hsl
   refine⟨⟨bm,ns,nm,qn,bs,hd,sn,sub,ab,col,dd,k0,k1,k2,k3,k5,ho,hok,hni,ht,?_⟩,?_⟩
   ·unfold hasObj at hobj
    cases e:K.lookup ns with
    | none=>rw[e] at hobj;cases hobj
    | some o=>exact⟨o,rfl⟩
   ·unfold isFn at hfn
    cases e:K.lookup fI with
    | none=>rw[e] at hfn;cases hfn
    | some o =>
     rw[e] at hfn
     exact⟨o,rfl,beq_iff_eq.mp hfn⟩
  ·cases q
 ·cases q
end L2
end
section
namespace VL
open PySem PySem.Spec L2
variable[Tabs]
section
variable{K:W.Frag}{G G' H H' H0:Hp}{σ:St}{ρ:Sl}{ts:List V}{as:List TV}{v x y:V}{a b:TV}
end
section
variable{K:W.Frag}{E:FK}{X:Exc→Sl→Prop}{ρ:Sl}{Q:TV→Prop}{DV:VEnds}{ta tb tc te ti tj:TE}{i j:Int}{n:Nat}{r r':R2}{t u:TS}{a b:TV}
end
end VL
end
section
namespace L2
open PySem PySem.Spec PyProof.Rows
noncomputable def rJoin(K:W.Frag):V→List V→Hp→VK→Prop:=fun x vs H Q=>∃ (sep:Str) (b:Addr) (ts:List Str),x=.str sep∧vs=[.ref b]∧SqL K H b (ts.map V.str)∧JoinOk sep ts=true∧Q (.str (Txt.join sep ts)) H
theorem strs_of:∀ {ts:List Str} {its:List Value},Vals (ts.map V.str) its→∃ l:List (Str×Tok),strValues l=its∧l.map (·.1)=ts
 | [],[],_=>⟨[],rfl,rfl⟩
 | [],_::_,h=>by cases h
 | _::_,[],h=>by cases h
 | t::ts,u::us,h=>by
  cases h with
  | cons r rs =>
   obtain⟨k,rfl⟩:=r
   obtain⟨l,e1,e2⟩:=strs_of rs
   exact⟨(t,k)::l,by rw[← e1];rfl,by rw[← e2];rfl⟩
theorem mt_join{X:Cx}{K:W.Frag}(hK:X.K=K):MtR X "str.join" (rJoin K):=by
 subst hK
 intro pins s σ H x vs v us Q I rx rv h
 obtain⟨sep,b,ts,rfl,rfl,hq,hok,q⟩:=h
 obtain⟨t,rfl⟩:=rx
 obtain⟨u,rfl,ru⟩:=rv.one
 cases ru
 obtain⟨its,r,pl,hz⟩:=I.list hq
 obtain⟨l,e1,e2⟩:=strs_of r
 exact SC.join (l:=l) (by rw[e1];exact pl.isList) e2 hok fun t' k=>⟨.str _,H,I.tok k,⟨_,rfl⟩,q⟩
noncomputable def rSlS:V→Option Int→Option Int→Hp→VK→Prop:=fun x lo hi H Q=>∃ z,x=.str z∧z.length≤sizeLine∧Q (.str (Txt.slice z lo hi)) H
theorem part_of{v:Value}{o:Option Int}(h:IsPart v o):∃ l:Option (Int×Tok),v=partValue l∧l.map (·.1)=o:=by
 cases h with
 | none=>exact⟨none,rfl,rfl⟩
 | int i t=>exact⟨some (i,t),rfl,rfl⟩
theorem sl_str{X:Cx}:SlR X rSlS:=by
 intro pins s σ H x v vl vu lo hi sl Q I rx hs pl pu h
 obtain⟨z,rfl,hz,q⟩:=h
 obtain⟨t,rfl⟩:=rx
 obtain⟨l,rfl,rfl⟩:=part_of pl
 obtain⟨u,rfl,rfl⟩:=part_of pu
 obtain⟨o,h1,h2,h3⟩:=hs
 refine⟨"str",_,F.slot_str_getitem.lookup,typeIs_str _ _ _,wpAny_getItem_str_slice (l:=l) (u:=u) (st:=none) ⟨o,h1,h2,h3⟩ rfl ?_⟩
 exact post_val_or_str ⟨Nat.le_trans (Txt.slice_le z _ _) hz,fun t' k=>⟨.str _,H,I.tok k,⟨_,rfl⟩,q⟩⟩
theorem sl_anyS{X:Cx}{K:W.Frag}(hK:X.K=K):SlR X (slOr rSlS (slOr (rSlL K) (rSlT K))):=sl_str.or (sl_any hK)
noncomputable def Its(z:Str):It:=⟨fun i _=>i<z.length,fun i H x H'=>H'=H∧∃ c,z.cps[i]?=some c∧x=.str ⟨#[c]⟩,fun i _=>z.length≤i⟩
theorem turn_ascii{P:Program}{w:World}{K:W.Frag}{tg:Expr}(z:Str)(t:Tok)(it:Addr):Turn P w K tg (Its z) [it] it (fun i h=>h.IsStrIter it "str_ascii_iterator" z t i) where
 mem:=by simp
 obj:=fun i h st b hb=>by
  have e:b=it:=by simpa using hb
  subst e
  obtain⟨o,e,c,d⟩:=st
  exact⟨o,e,fun v z=>by rw[d] at z;cases z⟩
 keep:=fun i h h' st k=>by
  obtain⟨o,e,c,d⟩:=st
  exact⟨o,k it (by simp) o e,c,d⟩
 item:=by
  intro X hP hw hK hc i pins s σ H E I hf st hg
  subst hP hw hK
  have hg:i<z.cps.size:=hg
  obtain⟨f0,f1,f2,f3,f4,f5⟩:=hf it (by simp)
  refine wpAny_pyNext_ascii_item st (Array.getElem?_eq_getElem hg) fun h' st' sb=>?_
  have I1:Inv X pins σ H { s with heap:=h',toks:=s.toks+1 }:=I.turned (t':=s.toks+1) (fun b o hb e=>(sb.2 b hb).trans e) f0 f1 f3 f4 f5
  obtain⟨o,e,c,d⟩:=id st'
  exact⟨_,rfl,go_of (s:={ s with heap:=h',toks:=s.toks+1 }) e c d (by decide) ⟨.str ⟨#[z.cps[i]]⟩,H,I1,⟨_,rfl⟩,⟨rfl,_,Array.getElem?_eq_getElem hg,rfl⟩,st',fun b hb=>(hf b hb).1⟩⟩
 done:=by
  intro X hP hw hK hc i pins s σ H E I hf st hg
  subst hP hw hK
  have hg:z.cps.size≤i:=hg
  obtain⟨f0,f1,f2,f3,f4,f5⟩:=hf it (by simp)
  exact wpAny_pyNext_ascii_end (I.ok.hd hc) st (Array.getElem?_eq_none hg) fun h' eb=>⟨rfl,I.turned (t':=s.toks) (fun b o hb e=>eb b o hb e) f0 f1 f3 f4 f5⟩
 self:=fun _ _ _ _ _ st h=>wpAny_pyIter_striter_ascii st h
noncomputable def iStr(tl:TE):TI:=fun σ H R=>tl σ H fun x H1=>∃ z:Str,x=.str z∧z.cps.all (· < 128)=true∧R (Its z) H1
theorem pi_str{X:Cx}{tg l:Expr}{tl:TE}(hl:PE X l tl):PI X tg l (iStr tl):=by
 intro pins s σ H R I h
 refine thn (hl pins s σ H _ I h) fun v s1 ⟨x,H1,I1,r1,q1⟩=>?_
 obtain⟨z,e,ha,q⟩:=q1
 subst e
 obtain⟨t,rfl⟩:=r1
 have fr:∀ b∈[s1.heap.objs.size],FpOk X pins H1 b:=fun b hb=>by
  rw[List.mem_singleton.mp hb]
  exact I1.fpOk (Nat.le_refl _) (I1.hok.fresh (Nat.le_refl _))
 exact wpAny_pyIter_ascii ha ⟨s1.heap.objs.size,_,_,_,H1,rfl,I1.kept (t':=s1.toks) fun b o e=>Heap.get?_push_of_some _ e,turn_ascii z t _,⟨_,Heap.get?_push_size _ rfl,rfl,rfl⟩,fr,q⟩
theorem Rep.str_inv{K:W.Frag}{H:Hp}{v:V}{z:Str}(h:Rep K H v (.str z)):v=.str z:=by cases h;rfl
theorem Reps.strs_inv{K:W.Frag}{H:Hp}:∀ {zs:List Str} {xs:List V},Reps K H xs (zs.map PyData.str)→xs=zs.map V.str
 | [],[],_=>rfl
 | [],_::_,h=>by cases h
 | _::_,[],h=>by cases h
 | z::zs,x::xs,h=>by
  cases h with
  | cons r rs=>rw[Rep.str_inv r,Reps.strs_inv rs];rfl
end L2
namespace VL
open PySem PySem.Spec L2
variable[Tabs]
section
variable{K:W.Frag}{E:FK}{X:Exc→Sl→Prop}{ρ:Sl}{Q:TV→Prop}{ta tb te:TE}{a b:TV}
theorem small6'{n:Nat}(h:n≤1000000):n≤sizeLine:=Nat.le_of_lt (small6 h)
theorem ix_S{z:Str}{k:Int}{c:Nat}(ha:a.data=.str z)(hz:z.length≤1000000)(e:atI z.cps.toList k=some c)(q:Q (.av (.d (.str ⟨#[c]⟩))))(na:NR a:=by first|exact NR.av|exact NR.bor):Op K E X (rIdx K) a (.av (.d (.int k))) Q:=op_r (op_r (op_l fun H0 σ ρ ts as H x y QV s _ kk=>by
 have e1:=s.top_d.int_inv
 have r:=s.pop.top na
 rw[ha] at r
 have e2:=Rep.str_inv r
 subst e1 e2
 exact⟨z,k,c,rfl,rfl,small6' hz,e,kk _ q _ _ (s.pop.pop.push fun _=>.str _)⟩))
theorem add_s{y z:Str}(ha:a.data=.str y)(hb:b.data=.str z)(hz:y.length+z.length≤1000000)(q:Q (.av (.d (.str (y++z)))))(na:NR a:=by first|exact NR.av|exact NR.bor)(nb:NR b:=by first|exact NR.av|exact NR.bor):Op K E X (rPlus K) a b Q:=op_r (op_r (op_r (op_l fun H0 σ ρ ts as H u v QV s _ kk=>by
 have r1:=s.top nb
 have r2:=s.pop.top na
 rw[hb] at r1
 rw[ha] at r2
 have e1:=Rep.str_inv r1
 have e2:=Rep.str_inv r2
 subst e1 e2
 exact⟨y,z,rfl,rfl,small6' hz,kk _ q _ _ (s.pop.pop.push fun _=>.str _)⟩)))
theorem len_S{z:Str}(ha:a.data=.str z)(hz:z.length≤1000000)(q:Q (.av (.d (.int z.length))))(na:NR a:=by first|exact NR.av|exact NR.bor):Bi K E X (cOr (rLen K) rLenS) [a] Q:=fun H0 σ ρ ts as H vs QV s hl _ kk=>by
 obtain⟨v,rfl⟩:=List.length_eq_one_iff.mp hl
 have r:=SR.top (ts:=ts) (as:=as) s na
 rw[ha] at r
 have e:=Rep.str_inv r
 subst e
 exact .inr ⟨z,rfl,small6' hz,kk _ q _ _ ((SR.pop s).push fun _=>.int _)⟩
theorem ev_join{sep:Str}(h:Ev K E X te ρ fun a=>∃ zs:List Str,a.data=.list (zs.map .str)∧NR a∧JoinOk sep zs=true∧Q (.av (.d (.str (Txt.join sep zs))))):Ev K E X (tBM K "str" (rJoin K) (tC (.str sep)) (tCons te tNil)) ρ Q:=fun H0 σ ts as H QV s x k =>
 ⟨rfl,h H0 σ ts as H _ s x fun a ⟨zs,e,na,ok,q⟩ v H' s'=>by
  have r:=s'.top na
  rw[e] at r
  obtain⟨l,xs,rfl,h1,h2⟩:=r.list_inv
  rw[Reps.strs_inv h2] at h1
  exact⟨sep,l,zs,rfl,rfl,h1,ok,k _ q _ _ (s'.pop.push fun _=>.str _)⟩⟩
theorem it_str{z:Str}:ItOk K (Its z) (.str z) (.str z) z.length fun i=>.str ⟨#[z.cps.getD i 0]⟩:=by
 intro G H sm rp
 refine⟨fun i hi=>⟨hi,fun x H' ⟨e1,c,e2,e3⟩=>?_⟩,fun i hi=>hi⟩
 subst e1 e3
 refine⟨.refl _,fun G' m _=>?_⟩
 show Rep K G' (.str ⟨#[c]⟩) (.str ⟨#[z.cps.getD i 0]⟩)
 rw[show z.cps.getD i 0=c by rw[Array.getD_eq_getD_getElem?,e2];rfl]
 exact .str _
theorem iv_str{P:Nat→(Nat→PyData)→TV→Prop}(h:Ev K E X te ρ fun a=>∃ z:Str,a.data=.str z∧NR a∧z.cps.all (· < 128)=true∧P z.length (fun i=>.str ⟨#[z.cps.getD i 0]⟩) a.frz):Iv K E X (iStr te) ρ P:=fun H0 σ ts as H R s x k =>
 h H0 σ ts as H _ s x fun a ⟨z,e,na,ok,q⟩ v H' s'=>by
  have rp:=s'.top na
  rw[e] at rp
  have ev:=Rep.str_inv rp
  subst ev
  refine⟨z,rfl,ok,k _ _ _ q (.str z) _ H' (TV.frz_nr na) s'.frzV ?_⟩
  rw[TV.frz_data,e]
  exact it_str
theorem comp_S{cap:List (Option Nat)}{g:TG}{ti:TE}(h:Ev K E X ti ρ fun a=>∃ (z:Str) (y:Nat→AV),a.data=.str z∧NR a∧z.cps.all (· < 128)=true∧z.length≤1000000 ∧
  (∀ i:Nat,i<z.length→Gv K g (.str ⟨#[z.cps.getD i 0]⟩) (capV cap ρ) fun ρ'=>Wk ρ' (capV cap ρ)∧Ev K E NE te ρ' fun a=>a.sto=some (y i)) ∧
  ∃ a,Got (.own ((List.range z.length).map y)) a∧Q a):Ev K E X (tComp cap (iStr ti) g tAll te) ρ Q :=
 ev_comp (iv_str (ev_imp h fun a hh=>by
  obtain⟨z,y,e,na,ok,hz,turn,c,hg,q⟩:=hh
  exact⟨z,e,na,ok,hz,fun i=>some (y i),fun i hi H0 σ ts as H v Qg s k=>turn i hi H0 σ ts as H v Qg s fun ρ' ⟨w,ev⟩=>k ρ' ⟨w,tv_all (by
   rw[if_pos rfl]
   exact ev_imp ev fun a z=>⟨_,rfl,z⟩)⟩,c,by rw[List.filterMap_eq_map'];exact hg,q⟩))
theorem sl_S{tl th:TO}{r:V→Option Int→Option Int→Hp→VK→Prop}(h:Ev K E X te ρ fun a=>To tl ρ K E X fun lo=>To th ρ K E X fun hi=>∃ z:Str,a.data=.str z∧NR a∧z.length≤1000000∧Q (.av (.d (.str (Txt.slice z lo hi))))):Ev K E X (tSl (slOr rSlS r) te tl th) ρ Q:=fun H0 σ ts as H QV s x k=>by
 refine h H0 σ ts as H _ s x fun a qa v H1 s1=>qa H0 σ _ _ H1 _ s1 x fun lo ql H2 s2=>ql H0 σ _ _ H2 _ s2 x fun hi ⟨z,ha,na,hz,q⟩ H3 s3=>.inl ?_
 have r:=s3.top na
 rw[ha] at r
 exact⟨z,Rep.str_inv r,small6' hz,k _ q _ _ (s3.pop.push fun _=>.str _)⟩
end
end VL
end
section
namespace VL
open PySem PySem.Spec L2
variable[Tabs]
section
variable{K:W.Frag}{G G' H H' H0:Hp}{σ:St}{ρ:Sl}{ts:List V}{as:List TV}{v x y:V}{a b:TV}
end
section
variable{K:W.Frag}{E:FK}{X:Exc→Sl→Prop}{ρ:Sl}{Q:TV→Prop}{a:TV}
end
end VL
end
section
namespace L2
open PySem PySem.Spec PyProof.Rows PySem.Calls
end L2
namespace VL
open PySem PySem.Spec L2
open PyProof.Rows (sortedS)
variable[Tabs]
section
variable{K:W.Frag}{G G' H H' H0:Hp}{σ:St}{ρ:Sl}{ts:List V}{as:List TV}{v x y:V}{a b:TV}
theorem SR.strs(h:SR K H0 σ ρ ts as H):∀ zs:List Str,SR K H0 σ ρ (zs.map V.str++ts) ((zs.map fun z=>AV.d (.str z)).map TV.av++as) H
 | []=>h
 | z::zs=>(SR.strs h zs).push fun _=>.str z
end
section
variable{K:W.Frag}{E:FK}{X:Exc→Sl→Prop}{ρ:Sl}{Q:TV→Prop}{DV:VEnds}{ta tb te:TE}{n m:Nat}{a b:TV}
end
end VL
end
section
namespace L2
open PySem PySem.Spec PyProof.Rows
end L2
namespace VL
open PySem PySem.Spec L2
variable[Tabs]
section
variable{K:W.Frag}{E:FK}{X:Exc→Sl→Prop}{ρ:Sl}{Q:TV→Prop}{a b:TV}
end
end VL
end
section
namespace VL
open PySem PySem.Spec L2
variable[Tabs]
section
variable{K:W.Frag}{G G' H H' H0:Hp}{σ:St}{ρ:Sl}{ts:List V}{as:List TV}{v x y:V}{a b:TV}
end
section
variable{K:W.Frag}{E:FK}{X:Exc→Sl→Prop}{ρ:Sl}{Q:TV→Prop}{DV:VEnds}{te:TE}{a b:TV}{i j k:Nat}
theorem for_S{nx bk ct:Sl→Prop}{rt:TV→Prop}{g:TG}{tb:TS}(h:Ev K E X te ρ fun a=>∃ z:Str,a.data=.str z∧(∃ c,a=.av c)∧z.cps.all (· < 128)=true∧∃ Iw:Nat→Sl→Prop,Iw 0 ρ∧(∀ (i:Nat) ρ',i<z.length→Iw i ρ'→Gv K g (.str ⟨#[z.cps.getD i 0]⟩) ρ' fun ρ''=>Sv K E X tb ρ'' ⟨Iw (i+1),rt,nx,Iw (i+1)⟩)∧∀ ρ',Iw z.length ρ'→nx ρ'):Sv K E X (tFor (iStr te) g tb) ρ ⟨nx,rt,bk,ct⟩ :=
 sv_for (iv_str (ev_imp h fun a ⟨z,ea,⟨c,hc⟩,ok,Iw,i0,turn,fin⟩=>⟨z,ea,by subst hc;exact NR.av,ok,⟨c.data,by rw[hc];rfl⟩,Iw,i0,turn,fin⟩))
end
end VL
end
section
namespace L2
open PySem PySem.Spec PyProof.Rows
theorem pe_cstS{X:Cx}{x z:Str}{pos:Pos}(hm:∃ t,X.mg x=some (.str z t))(hg:Gl X x)(hd:(x == ("__debug__" : Str))=false:=by decide):PE X (.Name x pos) (tC (.str z)):=by
 obtain⟨t,h⟩:=hm
 exact pe_glob hg h ⟨t,rfl⟩ hd
theorem cstS_mk{K:W.Frag}{h:Heap}{mg:Str→Option Value}{x z:Str}{t:Tok}(X:K.In h)(G:h.Ns mainGlobals mg)(a:PySem.W.nsIn K mainGlobals x=some (some (.str z t))):∃ t,mg x=some (.str z t):=⟨t,PySem.W.mg_of X G a⟩
end L2
namespace VL
open PySem PySem.Spec L2
variable[Tabs]
section
variable{K:W.Frag}{G G' H H' H0:Hp}{σ:St}{ρ:Sl}{ts:List V}{as:List TV}{v x y:V}{a b:TV}
end
section
variable{K:W.Frag}{E:FK}{X:Exc→Sl→Prop}{ρ:Sl}{Q:TV→Prop}{DV:VEnds}{te tb:TE}{n m i j:Nat}{a b:TV}{r:R2}
end
end VL
end
section
namespace L2
open PySem PySem.Spec PyProof.Rows
end L2
namespace VL
open PySem PySem.Spec L2
open Classical
variable[Tabs]
section
variable{K:W.Frag}{G G' H H' H0:Hp}{σ:St}{ρ:Sl}{ts:List V}{as:List TV}{v:V}
end
section
variable{P:Program}{w:World}{K:W.Frag}{mg:Str→Option Value}{base:Heap}{CX:CXT}{k:Nat}{sp:Sp}{v:V}{G G':Hp}
end
section
variable{K:W.Frag}{E:FK}{X:Exc→Sl→Prop}{ρ:Sl}{DV:VEnds}{n:Nat}{Pre:List AV→Prop}{Post:List AV→AV→Prop}
end
end VL
end
section
namespace VL
open PySem PySem.Spec PyProof.Rows L2
variable[Tabs]
section
variable{K:W.Frag}{G H H' H0:Hp}{σ:L2.St}{ρ:Sl}{ts:List V}{as:List TV}
variable{E:FK}{X:Exc→Sl→Prop}
variable{S:List Nat}{DV:VEnds}{t u:TS}
end
section
variable{P:Program}{w:World}{K:W.Frag}{mg:Str→Option Value}{base:Heap}{CX:CXT}{x:Str}{st:Stmt}{N ps:List Str}{dvss:List (List V)}{k:Nat}{Pre:List AV→Prop}{Post:List AV→List AV→Prop}
end
end VL
end
section
namespace VL
open PySem PySem.Spec PyProof.Rows L2
variable[Tabs]
section
variable{K:W.Frag}{G H H' H0:Hp}{σ:L2.St}{ρ:Sl}{ts:List V}{as:List TV}{E:FK}{X:Exc→Sl→Prop}{DV:VEnds}{n:Nat}{te ti:TE}
variable{S:List Nat}{t u:TS}
theorem sv_retLO{xs:List AV}(hm:ρ[n]?=some (some (.own xs)))(h:Ev K E X te ρ fun b=>∃ y,b=.av y∧DV.rt (.av (.tup [.own xs,y]))):Sv K E X (tRet (tTup (tCons (tVar n) (tCons te tNil)))) ρ DV:=fun H0 σ ts as H D st s x f=>by
 obtain⟨w0,g0,_⟩:=s.take hm
 refine⟨w0,g0,h H0 σ ts as H _ s x fun b ⟨y,eb,q⟩ v H1 s1=>?_⟩
 subst eb
 obtain⟨w1,g1,s2⟩:=s1.take hm
 rw[g0] at g1
 cases g1
 exact⟨Nat.le_of_lt (small1000 (show (2:Nat)≤1000 by decide)),fun p hp=>f.rt _ q _ _ _ _ (SR.newTO (vs:=[w0,v]) (xs:=[.own xs,y]) s2 rfl hp)⟩
end
end VL
end
section
namespace L2
open PySem PySem.Spec PyProof.Rows
section
variable{X:Cx}{o e f:Expr}{apos cpos:Pos}{td ty tx:TE}
end
noncomputable def repS(z:Str)(k:Nat):Str:=⟨(List.replicate k z.cps).foldl (·++·) #[]⟩
noncomputable def rRepS:R2:=fun x y H Q=>∃ (z:Str) (k:Int),x=.str z∧y=.int k∧2≤k∧k≤1000∧0<z.length∧z.length≤1000∧Q (.str (repS z k.toNat)) H
theorem op_repS{X:Cx}:OpR X (binaryOp .Mult) rRepS:=by
 intro pins s σ H x y v u Q I rx ry h
 obtain⟨z,k,rfl,rfl,k2,k3,z1,z2,q⟩:=h
 obtain⟨t,rfl⟩:=rx
 obtain⟨t',rfl⟩:=ry
 have e1:(k == 1 || z.length == 0)=false:=by
  rw[Bool.or_eq_false_iff]
  exact⟨beq_eq_false_iff_ne.mpr (by omega),beq_eq_false_iff_ne.mpr (by omega)⟩
 have hm:z.length*k.toNat≤1000*1000:=Nat.mul_le_mul z2 (by omega)
 refine PySem.P.mul_str ?_ (fun _ _=>?_) (fun _ _=>?_) ?_
 ·rw[Bool.or_eq_false_iff];exact⟨decide_eq_false (by omega),decide_eq_false (by omega)⟩
 ·have:(1000:Int)≤(2 ^ 63-1) / k:=Int.le_ediv_of_mul_le (by omega) (by omega)
  omega
 ·show decide (_ > sizeLine)=false
  exact decide_eq_false (by rw[sizeLine_eq];omega)
 ·rw[if_neg (by omega),e1]
  have:=@post_val_or_str s False _ z (repS z k.toNat) t (EP X pins σ Q)
  rw[if_neg id,if_neg id] at this
  refine this ⟨?_,fun t' n=>⟨.str _,H,I.tok n,⟨_,rfl⟩,q⟩⟩
  have hl:(repS z k.toNat).length=z.length*k.toNat:=by
   have key:∀ (m:Nat) (a:Array Nat),((List.replicate m z.cps).foldl (·++·) a).size=a.size+z.length*m:=by
    intro m
    induction m with
    | zero=>intro a;simp
    | succ m ih=>intro a;rw[List.replicate_succ,List.foldl_cons,ih,Array.size_append,Nat.mul_succ];show a.size+z.length+_=_;omega
   have:=key k.toNat #[]
   rw[show (#[]:Array Nat).size=0 from rfl,Nat.zero_add] at this
   exact this
  rw[hl,sizeLine_eq]
  omega
end L2
namespace VL
open PySem PySem.Spec L2
variable[Tabs]
section
variable{K:W.Frag}{E:FK}{X:Exc→Sl→Prop}{ρ:Sl}{Q:TV→Prop}{DV:VEnds}{ta tb tc te ti:TE}{a b:TV}{n:Nat}
theorem rep_S{z:Str}{k:Int}(ha:a.data=.str z)(hb:b.data=.int k)(hk:2≤k∧k≤1000)(hz:0<z.length∧z.length≤1000)(q:Q (.av (.d (.str (repS z k.toNat)))))(na:NR a:=by first|exact NR.av|exact NR.bor)(nb:NR b:=by first|exact NR.av|exact NR.bor):Op K E X rRepS a b Q:=fun H0 σ ρ ts as H x y QV s _ kk=>by
 have h1:=s.pop.top na
 have h2:=s.top nb
 rw[ha] at h1
 rw[hb] at h2
 exact⟨z,k,L2.Rep.str_inv h1,h2.int_inv,hk.1,hk.2,hz.1,hz.2,kk _ q _ _ (s.pop.pop.push fun _=>.str _)⟩
end
end VL
end
section
namespace L2
open PySem PySem.Spec PyProof.Rows
section
variable{prog:Program}{w:World}{A:Around}{E:Value→Shared→Prop}{s:Shared}
variable{z ti to' j1 j2 m1 m2:Addr}{k:Nat}{us vs:Array Value}{a b:Value}
theorem zt_item{u v:Value}{Q:Value→Shared→Prop}(D:ZipApart z ti to' j1 j2 m1 m2)(wz:IsZip s.heap z ti to' .none)(wi:IsPair s.heap ti (.ref j1) (.ref j2))(wo:IsPair s.heap to' a b)
  (n1:s.heap.IsTupleIter j1 m1 k) (n2:s.heap.IsTupleIter j2 m2 k) (t1:s.heap.IsTuple m1 us) (t2:s.heap.IsTuple m2 vs) (eu:us[k]?=some u) (ev:vs[k]?=some v)
  (q:∀ h',IsZip h' z ti to' (rawInt s.heap.objs.size)→IsPair h' to' u v→h'.IsTupleIter j1 m1 (k+1)→h'.IsTupleIter j2 m2 (k+1)→IsPair h' s.heap.objs.size u v →
   (∀ c o,c≠z→c≠to'→c≠j1→c≠j2→s.heap.get? c=some o→h'.get? c=some o)→Q (.ref s.heap.objs.size) { s with heap:=h' }) :
  wpAny (model prog w) A (Builtin.«zip.__next__» ⟨[.ref z],[]⟩) (fun f s'=>∃ r,f=.done (.ret r)∧Q r s') E s:=by
 show wpAny _ _ (field (.ref z) 2 >>= _) _ _ _
 refine wpAny_bind (wpAny_field wz rfl (x:=.bool false) rfl ?_)
 show wpAny _ _ (field (.ref z) 3 >>= _) _ _ _
 refine wpAny_bind (wpAny_field wz rfl (x:=.ref ti) rfl (wpAny_bind (wpAny_seqItems wi rfl ?_)))
 show wpAny _ _ (Builtin.SmallTypes.ownedTupleIsFree (.ref z) >>= _) _ _ _
 refine wpAny_bind ?_
 unfold Builtin.SmallTypes.ownedTupleIsFree
 refine wpAny_bind (wpAny_field wz rfl (x:=.none) rfl (wpAny_pure ?_))
 simp only[if_true]
 refine wpAny_bind (wpAny_rule (wpAny_bind (wpAny_field wz rfl (x:=.ref to') rfl (wpAny_bind (wpAny_setField_rec wz (by simp) fun g1 y1 c1=>?_)))))
 replace y1:IsZip g1 z ti to' .ellipsis:=y1
 refine wpAny_bind ?_
 simp only[List.zipIdx_cons,List.zipIdx_nil,List.forIn_cons,List.forIn_nil]
 refine wpAny_bind (wpAny_bind (wpAny_onRaise ?_))
 show wpAny _ _ (Builtin.SmallTypes.nextOf (.ref j1) >>= _) _ _ _
 refine wpAny_bind (nextOf_tuple_item (n1.extBut c1.extBut D.i1z) (t1.extBut c1.extBut D.l1z) eu fun g2 p1 c2=>wpAny_pure ?_)
 have o2:IsPair g2 to' a b:=c2.extBut _ _ D.TOi1 (c1.extBut _ _ D.TOz wo)
 refine wpAny_bind (wpAny_seqItems o2 rfl (wpAny_bind (wpAny_updateSeq_pair o2 fun g3 o3 c3=>?_)))
 replace o3:IsPair g3 to' u b:=o3
 refine wpAny_bind (wpAny_letGo (wpAny_pure (wpAny_bind (wpAny_bind (wpAny_onRaise ?_)))))
 show wpAny _ _ (Builtin.SmallTypes.nextOf (.ref j2) >>= _) _ _ _
 refine wpAny_bind (nextOf_tuple_item (((n2.extBut c1.extBut D.i2z).extBut c2.extBut D.i12.symm).extBut c3.extBut D.TOi2.symm) (((t2.extBut c1.extBut D.l2z).extBut c2.extBut D.l2i1).extBut c3.extBut D.l2TO) ev fun g4 p2 c4=>wpAny_pure ?_)
 have o4:IsPair g4 to' u b:=c4.extBut _ _ D.TOi2 o3
 refine wpAny_bind (wpAny_seqItems o4 rfl (wpAny_bind (wpAny_updateSeq_pair o4 fun g5 o5 c5=>?_)))
 replace o5:IsPair g5 to' u v:=o5
 refine wpAny_bind (wpAny_letGo (wpAny_pure (wpAny_pure (wpAny_bind (wpAny_seqItems o5 rfl (wpAny_bind (wpAny_newTuple ?_)))))))
 have sz:g5.objs.size=s.heap.objs.size:=by rw[c5.1,c4.1,c3.1,c2.1,c1.1]
 have y5:IsZip g5 z ti to' .ellipsis:=c5.extBut _ _ D.TOz.symm (c4.extBut _ _ D.i2z.symm (c3.extBut _ _ D.TOz.symm (c2.extBut _ _ D.i1z.symm y1)))
 have kp:∀ c o,c≠z→c≠to'→c≠j1→c≠j2→s.heap.get? c=some o→g5.get? c=some o:=fun c o d1 d2 d3 d4 e =>
  c5.extBut _ _ d2 (c4.extBut _ _ d4 (c3.extBut _ _ d2 (c2.extBut _ _ d3 (c1.extBut _ _ d1 e))))
 have q1:g5.IsTupleIter j1 m1 (k+1):=((p1.extBut c3.extBut D.TOi1.symm).extBut c4.extBut D.i12).extBut c5.extBut D.TOi1.symm
 have q2:g5.IsTupleIter j2 m2 (k+1):=p2.extBut c5.extBut D.TOi2.symm
 have lz:z<g5.objs.size:=Heap.lt_size y5
 show wpAny _ _ (Builtin.SmallTypes.ownedTupleHandOut (.ref z) (.ref g5.objs.size) >>= _) _ _ _
 refine wpAny_bind ?_
 unfold Builtin.SmallTypes.ownedTupleHandOut
 have y6:IsZip (g5.push { cls:=.type "tuple",data:=.seq #[u,v] }) z ti to' .ellipsis:=Heap.get?_push_of_some _ y5
 refine wpAny_bind (wpAny_setField_rec y6 (by simp) fun g7 y7 c7=>?_)
 replace y7:IsZip g7 z ti to' (rawInt g5.objs.size):=y7
 refine wpAny_setField_rec y7 (by simp) fun g8 y8 c8=>?_
 replace y8:IsZip g8 z ti to' (rawInt g5.objs.size):=y8
 have up:∀ c o,c≠z→g5.get? c=some o→g8.get? c=some o:=fun c o d e=>c8.extBut _ _ d (c7.extBut _ _ d (Heap.get?_push_of_some _ e))
 have t8:IsPair g8 g5.objs.size u v:=c8.extBut _ _ (Nat.ne_of_gt lz) (c7.extBut _ _ (Nat.ne_of_gt lz) (Heap.get?_push_size _ rfl))
 rw[sz] at y8 t8
 refine wpAny_pure ⟨_,rfl,?_⟩
 show Q (.ref g5.objs.size) _
 rw[sz]
 exact q g8 y8 (up _ _ D.TOz o5) (q1.at fun o e=>up _ o D.i1z e) (q2.at fun o e=>up _ o D.i2z e) t8 fun c o d1 d2 d3 d4 e=>up c o d1 (kp c o d1 d2 d3 d4 e)
theorem zt_end{Q:Fin→Shared→Prop}(hh:A.handled=none)(D:ZipApart z ti to' j1 j2 m1 m2)(wz:IsZip s.heap z ti to' .none)(wi:IsPair s.heap ti (.ref j1) (.ref j2))(wo:IsPair s.heap to' a b)
  (n1:s.heap.IsTupleIter j1 m1 k) (t1:s.heap.IsTuple m1 us) (eu:us[k]?=none)
  (q:∀ h' e,(∀ c o,c≠z→c≠to'→c≠j1→c≠j2→s.heap.get? c=some o→h'.get? c=some o)→(∃ o,h'.get? e=some o∧o.cls=.type "StopIteration")→E (.ref e) { s with heap:=h' }) :
  wpAny (model prog w) A (Builtin.«zip.__next__» ⟨[.ref z],[]⟩) Q E s:=by
 show wpAny _ _ (field (.ref z) 2 >>= _) _ _ _
 refine wpAny_bind (wpAny_field wz rfl (x:=.bool false) rfl ?_)
 show wpAny _ _ (field (.ref z) 3 >>= _) _ _ _
 refine wpAny_bind (wpAny_field wz rfl (x:=.ref ti) rfl (wpAny_bind (wpAny_seqItems wi rfl ?_)))
 show wpAny _ _ (Builtin.SmallTypes.ownedTupleIsFree (.ref z) >>= _) _ _ _
 refine wpAny_bind ?_
 unfold Builtin.SmallTypes.ownedTupleIsFree
 refine wpAny_bind (wpAny_field wz rfl (x:=.none) rfl (wpAny_pure ?_))
 simp only[if_true]
 refine wpAny_bind (wpAny_rule (wpAny_bind (wpAny_field wz rfl (x:=.ref to') rfl (wpAny_bind (wpAny_setField_rec wz (by simp) fun g1 y1 c1=>?_)))))
 replace y1:IsZip g1 z ti to' .ellipsis:=y1
 refine wpAny_bind ?_
 simp only[List.zipIdx_cons,List.zipIdx_nil,List.forIn_cons,List.forIn_nil]
 refine wpAny_bind (wpAny_bind (wpAny_onRaise ?_))
 show wpAny _ _ (Builtin.SmallTypes.nextOf (.ref j1) >>= _) _ _ _
 refine wpAny_bind (nextOf_tuple_end hh (n1.extBut c1.extBut D.i1z) (t1.extBut c1.extBut D.l1z) eu fun g2 e c2 he=>?_)
 obtain⟨oe,e1,e2⟩:=he
 have y2:IsZip g2 z ti to' .ellipsis:=c2 _ _ D.i1z.symm y1
 have ne:e≠z:=fun x=>by subst x;rw[y2] at e1;cases e1;simp at e2
 exact wpAny_setField_rec y2 (by simp) fun g3 _ c3=>q g3 e (fun c o d1 _ d3 _ x=>c3.extBut _ _ d1 (c2 _ _ d3 (c1.extBut _ _ d1 x))) ⟨oe,c3.extBut _ _ ne e1,e2⟩
theorem zt_next{u v:Value}{Q:Option Value→Shared→Prop}(D:ZipApart z ti to' j1 j2 m1 m2)(wz:IsZip s.heap z ti to' .none)(wi:IsPair s.heap ti (.ref j1) (.ref j2))(wo:IsPair s.heap to' a b)
  (n1:s.heap.IsTupleIter j1 m1 k) (n2:s.heap.IsTupleIter j2 m2 k) (t1:s.heap.IsTuple m1 us) (t2:s.heap.IsTuple m2 vs) (eu:us[k]?=some u) (ev:vs[k]?=some v)
  (q:∀ h',IsZip h' z ti to' (rawInt s.heap.objs.size)→IsPair h' to' u v→h'.IsTupleIter j1 m1 (k+1)→h'.IsTupleIter j2 m2 (k+1)→IsPair h' s.heap.objs.size u v →
   (∀ c o,c≠z→c≠to'→c≠j1→c≠j2→s.heap.get? c=some o→h'.get? c=some o)→Q (some (.ref s.heap.objs.size)) { s with heap:=h' }) :
  wpAny (model prog w) A (pyNext (.ref z)) Q E s:=by
 have hT:s.TypeIs (.ref z) "zip" := ⟨_,wz,rfl⟩
 unfold pyNext
 exact wpAny_bind (wpAny_attempt (wpAny_callSpecial?_slot (name:=Str.ofString "__next__") hT F.slot_zip_next
  (wpAny_call_entry F.slot_zip_next hT F.entry_zip_next (zt_item D wz wi wo n1 n2 t1 t2 eu ev fun h' b1 b2 b3 b4 b5 b6=>wpAny_pure (q h' b1 b2 b3 b4 b5 b6)) (F.args_zip_next_1 _))))
theorem zt_done{Q:Option Value→Shared→Prop}(hh:A.in1.handled=none)(D:ZipApart z ti to' j1 j2 m1 m2)(wz:IsZip s.heap z ti to' .none)(wi:IsPair s.heap ti (.ref j1) (.ref j2))(wo:IsPair s.heap to' a b)
  (n1:s.heap.IsTupleIter j1 m1 k) (t1:s.heap.IsTuple m1 us) (eu:us[k]?=none)
  (q:∀ h',(∀ c o,c≠z→c≠to'→c≠j1→c≠j2→s.heap.get? c=some o→h'.get? c=some o)→Q none { s with heap:=h' }):wpAny (model prog w) A (pyNext (.ref z)) Q E s:=by
 have hT:s.TypeIs (.ref z) "zip" := ⟨_,wz,rfl⟩
 unfold pyNext
 refine wpAny_bind (wpAny_attempt (wpAny_callSpecial?_slot (name:=Str.ofString "__next__") hT F.slot_zip_next
  (wpAny_call_entry F.slot_zip_next hT F.entry_zip_next (zt_end hh D wz wi wo n1 t1 eu fun h' e hk he=>?_) (F.args_zip_next_1 _))))
 obtain⟨o,ho,hc⟩:=he
 exact wpAny_bind (wpAny_isInstance (T := "StopIteration") (b:=true) ⟨o,ho,hc⟩ isSubtype_stop (wpAny_pure (q _ hk)))
noncomputable abbrev zt1(h:Heap)(l:Addr):Heap:=h.push { cls:=.type "tuple_iterator",data:=.fields #[.ref l,.int 0 0] }
noncomputable abbrev zt3(h:Heap)(l l':Addr):Heap:=(zt1 (zt1 h l) l').push { cls:=.type "tuple",data:=.seq #[.ref h.objs.size,.ref (zt1 h l).objs.size] }
noncomputable abbrev zt4(h:Heap)(l l':Addr):Heap:=(zt3 h l l').push { cls:=.type "tuple",data:=.seq #[.none,.none] }
noncomputable abbrev zt5(h:Heap)(l l':Addr):Heap:=(zt4 h l l').push { cls:=.type "zip",data:=.fields #[.none,.bool false,.bool false,.ref (zt1 (zt1 h l) l').objs.size,.ref (zt3 h l l').objs.size] }
theorem meets_zt(l l':Addr)(us vs:Array Value):Meets (Builtin.«zip.__new__» ⟨[.type "zip",.ref l,.ref l'],[]⟩) (fun _ R s=>s.heap.IsTuple l us∧s.heap.IsTuple l' vs∧R (.ok (.ret (.ref (zt4 s.heap l l').objs.size))) { s with heap:=zt5 s.heap l l' }) :=
 .of_wp fun prog w A R s h=>by
  obtain⟨hp,g,d,tk,os⟩:=s
  obtain⟨t1,t2,h⟩:=h
  have hsub:=sub_zip
  have hL1:Heap.IsTuple (Shared.heap ⟨hp,g,d,tk,os⟩) l us:=t1
  have hL2:Heap.IsTuple (Shared.heap ⟨hp.push { cls:=.type "tuple_iterator",data:=.fields #[.ref l,.int 0 0] },g,d,tk,os⟩) l' vs:=Heap.IsTuple.push t2 _
  wp_walk using wpAny_pyIter_tuple hL1,wpAny_pyIter_tuple hL2
  exact⟨_,rfl,h⟩
theorem call_zt{l l':Addr}{us vs:Array Value}{Q:Value→Shared→Prop}(t1:s.heap.IsTuple l us)(t2:s.heap.IsTuple l' vs)
  (h:∀ h' n,n=s.heap.objs.size→IsZip h' (n+4) (n+2) (n+3) .none→IsPair h' (n+2) (.ref n) (.ref (n+1))→IsPair h' (n+3) .none .none→h'.IsTupleIter n l 0→h'.IsTupleIter (n+1) l' 0 →
   (∀ c o,s.heap.get? c=some o→h'.get? c=some o)→Q (.ref (n+4)) { s with heap:=h' }) :
  wpAny (model prog w) A (call (.type "zip") [.ref l,.ref l']) Q E s:=by
 refine callType_new F.called_zip (by decide) (F.typeCall_zip_2 _ _) (F.newCall_zip_2 _ _) (fun obj=>F.args_object_init_3 obj _ _) F.entry_zip_new (meets_zt l l' us vs) ⟨t1,t2,?_⟩
 have z1:(zt1 s.heap l).objs.size=s.heap.objs.size+1:=Heap.size_push ..
 have z2:(zt1 (zt1 s.heap l) l').objs.size=s.heap.objs.size+2:=by rw[Heap.size_push,z1]
 have z3:(zt3 s.heap l l').objs.size=s.heap.objs.size+3:=by rw[Heap.size_push,z2]
 have z4:(zt4 s.heap l l').objs.size=s.heap.objs.size+4:=by rw[Heap.size_push,z3]
 have g5:(zt5 s.heap l l').get? (zt4 s.heap l l').objs.size=some _:=Heap.get?_push_size _ rfl
 have g4:(zt5 s.heap l l').get? (zt3 s.heap l l').objs.size=some _:=Heap.get?_push_of_some _ (Heap.get?_push_size _ rfl)
 have g3:(zt5 s.heap l l').get? (zt1 (zt1 s.heap l) l').objs.size=some _:=Heap.get?_push_of_some _ (Heap.get?_push_of_some _ (Heap.get?_push_size _ rfl))
 have g2:(zt5 s.heap l l').get? (zt1 s.heap l).objs.size=some _:=Heap.get?_push_of_some _ (Heap.get?_push_of_some _ (Heap.get?_push_of_some _ (Heap.get?_push_size _ rfl)))
 have g1:(zt5 s.heap l l').get? s.heap.objs.size=some _:=Heap.get?_push_of_some _ (Heap.get?_push_of_some _ (Heap.get?_push_of_some _ (Heap.get?_push_of_some _ (Heap.get?_push_size _ rfl))))
 show _∧_
 rw[z2,z3,z4] at g5
 rw[z1,z2] at g3
 rw[z3] at g4
 rw[z1] at g2
 rw[z4]
 exact⟨⟨_,g5,rfl⟩,h _ _ rfl g5 g3 g4 ⟨_,g1,rfl,rfl⟩ ⟨_,g2,rfl,rfl⟩ fun c o x=>Heap.get?_push_of_some _ (Heap.get?_push_of_some _ (Heap.get?_push_of_some _ (Heap.get?_push_of_some _ (Heap.get?_push_of_some _ x))))⟩
end
theorem Inv.turnL{X:Cx}{pins:List (Addr×Obj)}{σ:St}{H:Hp}{s:Shared}{h':Heap}{t':Nat}{ch:List Addr}(I:Inv X pins σ H s)(f:∀ b∈ch,FpOk X pins H b)(k:∀ b o,b∉ch→s.heap.get? b=some o→h'.get? b=some o):Inv X pins σ H { s with heap:=h',toks:=t' }:=by
 have nt:∀ b u,H b=some u→b∉ch:=fun b u e z=>by rw[(f b z).1] at e;cases e
 refine I.step (g':=s.gens) (d':=s.drawn) (ch:=ch) (fun b hb=>?_) (fun b o _ _ hc e _=>k b o hc e) (fun b o _ _ hc e _=>⟨o.slots,k b o hc e⟩) (fun _ _ _ _ n=>n) (fun b o hc e=>⟨o,k b o hc e⟩) (fun _ _ e=>e) (fun _ _ _ e=>e) (fun b ps e=>⟨#[],by rw[e];simp⟩) (fun m hm=>?_) (fun b u e=>?_) I.bare
 ·have g:=f b hb
  exact⟨g.2.2.2.1,g.2.1,g.2.2.2.2.1,g.2.2.2.2.2⟩
 ·obtain⟨o,es,ep,ho,r⟩:=hm
  exact⟨o,es,ep,k _ o (fun z=>(f _ z).2.1 rfl) ho,r⟩
 ·refine (I.hok b u e).stay (fun c v hc q=>k c v ?_ q) (fun _ q=>q) fun _ _ q=>q
  rcases hc with z|z
  ·rw[z];exact nt b u e
  ·exact nt c _ z
theorem Inv.tupL{X:Cx}{pins:List (Addr×Obj)}{σ:St}{H:Hp}{s:Shared}{h':Heap}{t':Nat}{ch:List Addr}{xs:List V}{us:List Value}(I:Inv X pins σ H s)(f:∀ b∈ch,FpOk X pins H b)(k:∀ b o,b∉ch→s.heap.get? b=some o→h'.get? b=some o)
  (ht:h'.get? s.heap.objs.size=some { cls:=.type "tuple",data:=.seq us.toArray }) (hv:Vals xs us) (hz:xs.length≤sizeLine):Inv X pins σ (upd H s.heap.objs.size (.tup xs)) { s with heap:=h',toks:=t' }:=by
 have hp:H s.heap.objs.size=none:=I.hok.fresh (Nat.le_refl _)
 have ne:∀ b o,s.heap.get? b=some o→b≠s.heap.objs.size:=fun b o q=>Nat.ne_of_lt (Heap.lt_size q)
 have nt:∀ b u,H b=some u→b∉ch:=fun b u e z=>by rw[(f b z).1] at e;cases e
 have np:∀ b u,H b=some u→b≠s.heap.objs.size:=fun b u q=>ne_of_none q hp
 refine I.step (g':=s.gens) (d':=s.drawn) (ch:=ch) (fun b hb=>?_) (fun b o _ _ hc q _=>k b o hc q) (fun b o _ _ hc q _=>⟨o.slots,k b o hc q⟩) (fun b o _ q n=>by rw[upd_ne (ne b o q)];exact n) (fun b o hc q=>⟨o,k b o hc q⟩)
  (fun b ys q=>by rw[upd_ne (np b _ q)];exact q) (fun b o u q=>by rw[upd_ne (np b _ q)];exact q) (fun b ps q=>⟨#[],by rw[upd_ne (np b _ q),q];simp⟩) (fun m hm=>?_) (fun b u q=>?_) I.bare
 ·have g:=f b hb
  exact⟨g.2.2.2.1,g.2.1,g.2.2.2.2.1,g.2.2.2.2.2⟩
 ·obtain⟨o,es,ep,ho,r⟩:=hm
  exact⟨o,es,ep,k _ o (fun z=>(f _ z).2.1 rfl) ho,r⟩
 ·by_cases hb:b=s.heap.objs.size
  ·subst hb
   rw[upd_same] at q
   cases q
   exact⟨hz,us,hv,⟨_,ht,rfl,_,rfl⟩⟩
  ·rw[upd_ne hb] at q
   refine (I.hok b u q).stay (fun c v hc r=>?_) (fun c r=>by rw[upd_ne (np c _ r)];exact r) fun c ys r=>by rw[upd_ne (np c _ r)];exact r
   rcases hc with z|z
   ·rw[z] at r ⊢;exact k _ _ (nt b u q) r
   ·exact k _ _ (nt c _ z) r
noncomputable def Itz(K:W.Frag)(a b:Addr)(n:Nat):It :=
  ⟨fun i H=>∃ xs ys x y,SqT K H a xs∧SqT K H b ys∧xs.length=n∧ys.length=n∧xs[i]?=some x∧ys[i]?=some y,
   fun i H v H'=>∃ p x y,H p=none∧v=.ref p∧H'=upd H p (.tup [x,y])∧(∀ xs,SqT K H a xs→xs[i]?=some x)∧∀ ys,SqT K H b ys→ys[i]?=some y,
   fun i H=>∃ xs,SqT K H a xs∧xs.length=n∧n≤i⟩
theorem turn_zt{P:Program}{w:World}{K:W.Frag}{es:List Expr}{x1}{tp:Pos}(a b n0:Addr)(n:Nat)(la:a<n0)(lb:b<n0):Turn P w K (.Tuple es x1 tp) (Itz K a b n) [n0+4,n0+2,n0+3,n0,n0+1] (n0+4) (fun i h=>IsZip h (n0+4) (n0+2) (n0+3) .none∧IsPair h (n0+2) (.ref n0) (.ref (n0+1))∧(∃ c d,IsPair h (n0+3) c d)∧h.IsTupleIter n0 a i∧h.IsTupleIter (n0+1) b i) where
 mem:=by simp
 obj:=fun i h st c hc=>by
  obtain⟨y1,y2,⟨_,_,y3⟩,⟨o1,y4,_,d1⟩,o2,y5,_,d2⟩:=st
  simp only[List.mem_cons,List.not_mem_nil,or_false] at hc
  rcases hc with rfl|rfl|rfl|rfl|rfl
  ·exact⟨_,y1,fun v q=>by cases (show Data.fields _=Data.cell v from q)⟩
  ·exact⟨_,y2,fun v q=>by cases (show Data.seq _ _=Data.cell v from q)⟩
  ·exact⟨_,y3,fun v q=>by cases (show Data.seq _ _=Data.cell v from q)⟩
  ·exact⟨_,y4,fun v q=>by rw[d1] at q;cases q⟩
  ·exact⟨_,y5,fun v q=>by rw[d2] at q;cases q⟩
 keep:=fun i h h' st k=>by
  obtain⟨y1,y2,⟨c,d,y3⟩,y4,y5⟩:=st
  exact⟨k _ (by simp) _ y1,k _ (by simp) _ y2,⟨c,d,k _ (by simp) _ y3⟩,y4.at fun o q=>k _ (by simp) o q,y5.at fun o q=>k _ (by simp) o q⟩
 item:=by
  intro X hP hw hK hc i pins s σ H E I hf st hg
  subst hP hw hK
  obtain⟨xs,ys,x,y,sx,sy,l1,l2,ex,ey⟩:=hg
  obtain⟨y1,y2,⟨c,d,y3⟩,y4,y5⟩:=st
  obtain⟨us,ru,tu,_⟩:=I.tuple sx
  obtain⟨vs,rv,tv,_⟩:=I.tuple sy
  obtain⟨u,hu,r1⟩:=ru.get ex
  obtain⟨v,hv,r2⟩:=rv.get ey
  have D:ZipApart (n0+4) (n0+2) (n0+3) n0 (n0+1) a b:=zipApart_new la lb
  refine zt_next D y1 y2 y3 y4 y5 tu tv (by simpa using hu) (by simpa using hv) fun h' b1 b2 b3 b4 b5 kp=>?_
  refine⟨_,rfl,wpAny_letOwnedTupleGo_zip b1 fun h2 w1 c2=>?_⟩
  have ne:∀ {c o},s.heap.get? c=some o→c≠s.heap.objs.size:=fun e=>Nat.ne_of_lt (Heap.lt_size e)
  have ht:h2.get? s.heap.objs.size=some { cls:=.type "tuple",data:=.seq #[u,v] }:=(c2.2 _ (ne y1).symm).trans b5
  have I1:Inv X pins σ (upd H s.heap.objs.size (.tup [x,y])) { s with heap:=h2,toks:=s.toks }:=I.tupL hf (fun b o hb e=>(c2.2 b fun z=>hb (by simp[z])).trans (kp b o (fun z=>hb (by simp[z])) (fun z=>hb (by simp[z])) (fun z=>hb (by simp[z])) (fun z=>hb (by simp[z])) e)) (us:=[u,v]) ht (.cons r1 (.cons r2 .nil)) (by show 2≤sizeLine;decide)
  refine⟨.ref s.heap.objs.size,_,I1,rfl,⟨s.heap.objs.size,x,y,I.hok.fresh (Nat.le_refl _),rfl,rfl,fun zs hz=>by rw[I.tuple_inj hz sx];exact ex,fun zs hz=>by rw[I.tuple_inj hz sy];exact ey⟩,?_,?_⟩
  ·have l1:n0+2≠n0+4:=by simp
   have l2:n0+3≠n0+4:=by simp
   have l3:n0≠n0+4:=Nat.ne_of_lt (Nat.lt_add_of_pos_right (by decide))
   have l4:n0+1≠n0+4:=by simp
   exact⟨w1,(c2.2 _ l1).trans (kp _ _ l1 (by simp) (Nat.ne_of_gt (Nat.lt_add_of_pos_right (by decide))) (by simp) y2),⟨u,v,(c2.2 _ l2).trans b2⟩,b3.at fun o e=>(c2.2 _ l3).trans e,b4.at fun o e=>(c2.2 _ l4).trans e⟩
  ·intro c hc
   have g:c≠s.heap.objs.size:=by
    simp only[List.mem_cons,List.not_mem_nil,or_false] at hc
    rcases hc with rfl|rfl|rfl|rfl|rfl
    ·exact ne y1
    ·exact ne y2
    ·exact ne y3
    ·obtain⟨_,e,_⟩:=y4;exact ne e
    ·obtain⟨_,e,_⟩:=y5;exact ne e
   rw[upd_ne g]
   exact (hf c hc).1
 done:=by
  intro X hP hw hK hc i pins s σ H E I hf st hg
  subst hP hw hK
  obtain⟨xs,sx,l1,l2⟩:=hg
  obtain⟨y1,y2,⟨c,d,y3⟩,y4,y5⟩:=st
  obtain⟨us,ru,tu,_⟩:=I.tuple sx
  have D:ZipApart (n0+4) (n0+2) (n0+3) n0 (n0+1) a b:=zipApart_new la lb
  refine zt_done (A:=X.A) (I.ok.hd hc) D y1 y2 y3 y4 tu (Array.getElem?_eq_none (by rw[List.size_toArray,← ru.length];omega)) fun h' kp=>⟨rfl,I.turnL (t':=s.toks) hf fun b o hb e=>kp b o (fun z=>hb (by simp[z])) (fun z=>hb (by simp[z])) (fun z=>hb (by simp[z])) (fun z=>hb (by simp[z])) e⟩
 self:=fun _ _ _ _ _ st h=>wpAny_pyIter_zip st.1 h
noncomputable def iZipT(K:W.Frag)(ta:TA):TI:=fun σ H R=>ta σ H fun vs H1=>∃ a b xs ys,vs=[.ref a,.ref b]∧SqT K H1 a xs∧SqT K H1 b ys∧xs.length=ys.length∧R (Itz K a b xs.length) H1
theorem pi_zipTK{X:Cx}{K:W.Frag}{a b:Expr}{ta:TA}{es:List Expr}{x1}{tp p pos:Pos}(hK:X.K=K)(hg:Gl X "zip")(hm:X.mg "zip" = none)(ha:PA X [a,b] ta)(hs:starEach [a,b] X.env=(false,eval a X.env)::starEach [b] X.env:=by rfl)(hp:(backTo pos (starEach [b] X.env)).any (·.1)=false:=by rfl) :
  PI X (.Tuple es x1 tp) (.Call (.Name "zip" p) [a,b] [] pos) (iZipT K ta):=by
 subst hK
 intro pins s σ H R I h
 refine Call_ (ld_blt I hg hm PyProof.Rows.boot_zip (PyProof.Rows.callWith_type1 (thn (ha pos pins s σ H _ I h) fun us s1 h1=>?_) hs hp))
 obtain⟨vs,H1,I1,r1,c,d,xs,ys,e,sx,sy,hl,q⟩:=h1
 subst e
 obtain⟨u,v,rfl,r2,r3⟩:=r1.two
 cases (show u=Value.ref c from r2)
 cases (show v=Value.ref d from r3)
 obtain⟨_,_,tu,_⟩:=I1.tuple sx
 obtain⟨_,_,tv,_⟩:=I1.tuple sy
 have hc:c<s1.heap.objs.size:=by obtain⟨o,e,_⟩:=id tu;exact Heap.lt_size e
 have hd:d<s1.heap.objs.size:=by obtain⟨o,e,_⟩:=id tv;exact Heap.lt_size e
 refine call_zt tu tv fun h' n en y1 y2 y3 y4 y5 k=>wpAny_pyIter_zip y1 ?_
 subst en
 have I2:Inv X pins σ H1 { s1 with heap:=h' }:=I1.kept (t':=s1.toks) k
 refine⟨_,_,_,Itz X.K c d xs.length,H1,rfl,I2,turn_zt c d s1.heap.objs.size xs.length hc hd,⟨y1,y2,⟨_,_,y3⟩,y4,y5⟩,fun b hb=>?_,q⟩
 have hb:s1.heap.objs.size≤b:=by
  simp only[List.mem_cons,List.not_mem_nil,or_false] at hb
  rcases hb with rfl|rfl|rfl|rfl|rfl
  ·exact Nat.le_add_right ..
  ·exact Nat.le_add_right ..
  ·exact Nat.le_add_right ..
  ·exact Nat.le_refl _
  ·exact Nat.le_add_right ..
 exact I1.fpOk hb (I1.hok.fresh hb)
end L2
end
section
namespace L2
open PySem PySem.Spec PyProof.Rows
noncomputable abbrev nT(n:Int):Str:=Str.ofString (toString n)
theorem log_small{n:Int}(h:-(2 ^ 64)≤n∧n≤2 ^ 64):n.natAbs.log2<1920:=by
 have h1:n.natAbs<2 ^ 65:=by omega
 by_cases z:n.natAbs=0
 ·rw[z];decide
 ·have:=(Nat.log2_lt z).mpr h1
  omega
noncomputable def rStrI:List V→Hp→VK→Prop:=fun xs H Q=>∃ n:Int,xs=[.int n]∧(-(2 ^ 64)≤n∧n≤2 ^ 64)∧Q (.str (nT n)) H
theorem call_strI{X:Cx}:CallR X (.type "str") rStrI:=by
 intro pins s σ H xs us Q I rv h
 obtain⟨n,rfl,hn,q⟩:=h
 obtain⟨u,rfl,t,rfl⟩:=rv.one
 exact P.str_of_int (log_small hn) ⟨.str _,H,I.tok _,⟨_,rfl⟩,q⟩
noncomputable def rIntT:List V→Hp→VK→Prop:=fun xs H Q=>∃ (z:Str) (n:Int),xs=[.str z]∧z.length≤640∧PySem.intText? z=some n∧Q (.int n) H
theorem call_intT{X:Cx}:CallR X (.type "int") rIntT:=by
 intro pins s σ H xs us Q I rv h
 obtain⟨z,n,rfl,hz,hn,q⟩:=h
 obtain⟨u,rfl,t,rfl⟩:=rv.one
 exact PySem.W.KIN.call_text hn hz ⟨.int _,H,I.tok _,⟨_,rfl⟩,q⟩
noncomputable def rPart:V→List V→Hp→VK→Prop:=fun x vs H Q=>∃ a b:Str,x=.str a∧vs=[.str b]∧0<b.length∧a.length≤sizeLine∧∀ p,H p=none→Q (.ref p) (upd H p (.tup [.str (Txt.partition a b).1,.str (Txt.partition a b).2.1,.str (Txt.partition a b).2.2]))
theorem mt_part{X:Cx}:MtM X "str.partition" rPart:=by
 intro pins s σ H x vs v us Q I rx rv h
 obtain⟨a,b,rfl,rfl,hb,ha,q⟩:=h
 obtain⟨t,rfl⟩:=rx
 obtain⟨u,rfl,t',rfl⟩:=rv.one
 refine call_meets F.slot_str_partition (typeIs_str _ _ _) F.entry_str_partition (F.args_str_partition_2 _ _) (meets_str_partition a b t t' (beq_eq_false_iff_ne.mpr (by omega)) ha) ?_
 have q:=q _ (I.hok.fresh (Nat.le_refl s.heap.objs.size))
 have lay:∀ (k:Nat) (p q' r:Str) (i j l:Tok),Q (.ref s.heap.objs.size) (upd H s.heap.objs.size (.tup [.str p,.str q',.str r]))→EP X pins σ Q (.ref s.heap.objs.size) { s with toks:=k,heap:=s.heap.push { cls:=.type "tuple",data:=.seq [.str p i,.str q' j,.str r l].toArray } }:=fun k p q' r i j l hq =>
  ⟨.ref _,_,I.laid (a:=s.heap.objs.size) (o:=.tup [.str p,.str q',.str r]) (t':=k) (fun b o e=>Heap.get?_push_of_some _ e) (Nat.le_refl _) ⟨by show 3≤sizeLine;decide,[.str p i,.str q' j,.str r l],.cons ⟨_,rfl⟩ (.cons ⟨_,rfl⟩ (.cons ⟨_,rfl⟩ .nil)),⟨_,Heap.get?_push_size _ rfl,rfl,_,rfl⟩⟩,rfl,hq⟩
 unfold Txt.partition at q
 revert q
 cases Builtin.Str.occurrences a b 0 a.length 1 with
 | nil=>intro q;exact lay _ _ _ _ _ _ _ q
 | cons i r=>intro q;exact lay _ _ _ _ _ _ _ q
noncomputable def rSplit:V→List V→Hp→VK→Prop:=fun x vs H Q=>∃ a b:Str,x=.str a∧vs=[.str b]∧0<b.length∧a.length+2≤sizeLine∧∀ p,H p=none→Q (.ref p) (upd H p (.lst ((Txt.split a b).map V.str)))
theorem numbered_vals:∀ (k:Nat) (zs:List Str),Vals (zs.map V.str) (strsFrom k zs)
 | _,[]=>.nil
 | k,z::zs=>.cons ⟨_,rfl⟩ (numbered_vals (k+1) zs)
theorem mt_split{X:Cx}:MtM X "str.split" rSplit:=by
 intro pins s σ H x vs v us Q I rx rv h
 obtain⟨a,b,rfl,rfl,hb,ha,q⟩:=h
 obtain⟨t,rfl⟩:=rx
 obtain⟨u,rfl,t',rfl⟩:=rv.one
 have hy:(b.length == 0)=false:=beq_eq_false_iff_ne.mpr (by omega)
 have q:=q _ I.fresh
 have hn:(Builtin.Str.partsBetween a (Builtin.Str.occurrences a b 0 a.length (a.length+1)) b.length).length≤sizeLine:=by
  have e1:=StrLaws.occ_length_le a b 0 a.length (a.length+1)
  rw[length_partsBetween];omega
 unfold Txt.split at q
 cases h1:(decide (a.length<b.length) || decide (Builtin.Str.strKind a<Builtin.Str.strKind b)) with
 | true =>
  rw[h1,if_pos rfl] at q
  exact call_meets F.slot_str_split (typeIs_str _ _ _) F.entry_str_split (F.args_str_split_2 _ _) (meets_str_split_cannot_occur a b t t' h1) ⟨.ref _,_,I.lnew (ys:=[.str a]) (t':=s.toks) (its:=[.str a t]) (.cons ⟨_,rfl⟩ .nil) (by show 1≤sizeLine;decide),rfl,q⟩
 | false =>
  rw[h1,if_neg Bool.false_ne_true] at q
  cases hf:(Builtin.Str.occurrences a b 0 a.length (a.length+1)).isEmpty with
  | true =>
   rw[hf,if_pos rfl] at q
   exact call_meets F.slot_str_split (typeIs_str _ _ _) F.entry_str_split (F.args_str_split_2 _ _) (meets_str_split_not_found a b t t' h1 hy hf) ⟨.ref _,_,I.lnew (ys:=[.str a]) (t':=s.toks) (its:=[.str a t]) (.cons ⟨_,rfl⟩ .nil) (by show 1≤sizeLine;decide),rfl,q⟩
  | false =>
   rw[hf,if_neg Bool.false_ne_true] at q
   exact call_meets F.slot_str_split (typeIs_str _ _ _) F.entry_str_split (F.args_str_split_2 _ _) (meets_str_split_sep a b t t' h1 hy hf (by omega) hn) ⟨.ref _,_,I.lnew (its:=strsFrom s.toks _) (numbered_vals _ _) (by rw[List.length_map];exact hn),rfl,q⟩
noncomputable def rMinL(K:W.Frag):List V→Hp→VK→Prop:=fun xs H Q=>∃ (l:Addr) (ns:List Int),xs=[.ref l]∧SqL K H l (ns.map V.int)∧ns≠[]∧∀ m,m∈ns→(∀ a∈ns,m≤a)→Q (.int m) H
theorem call_minL{X:Cx}{K:W.Frag}(hK:X.K=K)(hc:X.calm=true):CallR X (.builtin "min") (rMinL K):=by
 subst hK
 intro pins s σ H xs us Q I rv h
 obtain⟨l,ns,rfl,hq,hne,q⟩:=h
 obtain⟨u,rfl,ru⟩:=rv.one
 cases ru
 obtain⟨its,rs,pl,hz⟩:=I.list hq
 have hI:=intsAre_of rs
 obtain⟨ys,e⟩:=hI.allInts.items
 have hl:=pl.isList
 rw[e] at hl
 have hn:PySem.numsOf (intItems ys).toList=ns:=by rw[← e];exact hI.numsOf
 rw[nums_intItems] at hn
 have hy:0<ys.size:=by
  have h1:ys.size=ns.length:=by rw[← hn];simp
  have:0<ns.length:=List.length_pos_iff.mpr hne
  omega
 refine min_intList (I.ok.hd hc) hl hy fun v h' tk hv hk=>?_
 obtain⟨t,rfl⟩:=intItems_at hv
 obtain⟨h1,h2⟩:=argBest_lt (numAt ys) (ys.size-1)
 refine⟨.int _,H,I.kept (t':=tk) hk,⟨_,rfl⟩,q _ ?_ fun a ha=>?_⟩
 ·rw[← hn,numAt_eq];exact getD_mem (by rw[List.length_map,Array.length_toList];omega)
 ·rw[← hn] at ha
  obtain⟨j,hj,rfl⟩:=mem_getD ha
  rw[List.length_map,Array.length_toList] at hj
  rw[← numAt_eq];exact h2 j (by omega)
noncomputable def tF3(t1:TE)(c:Str)(t2:TE):TE:=fun σ H Q=>t1 σ H fun x H1=>∃ n:Int,x=.int n∧(0≤n∧n<10 ^ 10)∧t2 σ H1 fun y H2=>∃ z:Str,y=.str z∧c.length+z.length≤1000000∧Q (.str (nT n++c++z)) H2
theorem pe_f3{X:Cx}{a b:Expr}{t1 t2:TE}{c:Str}{k}{p1 p2 p3 pos:Pos}(h1:PE X a t1)(h2:PE X b t2)(hc:c.length≤1000:=by decide +kernel):PE X (.JoinedStr [.FormattedValue a (-1) none p1,.Constant (.str c) k p2,.FormattedValue b (-1) none p3] pos) (tF3 t1 c t2):=by
 intro pins s σ H Q I h
 refine wpAny_JoinedStr ?_
 show wpAny _ _ (eval (.FormattedValue a (-1) none p1) X.env) _ _ s
 refine wpAny_FormattedValue_plain (thn (h1 pins s σ H _ I h) fun v s1 ⟨x,H1,I1,rx,n,ex,hn,q⟩=>?_)
 subst ex
 obtain⟨t,rfl⟩:=rx
 have hl:=PySem.W.KT.len_num hn.1 hn.2
 have hsz:sizeLine=16777216:=sizeLine_eq
 refine wpAny_formatField_int (log_small ⟨by omega,by omega⟩) ⟨_,_,rfl,?_,?_⟩
 ·rw[PySem.W.KT.empty_app]
  show (Str.ofString (toString n)).length≤_
  omega
 rw[PySem.W.KT.empty_app]
 show wpAny _ _ (eval (.Constant (.str c) k p2) X.env) _ _ _
 have I2:=I1.tok (s1.toks+1+1)
 refine wpAny_Constant_str ⟨c,_,rfl,?_,?_⟩
 ·rw[Str.length_append]
  show (Str.ofString (toString n)).length+_≤_
  omega
 have I3:=I1.tok (s1.toks+1+1+1)
 show wpAny _ _ (eval (.FormattedValue b (-1) none p3) X.env) _ _ _
 refine wpAny_FormattedValue_plain (thn (h2 pins _ σ H1 _ I3 q) fun v s2 ⟨y,H2,I4,ry,z,ey,hz,q2⟩=>?_)
 subst ey
 obtain⟨t',rfl⟩:=ry
 have fin:∀ (t:Tok) (k:Nat),∃ y u,Value.str z t=.str y u∧(Str.ofString (toString n)++c++y).length≤sizeLine∧Joins (model X.prog X.w) X.A X.xe [] (Str.ofString (toString n)++c++y) (fun out s₁=>out.length≤sizeLine∧EP X pins σ Q (.str out s₁.toks) { s₁ with toks:=s₁.toks+1 }) { s2 with toks:=k }:=fun t k=>by
  have hlen:(Str.ofString (toString n)++c++z).length≤sizeLine:=by rw[Str.length_append,Str.length_append];omega
  exact⟨z,t,rfl,hlen,hlen,.str _,H2,I4.tok _,⟨_,rfl⟩,q2⟩
 exact wpAny_formatField_str (fin t' s2.toks) (fin s2.toks (s2.toks+1)) (by omega)
end L2
namespace VL
open PySem PySem.Spec L2
variable[Tabs]
section
variable{K:W.Frag}{E:FK}{X:Exc→Sl→Prop}{ρ:Sl}{Q:TV→Prop}{DV:VEnds}{ta tb tc te ti:TE}{a b:TV}{n:Nat}
theorem bi_strI{n:Int}(ha:a.data=.int n)(hn:-(2 ^ 64)≤n∧n≤2 ^ 64)(q:Q (.av (.d (.str (nT n)))))(na:NR a:=by first|exact NR.av|exact NR.bor):Bi K E X rStrI [a] Q:=fun H0 σ ρ ts as H vs QV s hl _ k=>by
 obtain⟨v,rfl,s⟩:=one_of s hl
 have r:=s.top na
 rw[ha] at r
 exact⟨n,by rw[r.int_inv],hn,k _ q _ H (s.pop.push fun _=>.str _)⟩
theorem bi_intT{z:Str}{n:Int}(ha:a.data=.str z)(hz:z.length≤640)(hn:PySem.intText? z=some n)(q:Q (.av (.d (.int n))))(na:NR a:=by first|exact NR.av|exact NR.bor):Bi K E X rIntT [a] Q:=fun H0 σ ρ ts as H vs QV s hl _ k=>by
 obtain⟨v,rfl,s⟩:=one_of s hl
 have r:=s.top na
 rw[ha] at r
 exact⟨z,n,by rw[L2.Rep.str_inv r],hz,hn,k _ q _ H (s.pop.int _)⟩
theorem Reps.ints_inv{H:Hp}:∀ {ns:List Int} {xs:List V},Reps K H xs (ns.map PyData.int)→xs=ns.map V.int
 | [],_,.nil=>rfl
 | n::ns,_,.cons r rs=>by rw[r.int_inv,Reps.ints_inv rs];rfl
theorem bi_minL{ns:List Int}(ha:a.data=.list (ns.map .int))(hne:ns≠[])(q:∀ m,m∈ns→(∀ x∈ns,m≤x)→Q (.av (.d (.int m))))(na:NR a:=by first|exact NR.av|exact NR.bor):Bi K E X (rMinL K) [a] Q:=fun H0 σ ρ ts as H vs QV s hl _ k=>by
 obtain⟨v,rfl,s⟩:=one_of s hl
 have r:=s.top na
 rw[ha] at r
 obtain⟨l,xs,rfl,h1,h2⟩:=r.list_inv
 rw[Reps.ints_inv h2] at h1
 exact⟨l,ns,rfl,h1,hne,fun m m1 m2=>k _ (q m m1 m2) _ H (s.pop.int _)⟩
theorem ev_fmt3{c:Str}(h:Ev K E X ta ρ fun a=>∃ n:Int,a.data=.int n∧NR a∧(0≤n∧n<10 ^ 10)∧Ev K E X tb ρ fun b=>∃ z:Str,b.data=.str z∧NR b∧c.length+z.length≤1000000∧Q (.av (.d (.str (nT n++c++z))))):Ev K E X (tF3 ta c tb) ρ Q:=fun H0 σ ts as H QV s x k =>
 h H0 σ ts as H _ s x fun a ⟨n,ea,na,hn,h2⟩ v H1 s1=>by
  have r:=s1.top na
  rw[ea] at r
  refine⟨n,r.int_inv,hn,h2 H0 σ _ _ H1 _ s1 x fun b ⟨z,eb,nb,hz,q⟩ w H2 s2=>?_⟩
  have r:=s2.top nb
  rw[eb] at r
  exact⟨z,L2.Rep.str_inv r,hz,k _ q _ _ (s2.pop.pop.push fun _=>.str _)⟩
theorem ev_part(h:Ev K E X ta ρ fun a=>∃ y:Str,a.data=.str y∧NR a∧Ev K E X tb ρ fun b=>∃ z:Str,b.data=.str z∧NR b∧0<z.length∧y.length≤1000000∧Q (.av (.d (.tuple [.str (Txt.partition y z).1,.str (Txt.partition y z).2.1,.str (Txt.partition y z).2.2])))):Ev K E X (tBM K "str" rPart ta (tCons tb tNil)) ρ Q:=fun H0 σ ts as H QV s x k =>
 h H0 σ ts as H _ s x fun a ⟨y,ea,na,h2⟩ v H1 s1=>by
  have r:=s1.top na
  rw[ea] at r
  have e:=L2.Rep.str_inv r
  subst e
  refine⟨rfl,h2 H0 σ _ _ H1 _ s1 x fun b ⟨z,eb,nb,hz,hy,q⟩ w H2 s2=>?_⟩
  have r:=s2.top nb
  rw[eb] at r
  have e:=L2.Rep.str_inv r
  subst e
  exact⟨y,z,rfl,rfl,hz,Nat.le_of_lt (small6 hy),fun p hp=>k _ q _ _ ((s2.pop.pop.strs [(Txt.partition y z).1,(Txt.partition y z).2.1,(Txt.partition y z).2.2]).newT (by simp) hp)⟩
theorem ev_split(h:Ev K E X ta ρ fun a=>∃ y:Str,a.data=.str y∧NR a∧Ev K E X tb ρ fun b=>∃ z:Str,b.data=.str z∧NR b∧0<z.length∧y.length≤1000000∧Q (.av (.own ((Txt.split y z).map fun w=>.d (.str w))))):Ev K E X (tBM K "str" rSplit ta (tCons tb tNil)) ρ Q:=fun H0 σ ts as H QV s x k =>
 h H0 σ ts as H _ s x fun a ⟨y,ea,na,h2⟩ v H1 s1=>by
  have r:=s1.top na
  rw[ea] at r
  have e:=L2.Rep.str_inv r
  subst e
  refine⟨rfl,h2 H0 σ _ _ H1 _ s1 x fun b ⟨z,eb,nb,hz,hy,q⟩ w H2 s2=>?_⟩
  have r:=s2.top nb
  rw[eb] at r
  have e:=L2.Rep.str_inv r
  subst e
  exact⟨y,z,rfl,rfl,hz,by rw[sizeLine_eq];omega,fun p hp=>k _ q _ _ ((s2.pop.pop.strs (Txt.split y z)).new (by simp) hp)⟩
noncomputable def ItOkF(H1:Hp)(K:W.Frag)(J:It)(u:V)(z:PyData)(n:Nat)(f:Nat→PyData):Prop :=
 ∀ G H,Same H1 H→Same G H→Rep K G u z→(∀ i,i<n→J.go i H∧∀ x H',J.yld i H x H'→Same H H'∧∀ G',Same G G'→(∀ b o,H' b=some o→H b=none→G' b=some o)→Rep K G' x (f i))∧∀ i,n≤i→J.stop i H
theorem SR.turnF{H0 H:Hp}{σ:L2.St}{ts:List V}{as:List TV}{J:It}{u:V}{z:PyData}{n i:Nat}{f:Nat→PyData}(s:SR K H0 σ ρ (u::ts) (.av (.d z)::as) H)(ok:ItOkF H0 K J u z n f)(hi:i<n):J.go i H∧∀ x H',J.yld i H x H'→SR K H0 σ ρ (x::u::ts) (.av (.d (f i))::.av (.d z)::as) H':=by
 have s0:=s
 obtain⟨⟨p,q,h1,h2,h3,h4⟩,e⟩:=s
 have hL:=SR.lsts h1 h2
 cases h2 with
 | @cons _ _ _ _ q1 q2 _ r rs eq =>
 cases r with
 | av r =>
 cases r with
 | d rp w =>
  obtain⟨g1,_⟩:=ok _ H e hid_le rp
  obtain⟨g2,g3⟩:=g1 i hi
  refine⟨g2,fun x H' y=>?_⟩
  obtain⟨e1,e2⟩:=g3 x H' y
  have s1:=s0.ext e1
  obtain⟨⟨p',q',k1,k2,k3,k4⟩,e'⟩:=s1
  have m:Same (hid H p q) (hid H' p q):=same_hid e1
  refine⟨⟨p,q,h1.mono m (fun b o _=>e1 b o),.cons (.av (.d (p:=fun _=>0) (e2 (hid H' p q) m fun b o hb hn=>?_) fun _=>rfl)) (.cons (.av (.d (rp.same m) w)) (rs.mono m e1) eq) (fun b=>by simp),h3,h4⟩,e'⟩
  unfold hid
  rw[if_pos]
  ·exact hb
  ·rcases Nat.eq_zero_or_pos (p b+q b) with c|c
   ·exact c
   ·obtain⟨_,c,_⟩:=hL b c;rw[hn] at c;cases c
theorem ev_compZ{α:Type}{cap:List (Option Nat)}{A:TA}{g:TG}(h:Ea K E X A ρ fun bs=>∃ (a b:TV) (xs:List α) (e:α→PyData) (ns:List Int) (y:Nat→AV),bs=[a,b]∧a.data=.tuple (xs.map e)∧b.data=.tuple (ns.map .int)∧NR a∧NR b∧xs.length=ns.length∧xs.length≤1000000 ∧
  (∀ i (hi:i<xs.length) (hj:i<ns.length),Gv K g (.tuple [e xs[i],.int ns[i]]) (capV cap ρ) fun ρ'=>Wk ρ' (capV cap ρ)∧Ev K E NE te ρ' fun a=>a.sto=some (y i))∧∃ a,Got (.own ((List.range xs.length).map y)) a∧Q a):Ev K E X (tComp cap (iZipT K A) g tAll te) ρ Q:=fun H0 σ ts as H QV s x k =>
 h H0 σ ts as H _ s x fun bs ⟨a,b,xs,e,ns,y,eb,ea,ebd,na,nb,hl,hz,turn,fin⟩ vs H1 s1 hlen=>by
  subst eb
  obtain⟨v,w,rfl,s1⟩:=two_of s1 hlen
  have r1:=s1.top na
  have r2:=s1.pop.top nb
  rw[ea] at r1
  rw[ebd] at r2
  obtain⟨l,us,rfl,h1,h2⟩:=r1.tuple_inv
  obtain⟨m,ws,rfl,h3,h4⟩:=r2.tuple_inv
  have ew:=Reps.ints_inv h4
  subst ew
  have hu:us.length=xs.length:=by have:=h2.length;rwa [List.length_map] at this
  refine⟨l,m,us,ns.map V.int,rfl,h1,h3,by rw[hu,List.length_map,hl],?_⟩
  rw[hu]
  intro D hD
  have ok:ItOkF H1 K (Itz K l m xs.length) (.ref l) (.tuple (xs.map e)) xs.length fun i=>.tuple [(xs.map e).getD i .none,.int (ns.getD i 0)]:=by
   intro G H2 s12 sm rp
   obtain⟨l',ys,e',g3,g4⟩:=rp.tuple_inv
   cases e'
   have g5:=sm.tupS g3
   have g6:=s12.tupS h3
   have gl:ys.length=xs.length:=by have:=g4.length;rwa [List.length_map] at this
   refine⟨fun i hi=>?_,fun i hi=>⟨ys,g5,gl,hi⟩⟩
   obtain⟨w,g7,g8⟩:=g4.get (i:=i) (d:=(xs.map e).getD i .none) (by rw[List.getD_eq_getElem?_getD,List.getElem?_eq_getElem (by rw[List.length_map];exact hi)];rfl)
   have hj:i<ns.length:=by omega
   have g9:(ns.map V.int)[i]?=some (.int (ns.getD i 0)):=by rw[List.getElem?_map,List.getElem?_eq_getElem hj,List.getD_eq_getElem?_getD,List.getElem?_eq_getElem hj];rfl
   refine⟨⟨ys,ns.map V.int,w,_,g5,g6,gl,by rw[List.length_map,hl],g7,g9⟩,fun x H' ⟨p,x0,y0,hp,e1,e2,e3,e4⟩=>?_⟩
   subst e1 e2
   have e3:=e3 ys g5
   have e4:=e4 _ g6
   rw[g7] at e3
   rw[g9] at e4
   cases e3
   cases e4
   exact⟨same_new hp,fun G' m k=>.tup (k p _ upd_same hp) (.cons (g8.same m) (.cons (.int _) .nil))⟩
  have xo:XOk K E NE H1:=XOk.ne (x.t.same s1.same)
  have sD:Same H1 (upd H1 D (.lst [])):=same_new hD
  have st:Stb [TV.av (.d (.tuple (xs.map e)))]:=Stb.cons Stb.nil
  have start:SR K H1 (capS cap σ) (capV cap ρ) [.ref D,.ref l] [.av (.own []),.av (.d (.tuple (xs.map e)))] (upd H1 D (.lst [])):=by
   have m:Same H1 (hid (upd H1 D (.lst [])) (fun _=>0) fun b=>if b=D then 1 else 0):=fun b o e=>by
    have hb:b≠D:=ne_of_none e hD
    unfold hid
    simp[hb]
    rw[upd_ne hb]
    exact e
   have r1:=s1.top na
   rw[ea] at r1
   refine⟨⟨fun _=>0,fun b=>if b=D then 1 else 0,RSl.cap s1 m cap,.cons (.av (.own upd_same (.nil (p:=fun _=>0) fun _=>rfl) (q:=fun b=>if b=D then 1 else 0) fun b=>by simp)) (.cons (.av (.d (p:=fun _=>0) (r1.same m) fun _=>rfl)) (.nil (p:=fun _=>0) fun _=>rfl) (r:=fun _=>0) fun b=>by simp) (fun b=>by simp),fun b=>by simp;split<;>omega,fun b z=>?_⟩,sD⟩
   by_cases hb:b=D
   ·rw[hb];exact hD
   ·simp[hb] at z
  refine⟨fun i m σ' H'=>m=xs.length-i∧i≤xs.length∧SR K H1 σ' (capV cap ρ) [.ref D,.ref l] [.av (.own ((List.range i).map y)),.av (.d (.tuple (xs.map e)))] H',⟨xs.length,by simp,Nat.zero_le _,start⟩,?_⟩
  rintro i m σ2 H2 ⟨rfl,hi,s2⟩
  by_cases hlt:i<xs.length
  ·obtain⟨g1,g2⟩:=s2.swap.turnF ok hlt
   refine .inr ⟨g1,fun σ' H'=>SR K H1 σ' (capV cap ρ) [.ref D,.ref l] [.av (.own ((List.range (i+1)).map y)),.av (.d (.tuple (xs.map e)))] H',fun σ' H' p=>⟨xs.length-(i+1),by omega,rfl,hlt,p⟩,fun w H3 hw=>?_⟩
   have s3:=g2 w H3 hw
   have hj:i<ns.length:=by omega
   have ef:(PyData.tuple [(xs.map e).getD i .none,.int (ns.getD i 0)])=.tuple [e xs[i],.int ns[i]]:=by
    rw[getD_map hlt,List.getD_eq_getElem?_getD,List.getElem?_eq_getElem hj];rfl
   rw[ef] at s3
   refine turn i hlt hj H1 σ2 _ _ H3 w _ s3 fun ρ4 ⟨wk,ev⟩ σ4 H4 s4=>?_
   unfold tAll
   dsimp only
   rw[if_pos rfl]
   refine ev H1 σ4 _ _ H4 _ s4 xo fun a e2 z H6 s6=>?_
   have s7:=(s6.sto e2)
   have s8:SR K H1 σ4 ρ4 [z,.ref D,.ref l] [.av (y i),.av (.own ((List.range i).map y)),.av (.d (.tuple (xs.map e)))] H6:=by
    obtain⟨⟨p,q,k1,k2,k3,k4⟩,e⟩:=s7
    refine⟨⟨p,q,k1,?_,k3,k4⟩,e⟩
    cases k2 with
    | cons r rs eq=>exact .cons r rs.swap eq
   obtain⟨vs,f1,f2,f3⟩:=s8.snocT st
   refine⟨vs,f1,small6 ?_,?_⟩
   ·rw[f2,List.length_map,List.length_range];omega
   rw[List.range_succ,List.map_append]
   exact wk _ _ _ _ _ _ f3
  ·have e0:i=xs.length:=by omega
   subst e0
   obtain⟨a,hg,q⟩:=fin
   have r1:=s2.swap.top NR.av
   exact .inl ⟨(ok _ _ s2.same (.refl _) r1).2 _ (Nat.le_refl _),k _ q _ _ (s1.pop.pop.gotG s2.rs hg)⟩
end
end VL
end
section
namespace L2
open PySem PySem.Spec PyProof.Rows
noncomputable def hAs(i:Nat)(th:TS)(D:Ends)(c:Value)(d:Option Addr)(σ:St)(H:Hp):Prop:=∀ ea,H ea=none→th ⟨fun σ1 H1=>D.nx (σ1.set i none) H1,D.rt,fun σ1 H1=>D.bk (σ1.set i none) H1,fun σ1 H1=>D.ct (σ1.set i none) H1⟩ (σ.set i (some (.ref ea))) (upd H ea (hX ea c d))
noncomputable def tTryAs2(K:W.Frag)(C C':Value)(i:Nat)(tb:FK→TS)(th th':TS):TS:=fun D σ H =>
 tb (fun c d σ' H'=>(PySem.W.exmOne K c C=some true∧hAs i th D c d σ' H')∨(PySem.W.exmOne K c C=some false∧PySem.W.exmOne K c C'=some true∧hAs i th' D c d σ' H')) D σ H
section
variable{X:Cx}{i:Nat}{n x x':Str}{C C':Value}{np hpos np' hpos' pos:Pos}{body suite suite':List Stmt}{b₀ b₁:Stmt}{tb:FK→TS}{th th':TS}
theorem ps_tryAs2(hst:X.stack=X.env::X.outer)(hfl:X.env.frame=some X.env.locals)(hN:X.N.Nodup)(hi:X.N[i]?=some n)(hn:X.env.scope.names.lookup n=some .local)(hg:Gl X x)(hm:X.mg x=some C)(hg':Gl X x')(hm':X.mg x'=some C')
  (hb:∀ pins F,PSs ((X.pinned pins).wish (XE (X.pinned pins) F)) body (tb F)) (hh:∀ ea pins,PSs ((X.pinned pins).inX ea).nox (b₀::suite) th) (hh':∀ ea pins,PSs ((X.pinned pins).inX ea).nox (b₁::suite') th') (hfm:∀ ea,(X.A.mark (some (.ref ea))).frames=X.A.frames:=by intro _;rfl) (hd:(x == ("__debug__" : Str))=false:=by decide) (hd':(x' == ("__debug__" : Str))=false:=by decide) :
  PS X (.Try body [.ExceptHandler (some (.Name x np)) (some n) (b₀::suite) hpos,.ExceptHandler (some (.Name x' np')) (some n) (b₁::suite') hpos'] [] [] pos) (tTryAs2 X.K C C' i tb th th'):=by
 intro pins s σ H D I h
 have I1:Inv (X.pinned pins) [] σ H s:=I.toPin
 refine wpAny_Try_except (wpAny_mono (hb pins _ [] s σ H D (I1.wish _) h) (fun f s1 q=>?_) fun e s1 q=>?_)
 ·cases f with
  | next=>obtain⟨σ',H',J,q⟩:=q;exact wpAny_execs_nil ⟨σ',H',J.unPin I.ok,q⟩
  | brk=>obtain⟨σ',H',J,q⟩:=q;exact⟨σ',H',J.unPin I.ok,q⟩
  | cont=>obtain⟨σ',H',J,q⟩:=q;exact⟨σ',H',J.unPin I.ok,q⟩
  | ret u=>obtain⟨v,σ',H',J,r,q⟩:=q;exact⟨v,σ',H',J.unPin I.ok,r,q⟩
 ·obtain⟨ea,cls,d,tb0,B,H1,σ1,rfl,x1,J1,hB,g,hor⟩:=q
  have hfr:X.A.frames=some (X.env::X.outer):=by rw[I.ok.frames,hst]
  have e1:Exn tb0 B (X.env::X.outer) ea cls d s1.heap:=by rw[← hst];exact x1
  refine exn_note hfr hfl e1 fun h2 e2 u2=>exn_flight (s:={ s1 with heap:=h2 }) e2 fun h3 e3 u3=>?_
  have x2:Exn true B X.stack ea cls d h2:=by rw[hst];exact e2
  have x3:Exn true B X.stack ea cls d h3:=by rw[hst];exact e3
  have J2:Inv (X.pinned pins) [] σ1 H1 { s1 with heap:=h2 }:=J1.fly x1 x2.stays u2 hB g
  have J3:Inv (X.pinned pins) [] σ1 H1 { s1 with heap:=h3 }:=J2.fly (s:={ s1 with heap:=h2 }) x2 x3.stays u3 hB g
  have J4:Inv ((X.pinned pins).inX ea) [] σ1 H1 { s1 with heap:=h3 }:=J3.toX ea (hfm ea)
  obtain⟨oe,vs,he,hc,_⟩:=x3.ob
  have LT:PySem.W.Looks (model X.prog X.w) h3 (typeOf (.ref ea)) cls:=by rw[← hc];exact (PySem.W.Looks.ld he).andThen .now
  rcases hor with⟨hex,hth⟩|⟨hno,hex,hth⟩
  ·refine wpAny_handleBy_cons (codeAny_handlers_test (ld_glob (X:=(X.pinned pins).inX ea) J4 hg hm ((PySem.W.exm_one (K:=X.K) (h:=h3) J3.kIn LT hex).here ?_) hd)) (by intro q;cases q)
   refine codeAny_handlers_suite_as (exn_flight (s:={ s1 with heap:=h3 }) x3 fun h5 x5 u5=>?_)
   have J5:Inv (X.pinned pins) [] σ1 H1 { s1 with heap:=h5 }:=J3.fly (s:={ s1 with heap:=h3 }) x3 x5.stays u5 hB g
   obtain⟨hne,J6⟩:=J5.see (s:={ s1 with heap:=h5 }) x5 hB g
   have J7:Inv ((X.pinned pins).inX ea) [] σ1 (upd H1 ea (hX ea cls d)) { s1 with heap:=h5 }:=J6.toX ea (hfm ea)
   refine store_ok (X:=(X.pinned pins).inX ea) (v:=.ref ea) J7 hN hi (.inl hn) rfl (fun s8 J8=>?_) (.inr hn)
   refine wpAny_mono (hh ea pins [] s8 _ _ _ (J8.wish _) (hth ea hne)) (fun f s9 q=>?_) fun _ _ z=>z.elim
   have ub:∀ {σ9:St} {H9:Hp} {Q:Unit→Shared→Prop} {E:Value→Shared→Prop},Inv (((X.pinned pins).inX ea).wish fun _ _=>False) [] σ9 H9 s9→(∀ s',Inv X pins (σ9.set i none) H9 s'→Q () s')→wpAny (model X.prog X.w) X.A (do bindName X.env n .none;unbindBehindTheSuite X.env n hpos) Q E s9:=fun {σ9 H9 Q E} J q=>by
    have J':Inv X pins σ9 H9 s9:=⟨I.ok,J.os,J.bare,J.base,J.loc,J.cell,J.free,J.freeC,fun p hp=>J.pin p (by simpa using hp),J.hok,J.len⟩
    exact unbind_ok J' hN hi hn q
   cases f with
   | next=>obtain⟨σ',H',J,q⟩:=q;exact ub J fun s' J'=>⟨_,H',J',q⟩
   | brk=>obtain⟨σ',H',J,q⟩:=q;exact ub J fun s' J'=>⟨_,H',J',q⟩
   | cont=>obtain⟨σ',H',J,q⟩:=q;exact ub J fun s' J'=>⟨_,H',J',q⟩
   | ret u=>obtain⟨v,σ',H',J,r,q⟩:=q;exact ub J fun s' J'=>⟨v,_,H',J',r,q⟩
  ·refine wpAny_handleBy_cons (codeAny_handlers_test (ld_glob (X:=(X.pinned pins).inX ea) J4 hg hm ((PySem.W.exm_one (K:=X.K) (h:=h3) J3.kIn LT hno).here ?_) hd)) (by intro q;cases q)
   refine wpAny_handleBy_cons (codeAny_handlers_test (ld_glob (X:=(X.pinned pins).inX ea) J4 hg' hm' ((PySem.W.exm_one (K:=X.K) (h:=h3) J3.kIn LT hex).here ?_) hd')) (by intro q;cases q)
   refine codeAny_handlers_suite_as (exn_flight (s:={ s1 with heap:=h3 }) x3 fun h5 x5 u5=>?_)
   have J5:Inv (X.pinned pins) [] σ1 H1 { s1 with heap:=h5 }:=J3.fly (s:={ s1 with heap:=h3 }) x3 x5.stays u5 hB g
   obtain⟨hne,J6⟩:=J5.see (s:={ s1 with heap:=h5 }) x5 hB g
   have J7:Inv ((X.pinned pins).inX ea) [] σ1 (upd H1 ea (hX ea cls d)) { s1 with heap:=h5 }:=J6.toX ea (hfm ea)
   refine store_ok (X:=(X.pinned pins).inX ea) (v:=.ref ea) J7 hN hi (.inl hn) rfl (fun s8 J8=>?_) (.inr hn)
   refine wpAny_mono (hh' ea pins [] s8 _ _ _ (J8.wish _) (hth ea hne)) (fun f s9 q=>?_) fun _ _ z=>z.elim
   have ub:∀ {σ9:St} {H9:Hp} {Q:Unit→Shared→Prop} {E:Value→Shared→Prop},Inv (((X.pinned pins).inX ea).wish fun _ _=>False) [] σ9 H9 s9→(∀ s',Inv X pins (σ9.set i none) H9 s'→Q () s')→wpAny (model X.prog X.w) X.A (do bindName X.env n .none;unbindBehindTheSuite X.env n hpos') Q E s9:=fun {σ9 H9 Q E} J q=>by
    have J':Inv X pins σ9 H9 s9:=⟨I.ok,J.os,J.bare,J.base,J.loc,J.cell,J.free,J.freeC,fun p hp=>J.pin p (by simpa using hp),J.hok,J.len⟩
    exact unbind_ok J' hN hi hn q
   cases f with
   | next=>obtain⟨σ',H',J,q⟩:=q;exact ub J fun s' J'=>⟨_,H',J',q⟩
   | brk=>obtain⟨σ',H',J,q⟩:=q;exact ub J fun s' J'=>⟨_,H',J',q⟩
   | cont=>obtain⟨σ',H',J,q⟩:=q;exact ub J fun s' J'=>⟨_,H',J',q⟩
   | ret u=>obtain⟨v,σ',H',J,r,q⟩:=q;exact ub J fun s' J'=>⟨v,_,H',J',r,q⟩
end
end L2
namespace VL
open PySem PySem.Spec PyProof.Rows L2
variable[Tabs]
section
variable{K:W.Frag}{F:FK}{X:Exc→Sl→Prop}{ρ:Sl}{DV:VEnds}
theorem sv_tryAs2{X':Exc→Sl→Prop}{C C':Value}{i:Nat}{tb:FK→TS}{th th':TS}(hb:∀ F',Sv K F' X' (tb F') ρ DV)
  (hx:∀ e ρ',X' e ρ'→noLsts (e.fs.map Prod.snd)=true∧i<ρ'.length∧((PySem.W.exmOne K (.ref e.cls) C=some true∧Sv K F X th (ρ'.set i (some (.d (dX e)))) ⟨fun ρ2=>DV.nx (ρ2.set i none),DV.rt,fun ρ2=>DV.bk (ρ2.set i none),fun ρ2=>DV.ct (ρ2.set i none)⟩) ∨
   (PySem.W.exmOne K (.ref e.cls) C=some false∧PySem.W.exmOne K (.ref e.cls) C'=some true∧Sv K F X th' (ρ'.set i (some (.d (dX e)))) ⟨fun ρ2=>DV.nx (ρ2.set i none),DV.rt,fun ρ2=>DV.bk (ρ2.set i none),fun ρ2=>DV.ct (ρ2.set i none)⟩))) :
  Sv K F X (tTryAs2 K C C' i tb th th') ρ DV:=fun H0 σ ts as H D st s x f=>by
 obtain⟨H1,s1,b,b1,m⟩:=s.aside st
 refine hb _ H1 σ [] [] H D Stb.nil s1 ⟨fun e ρ' z c d σ' H' s' xr=>?_,x.t.same m⟩ (f.aside b b1)
 obtain⟨nl,hi,h2⟩:=hx e ρ' z
 have hc:=xr.1
 have f1:=f.aside b b1
 have run:∀ {t:TS},Sv K F X t (ρ'.set i (some (.d (dX e)))) ⟨fun ρ2=>DV.nx (ρ2.set i none),DV.rt,fun ρ2=>DV.bk (ρ2.set i none),fun ρ2=>DV.ct (ρ2.set i none)⟩→hAs i t D c d σ' H':=fun {t} h ea hea =>
  h H1 _ [] [] _ _ Stb.nil ((s'.caught hea xr nl).store hi) (x.aside m b) ⟨fun ρ2 q σ2 H2 s2=>f1.nx _ q _ _ s2.dropS,fun ρ2 q σ2 H2 s2=>f1.bk _ q _ _ s2.dropS,fun ρ2 q σ2 H2 s2=>f1.ct _ q _ _ s2.dropS,f1.rt⟩
 rcases h2 with⟨h1,h2⟩|⟨h0,h1,h2⟩
 ·exact .inl ⟨by rw[hc];exact h1,run h2⟩
 ·exact .inr ⟨by rw[hc];exact h0,by rw[hc];exact h1,run h2⟩
end
section
variable{K:W.Frag}{E:FK}{X:Exc→Sl→Prop}{ρ:Sl}{Q:TV→Prop}{a b:TV}
theorem in_S{y z:Str}(ha:a.data=.str y)(hb:b.data=.str z)(q:Q (.av (.d (.bool (Txt.contains z y)))))(na:NR a:=by first|exact NR.av|exact NR.bor)(nb:NR b:=by first|exact NR.av|exact NR.bor):Op K E X (rInA K false) a b Q:=fun H0 σ ρ ts as H u v QV s _ k=>by
 have h1:=s.pop.top na
 have h2:=s.top nb
 rw[ha] at h1
 rw[hb] at h2
 exact .inr (.inr ⟨y,z,L2.Rep.str_inv h1,L2.Rep.str_inv h2,k _ q _ H (s.pop.pop.bl _)⟩)
theorem nin_S{y z:Str}(ha:a.data=.str y)(hb:b.data=.str z)(q:Q (.av (.d (.bool (!Txt.contains z y)))))(na:NR a:=by first|exact NR.av|exact NR.bor)(nb:NR b:=by first|exact NR.av|exact NR.bor):Op K E X (rInA K true) a b Q:=fun H0 σ ρ ts as H u v QV s _ k=>by
 have h1:=s.pop.top na
 have h2:=s.top nb
 rw[ha] at h1
 rw[hb] at h2
 exact .inr (.inr ⟨y,z,L2.Rep.str_inv h1,L2.Rep.str_inv h2,k _ q _ H (s.pop.pop.bl _)⟩)
end
end VL
end
section
set_option exponentiation.threshold 2000
namespace K08
open PySem L2 VL
noncomputable def top(i:Nat):Stmt:=PySem.Challenge.pw_figurewheel_k08_machines_written.main.body.getD i (.Pass ⟨0,0,0,0⟩)
noncomputable abbrev s_NoMachine_init:Stmt:=(clsBody (top 2)).getD 0 (.Pass ⟨0,0,0,0⟩)
theorem sc_NoMachine_init:FnScope ["self", "word", "number"] ["self", "word", "number"] (defScope s_NoMachine_init):=⟨rfl,rfl,rfl,by decide +kernel,rfl,by decide +kernel,by decide +kernel⟩
noncomputable abbrev s_NoText_init:Stmt:=(clsBody (top 3)).getD 0 (.Pass ⟨0,0,0,0⟩)
theorem sc_NoText_init:FnScope ["self", "at"] ["self", "at"] (defScope s_NoText_init):=⟨rfl,rfl,rfl,by decide +kernel,rfl,by decide +kernel,by decide +kernel⟩
noncomputable abbrev s_want_counts:Stmt:=top 9
theorem sc_want_counts:FnScope ["rows", "signs"] ["rows", "signs"] (defScope s_want_counts):=⟨rfl,rfl,rfl,by decide +kernel,rfl,by decide +kernel,by decide +kernel⟩
noncomputable abbrev s_want_letters:Stmt:=top 10
theorem sc_want_letters:FnScope ["rows", "room", "fewest", "most", "many"] ["rows", "room", "fewest", "most"] (defScope s_want_letters):=⟨rfl,rfl,rfl,by decide +kernel,rfl,by decide +kernel,by decide +kernel⟩
noncomputable abbrev s_want_rooms:Stmt:=top 11
theorem sc_want_rooms:FnScope ["rows", "room", "number"] ["rows", "room"] (defScope s_want_rooms):=⟨rfl,rfl,rfl,by decide +kernel,rfl,by decide +kernel,by decide +kernel⟩
noncomputable abbrev s_is_sign:Stmt:=top 12
theorem sc_is_sign:FnScope ["sign"] ["sign"] (defScope s_is_sign):=⟨rfl,rfl,rfl,by decide +kernel,rfl,by decide +kernel,by decide +kernel⟩
noncomputable abbrev s_want_signs:Stmt:=top 13
theorem sc_want_signs:FnScope ["signs", "index", "sign"] ["signs"] (defScope s_want_signs):=⟨rfl,rfl,rfl,by decide +kernel,rfl,by decide +kernel,by decide +kernel⟩
noncomputable abbrev s_want_parts:Stmt:=top 14
theorem sc_want_parts:FnScope ["rows", "signs", "fewest", "most", "room"] ["rows", "signs", "fewest", "most"] (defScope s_want_parts):=⟨rfl,rfl,rfl,by decide +kernel,rfl,by decide +kernel,by decide +kernel⟩
noncomputable abbrev s_in_tuples:Stmt:=top 15
theorem sc_in_tuples:FnScope ["rows", "signs"] ["rows", "signs"] (defScope s_in_tuples):=⟨rfl,rfl,rfl,by decide +kernel,rfl,by decide +kernel,by decide +kernel⟩
noncomputable abbrev s_machine_of:Stmt:=top 16
theorem sc_machine_of:FnScope ["rows", "signs"] ["rows", "signs"] (defScope s_machine_of):=⟨rfl,rfl,rfl,by decide +kernel,rfl,by decide +kernel,by decide +kernel⟩
noncomputable abbrev s_is_figure:Stmt:=top 20
theorem sc_is_figure:FnScope ["word"] ["word"] (defScope s_is_figure):=⟨rfl,rfl,rfl,by decide +kernel,rfl,by decide +kernel,by decide +kernel⟩
noncomputable abbrev s_is_number:Stmt:=top 21
theorem sc_is_number:FnScope ["word", "most"] ["word", "most"] (defScope s_is_number):=⟨rfl,rfl,rfl,by decide +kernel,rfl,by decide +kernel,by decide +kernel⟩
noncomputable abbrev s_room_text:Stmt:=top 22
theorem sc_room_text:FnScope ["row", "sign", "numbers"] ["row", "sign"] (defScope s_room_text):=⟨rfl,rfl,rfl,by decide +kernel,rfl,by decide +kernel,by decide +kernel⟩
noncomputable abbrev s_machine_text:Stmt:=top 23
theorem sc_machine_text:FnScope ["machine"] ["machine"] (defScope s_machine_text):=⟨rfl,rfl,rfl,by decide +kernel,rfl,by decide +kernel,by decide +kernel⟩
noncomputable abbrev s_is_room:Stmt:=top 24
theorem sc_is_room:FnScope ["word", "parts"] ["word"] (defScope s_is_room):=⟨rfl,rfl,rfl,by decide +kernel,rfl,by decide +kernel,by decide +kernel⟩
noncomputable abbrev s_read_row:Stmt:=top 25
theorem sc_read_row:FnScope ["word"] ["word"] (defScope s_read_row):=⟨rfl,rfl,rfl,by decide +kernel,rfl,by decide +kernel,by decide +kernel⟩
noncomputable abbrev s_read_sign:Stmt:=top 26
theorem sc_read_sign:FnScope ["word"] ["word"] (defScope s_read_sign):=⟨rfl,rfl,rfl,by decide +kernel,rfl,by decide +kernel,by decide +kernel⟩
noncomputable abbrev s_read_machine:Stmt:=top 27
theorem sc_read_machine:FnScope ["text", "words", "index", "word"] ["text"] (defScope s_read_machine):=⟨rfl,rfl,rfl,by decide +kernel,rfl,by decide +kernel,by decide +kernel⟩
noncomputable abbrev s_law_cell_at:Stmt:=top 29
theorem sc_law_cell_at:FnScope ["_law_script", "_law_k"] ["_law_script", "_law_k"] (defScope s_law_cell_at):=⟨rfl,rfl,rfl,by decide +kernel,rfl,by decide +kernel,by decide +kernel⟩
noncomputable abbrev s_law_spread:Stmt:=top 30
theorem sc_law_spread:FnScope ["_law_script", "_law_k", "_law_cell"] ["_law_script", "_law_k"] (defScope s_law_spread):=⟨rfl,rfl,rfl,by decide +kernel,rfl,by decide +kernel,by decide +kernel⟩
noncomputable abbrev s_law_whole:Stmt:=top 31
theorem sc_law_whole:FnScope ["_law_found"] ["_law_found"] (defScope s_law_whole):=⟨rfl,rfl,rfl,by decide +kernel,rfl,by decide +kernel,by decide +kernel⟩
noncomputable abbrev s_law_mix:Stmt:=top 32
theorem sc_law_mix:FnScope ["_law_cell", "_law_k", "_law_most"] ["_law_cell", "_law_k", "_law_most"] (defScope s_law_mix):=⟨rfl,rfl,rfl,by decide +kernel,rfl,by decide +kernel,by decide +kernel⟩
noncomputable abbrev s_law_machine:Stmt:=top 33
theorem sc_law_machine:FnScope ["_law_cell", "_law_rooms", "_law_letters", "_law_most", "_law_rows", "_law_room"] ["_law_cell", "_law_rooms", "_law_letters", "_law_most"] (defScope s_law_machine):=⟨rfl,rfl,rfl,by decide +kernel,rfl,by decide +kernel,by decide +kernel⟩
noncomputable abbrev s_law_is_machine:Stmt:=top 34
theorem sc_law_is_machine:FnScope ["_law_found", "_law_row", "_law_one"] ["_law_found"] (defScope s_law_is_machine):=⟨rfl,rfl,rfl,by decide +kernel,rfl,by decide +kernel,by decide +kernel⟩
noncomputable abbrev s_law_frozen:Stmt:=top 35
theorem sc_law_frozen:FnScope ["_law_made"] ["_law_made"] (defScope s_law_frozen):=⟨rfl,rfl,rfl,by decide +kernel,rfl,by decide +kernel,by decide +kernel⟩
noncomputable abbrev s_law_text:Stmt:=top 36
theorem sc_law_text:FnScope ["_law_made", "_law_words", "_law_k", "_law_numbers"] ["_law_made"] (defScope s_law_text):=⟨rfl,rfl,rfl,by decide +kernel,rfl,by decide +kernel,by decide +kernel⟩
noncomputable abbrev s_law_changed:Stmt:=top 37
theorem sc_law_changed:FnScope ["_law_text_here", "_law_way", "_law_cell", "_law_more", "_law_odd", "_law_at", "_law_sign"] ["_law_text_here", "_law_way", "_law_cell", "_law_more"] (defScope s_law_changed):=⟨rfl,rfl,rfl,by decide +kernel,rfl,by decide +kernel,by decide +kernel⟩
noncomputable abbrev s_law_number:Stmt:=top 38
theorem sc_law_number:FnScope ["_law_word", "_law_sign"] ["_law_word"] (defScope s_law_number):=⟨rfl,rfl,rfl,by decide +kernel,rfl,by decide +kernel,by decide +kernel⟩
noncomputable abbrev s_law_read:Stmt:=top 39
theorem sc_law_read:FnScope ["_law_text_here", "_law_rows", "_law_signs", "_law_at", "_law_word", "_law_numbers"] ["_law_text_here"] (defScope s_law_read):=⟨rfl,rfl,rfl,by decide +kernel,rfl,by decide +kernel,by decide +kernel⟩
noncomputable abbrev s_law_fault:Stmt:=top 40
theorem sc_law_fault:FnScope ["_law_rows", "_law_signs", "_law_k", "_law_other"] ["_law_rows", "_law_signs"] (defScope s_law_fault):=⟨rfl,rfl,rfl,by decide +kernel,rfl,by decide +kernel,by decide +kernel⟩
noncomputable abbrev s_law_kinds:Stmt:=top 41
theorem sc_law_kinds:FnScope ["_law_text_here", "_law_kinds_here", "e"] ["_law_text_here"] (defScope s_law_kinds):=⟨rfl,rfl,rfl,by decide +kernel,rfl,by decide +kernel,by decide +kernel⟩
noncomputable abbrev s_law_refused:Stmt:=top 42
theorem sc_law_refused:FnScope ["_law_text_here", "_law_due", "_law_told", "e"] ["_law_text_here", "_law_due"] (defScope s_law_refused):=⟨rfl,rfl,rfl,by decide +kernel,rfl,by decide +kernel,by decide +kernel⟩
noncomputable abbrev s_law:Stmt:=top 43
theorem sc_law:FnScope ["_law_script", "_law_cell", "_law_rooms", "_law_made", "_law_text_here", "_law_shown", "_law_way", "_law_due", "_law_fault_here", "_law_found"] ["_law_script"] (defScope s_law):=⟨rfl,rfl,rfl,by decide +kernel,rfl,by decide +kernel,by decide +kernel⟩
noncomputable def ts0:List (Addr×(Nat→Nat→Str)):=[]
structure Cs(K:W.Frag)(mg:Str→Option Value)(C_WheelError:Addr)(C_NoMachine:Addr)(C_NoText:Addr):Prop where
 c_WheelError:mg "WheelError" = some (.ref C_WheelError)
 c_NoMachine:mg "NoMachine" = some (.ref C_NoMachine)
 c_NoText:mg "NoText" = some (.ref C_NoText)
 ix_NoMachine:∃ fI fd,ExcI K C_NoMachine [.type "ValueError",.type "Exception",.type "BaseException",.type "object"] "ValueError.__new__" fI∧FunD K "__init__" "NoMachine.__init__" s_NoMachine_init .none fI fd∧Binds K fd ["self", "word", "number"] []
 es1:ExcSet K C_NoMachine "word"
 es2:ExcSet K C_NoMachine "number"
 ef1:ExcFld K C_NoMachine "word"
 ef2:ExcFld K C_NoMachine "number"
 k_NoMachine:ExcCls K C_NoMachine
 ix_NoText:∃ fI fd,ExcI K C_NoText [.type "ValueError",.type "Exception",.type "BaseException",.type "object"] "ValueError.__new__" fI∧FunD K "__init__" "NoText.__init__" s_NoText_init .none fI fd∧Binds K fd ["self", "at"] []
 est1:ExcSet K C_NoText "at"
 eft1:ExcFld K C_NoText "at"
 k_NoText:ExcCls K C_NoText
 mM_We:PySem.W.exmOne K (.ref C_NoMachine) (.ref C_WheelError)=some true
 mT_We:PySem.W.exmOne K (.ref C_NoText) (.ref C_WheelError)=some true
 mT_T:PySem.W.exmOne K (.ref C_NoText) (.ref C_NoText)=some true
 mM_T:PySem.W.exmOne K (.ref C_NoMachine) (.ref C_NoText)=some false
 mM_M:PySem.W.exmOne K (.ref C_NoMachine) (.ref C_NoMachine)=some true
 iT_v:PySem.W.kitOne K (.ref C_NoText) (.type "ValueError")=some true
 iT_T:PySem.W.kitOne K (.ref C_NoText) (.ref C_NoText)=some true
 iT_M:PySem.W.kitOne K (.ref C_NoText) (.ref C_NoMachine)=some false
 iM_v:PySem.W.kitOne K (.ref C_NoMachine) (.type "ValueError")=some true
 iM_T:PySem.W.kitOne K (.ref C_NoMachine) (.ref C_NoText)=some false
 iM_M:PySem.W.kitOne K (.ref C_NoMachine) (.ref C_NoMachine)=some true
structure Txt(K:W.Frag)(mg:Str→Option Value):Prop where
 g_MOST_ROOMS:∃ t,mg "MOST_ROOMS" = some (.int 100 t)
 g_FEWEST_LETTERS:∃ t,mg "FEWEST_LETTERS" = some (.int 1 t)
 g_MOST_LETTERS:∃ t,mg "MOST_LETTERS" = some (.int 64 t)
 g_GREATEST_SIGN:∃ t,mg "GREATEST_SIGN" = some (.int 9 t)
 g_FIGURES:∃ t,mg "FIGURES" = some (.str "0123456789" t)
 g_MOST_FIGURES:∃ t,mg "MOST_FIGURES" = some (.int 2 t)
 n_ValueError:mg "ValueError" = none
 n_all:mg "all" = none
 n_bool:mg "bool" = none
 n_enumerate:mg "enumerate" = none
 n_int:mg "int" = none
 n_isinstance:mg "isinstance" = none
 n_len:mg "len" = none
 n_min:mg "min" = none
 n_range:mg "range" = none
 n_str:mg "str" = none
 n_tuple:mg "tuple" = none
 n_zip:mg "zip" = none
 x_want_counts:Tx K mg "want_counts" s_want_counts ["rows", "signs"] [[]]
 x_want_letters:Tx K mg "want_letters" s_want_letters ["rows", "room", "fewest", "most"] [[]]
 x_want_rooms:Tx K mg "want_rooms" s_want_rooms ["rows", "room"] [[]]
 x_is_sign:Tx K mg "is_sign" s_is_sign ["sign"] [[]]
 x_want_signs:Tx K mg "want_signs" s_want_signs ["signs"] [[]]
 x_want_parts:Tx K mg "want_parts" s_want_parts ["rows", "signs", "fewest", "most"] [[]]
 x_in_tuples:Tx K mg "in_tuples" s_in_tuples ["rows", "signs"] [[]]
 x_machine_of:Tx K mg "machine_of" s_machine_of ["rows", "signs"] [[]]
 x_is_figure:Tx K mg "is_figure" s_is_figure ["word"] [[]]
 x_is_number:Tx K mg "is_number" s_is_number ["word", "most"] [[]]
 x_room_text:Tx K mg "room_text" s_room_text ["row", "sign"] [[]]
 x_machine_text:Tx K mg "machine_text" s_machine_text ["machine"] [[]]
 x_is_room:Tx K mg "is_room" s_is_room ["word"] [[]]
 x_read_row:Tx K mg "read_row" s_read_row ["word"] [[]]
 x_read_sign:Tx K mg "read_sign" s_read_sign ["word"] [[]]
 x_read_machine:Tx K mg "read_machine" s_read_machine ["text"] [[]]
 x_law_cell_at:Tx K mg "_law_cell_at" s_law_cell_at ["_law_script", "_law_k"] [[]]
 x_law_spread:Tx K mg "_law_spread" s_law_spread ["_law_script", "_law_k"] [[]]
 x_law_whole:Tx K mg "_law_whole" s_law_whole ["_law_found"] [[]]
 x_law_mix:Tx K mg "_law_mix" s_law_mix ["_law_cell", "_law_k", "_law_most"] [[]]
 x_law_machine:Tx K mg "_law_machine" s_law_machine ["_law_cell", "_law_rooms", "_law_letters", "_law_most"] [[]]
 x_law_is_machine:Tx K mg "_law_is_machine" s_law_is_machine ["_law_found"] [[]]
 x_law_frozen:Tx K mg "_law_frozen" s_law_frozen ["_law_made"] [[]]
 x_law_text:Tx K mg "_law_text" s_law_text ["_law_made"] [[]]
 x_law_changed:Tx K mg "_law_changed" s_law_changed ["_law_text_here", "_law_way", "_law_cell", "_law_more"] [[]]
 x_law_number:Tx K mg "_law_number" s_law_number ["_law_word"] [[]]
 x_law_read:Tx K mg "_law_read" s_law_read ["_law_text_here"] [[]]
 x_law_fault:Tx K mg "_law_fault" s_law_fault ["_law_rows", "_law_signs"] [[]]
 x_law_kinds:Tx K mg "_law_kinds" s_law_kinds ["_law_text_here"] [[]]
 x_law_refused:Tx K mg "_law_refused" s_law_refused ["_law_text_here", "_law_due"] [[]]
 cs:∃ C_WheelError C_NoMachine C_NoText,Cs K mg C_WheelError C_NoMachine C_NoText
local macro_rules | `(tactic| walk_at "sd") => `(tactic| first
 | (show (0 : Int) < _; omega)
 | (refine ⟨?_, ?_⟩ <;> omega)
 | exact Or.inl ⟨by omega, by omega⟩
 | exact Or.inr ⟨by omega, by omega⟩
 | exact ⟨by decide, by decide, by decide⟩)
local macro_rules | `(tactic| walk_at "nrs") => `(tactic| (repeat (first | exact NRs.nil | refine NRs.cons (by first | exact NR.av | exact NR.bor) ?_)))
local macro_rules | `(tactic| walk_at "v0") => `(tactic| first | walk_at "v0i" | (with_reducible refine s_if ?_))
local macro_rules | `(tactic| walk_at "v0i") => `(tactic| with_reducible first
 | refine s_seq ?_ | refine ev_op ?_ | refine ev_cb ?_ | refine ea_cons ?_ | refine ea_nil ?_ | refine s_next ?_
 | refine ev_int ?_ | refine ev_bl ?_ | refine ev_str ?_ | refine ev_non ?_ | refine ev_ty ?_ | refine ev_un ?_ | refine un_i ?_ | refine add_i ?_ | refine op_i0 ?_ | refine op_b0 ?_ | refine eq_i ?_ | refine ne_i ?_
 | refine ev_and ?_ | refine ev_not ?_ | refine tv_test ?_ | refine tv_b ?_ | refine tv_and ?_ | refine tv_or ?_ | refine tv_not ?_ | refine tv_all ?_
 | refine v_b ?_ | refine v_i ?_ | refine v_s ?_ | refine ev_c0 ?_ | refine ev_r0 ?_ | refine ev_rx0 ?_ | refine ev_l0 ?_ | refine to_no ?_ | refine to_part ?_ | refine iteT ?_ | refine iteF ?_ | refine iteNT ?_ | refine iteNF ?_)
local macro_rules | `(tactic| walk_at "v1") => `(tactic| with_reducible first
 | refine ev_v0 ?_ | refine ev_v1 ?_ | refine ev_v2 ?_ | refine ev_v3 ?_ | refine ev_v4 ?_ | refine ev_v5 ?_ | refine ev_v6 ?_ | refine ev_v7 ?_ | refine ev_v8 ?_ | refine ev_v9 ?_
 | refine ev_o1 ?_ | refine ev_o2 ?_
 | refine sv_a1 ?_ | refine sv_a2 ?_ | refine sv_a3 ?_ | refine sv_a4 ?_ | refine sv_a5 ?_ | refine sv_a6 ?_ | refine sv_a7 ?_ | refine sv_a8 ?_ | refine sv_a9 ?_
 | refine gv_0 ?_ | refine gv_1 ?_ | refine gv_2 ?_ | refine gv_3 ?_ | refine gv_4 ?_ | refine gv_5 ?_
 | refine sv_ap1 ?_ | refine sv_ap2 ?_ | refine sv_ap4 ?_
 )
local macro_rules | `(tactic| walk_at "v") => `(tactic| first | walk_at "v0" | walk_at "v1" | (with_reducible refine s_drop ?_) | (with_reducible refine s_ret ?_) | (refine op_i ?c ?_; (case c => walk_at "sd")) | (refine mul_i ?c ?_; (case c => walk_at "sd")))
local macro_rules | `(tactic| walk_at "vs") => `(tactic| repeat walk_at "v")
local macro_rules | `(tactic| walk_at "vm") => `(tactic| repeat (first | walk_at "v" | refine ix_T rfl rfl Item.d ?_))
local macro_rules | `(tactic| walk_at "vj") => `(tactic| first | walk_at "v0i" | walk_at "v1" | (with_reducible refine s_drop ?_) | (with_reducible refine s_ret ?_) | (refine op_i ?c ?_; (case c => walk_at "sd")) | (refine mul_i ?c ?_; (case c => walk_at "sd")))
local macro_rules | `(tactic| walk_at "vi") => `(tactic| repeat (first | walk_at "vj" | refine ix_T rfl rfl Item.d ?_))
section
variable[Tabs]{P:Program}{w:World}{K:W.Frag}{mg:Str→Option Value}{base:Heap}
noncomputable abbrev oI(ns:List Int):AV:=.own (ns.map fun k=>.d (.int k))
theorem oI_data(ns:List Int):(oI ns).data=dI ns:=by rw[AV.data,datas_mapd];rfl
theorem oI_clean(ns:List Int):(oI ns).clean=true:=clean_map fun _=>rfl
noncomputable def S_cell_at(ds:List PyData)(c:AV):Prop:=∃ (ns:List Int) (k:Int),ds=[dI ns,.int k]∧0≤k∧c=.d (.int (cat ns k))
theorem ok_cell_at(T:Txt K mg):Cal P w K mg base (CXE P w) 1 "_law_cell_at" ["_law_script", "_law_k"] [] (spV K S_cell_at NX):=by
 refine val T.x_law_cell_at sc_law_cell_at (fun ds c ⟨ns,k,e,_⟩=>by rw[e];rfl) (fun f cdv A outer s H E hr=>?_) [] (by simp)
 refine⟨_,(pss_cons (ps_if (pt_cmpR op_lt (pv 1) (pe_callB (call_lenAny (K:=K) rfl) rfl T.n_len PySem.boot_len (pa_cons (pv 0) pa_nil)) (nomark _))
    (pss_one (ps_ret (pe_ix (ix_any (K:=K) rfl hr.units) (pv 0) (pv 1) (fun _ _=>rfl))))
    pss_nil)
   (pss_one (ps_ret pe_int))),?_⟩
 rintro ds c ⟨ns,k,rfl,h0,rfl⟩
 show Sv K _ _ _ [some (.d (dI ns)),some (.d (.int k))] _
 walk_at "vs"
 refine len_L rfl ?_
 walk_at "vs"
 rw[List.length_map]
 unfold cat
 refine ite2 (fun h=>?_) fun h=>?_
 ·have hk:=of_decide_eq_true h
  walk_at "vs"
  refine ix_L rfl (show atI (ns.map PyData.int) k=some (.int (ns.getD k.toNat 0)) from ?_) Item.d (res_d (by rw[if_pos hk]))
  have e:k.toNat<ns.length:=by omega
  exact atI_of h0 (by rw[List.getElem?_map,List.getElem?_eq_getElem e,List.getD_eq_getElem?_getD,List.getElem?_eq_getElem e];rfl)
 ·have hk:¬ k<ns.length:=fun z=>h (decide_eq_true z)
  walk_at "vs"
  exact res_d (by rw[if_neg hk])
theorem use_cell_at{Q:TV→Prop}{ns:List Int}{k:Int}(h0:0≤k)(q:Q (.av (.d (.int (cat ns k))))):Cl S_cell_at [] Q [.av (.d (dI ns)),.av (.d (.int k))] :=
 call_of (by walk_at "nrs") ⟨ns,k,rfl,h0,rfl⟩ (Got.own rfl) q
noncomputable def S_spread(ds:List PyData)(c:AV):Prop:=∃ (ns:List Int) (k:Int),ds=[dI ns,.int k]∧(0≤k∧k<1000)∧c=.d (.int (sprd ns k))
theorem ok_spread(T:Txt K mg):Cal P w K mg base (CXE P w) 2 "_law_spread" ["_law_script", "_law_k"] [] (spV K S_spread NX):=by
 have c_law_cell_at:Cal P w K mg base (CXE P w) 1 "_law_cell_at" ["_law_script", "_law_k"] [] (spV K S_cell_at NX):=ok_cell_at T
 refine val T.x_law_spread sc_law_spread (fun ds c ⟨ns,k,e,_⟩=>by rw[e];rfl) (fun f cdv A outer s H E hr=>?_) [] (by simp)
 refine⟨_,(pss_cons (ps_set (i:=2) sc_law_spread.nd rfl (Or.inl rfl) (pe_op op_mod (pe_cal (c_law_cell_at.mono (by decide)) hr rfl passE (pa_cons (pv 0) (pa_cons (pv 1) pa_nil))) pe_int))
   (pss_one (ps_ret (pe_op op_mod (pe_op op_times (pe_op op_mod (pe_op (op_plus (K:=K) rfl) (pe_op op_times (pv 2) pe_int) (pe_op op_times (pe_op op_times (pe_op (op_plus (K:=K) rfl) (pv 1) pe_int) (pe_op (op_plus (K:=K) rfl) (pv 1) pe_int)) pe_int)) pe_int) pe_int) pe_int)))),?_⟩
 rintro ds c ⟨ns,k,rfl,h0,rfl⟩
 show Sv K _ _ _ [some (.d (dI ns)),some (.d (.int k)),none] _
 walk_at "vs"
 refine use_cell_at h0.1 ?_
 walk_at "vs"
 exact res_d rfl
theorem use_spread{Q:TV→Prop}{ns:List Int}{k:Int}(h0:0≤k∧k<1000)(q:Q (.av (.d (.int (sprd ns k))))):Cl S_spread [] Q [.av (.d (dI ns)),.av (.d (.int k))] :=
 call_of (by walk_at "nrs") ⟨ns,k,rfl,h0,rfl⟩ (Got.own rfl) q
noncomputable abbrev oL(rows:List (List Int)):AV:=.own (rows.map oI)
theorem oL_data(rows:List (List Int)):(oL rows).data=dRows rows:=by
 rw[own_data]
 unfold dRows
 congr 1
 exact List.map_congr_left fun r _=>oI_data r
theorem tI_flat(c:List Int):noLst (tI c)=true:=by simp[tI,noLst,noLsts_ints]
structure Mach where
 rows:List (List Int)
 signs:List Int
deriving DecidableEq
noncomputable abbrev tR(rows:List (List Int)):PyData:=.tuple (rows.map tI)
noncomputable abbrev dM(M:Mach):PyData:=.tuple [tR M.rows,tI M.signs]
structure Good(r l m:Int)(M:Mach):Prop where
 r0:0<r
 l0:0<l
 n:(M.rows.length:Int)=r
 row:∀ x∈M.rows,(x.length:Int)=l∧∀ y∈x,0≤y∧y<r
 s:(M.signs.length:Int)=r
 sg:∀ x∈M.signs,0≤x∧x<m
 z:(M.rows.getD 0 []).getD 0 0=0
theorem tR_flat(rows:List (List Int)):noLst (tR rows)=true:=by
 simp only[tR,noLst]
 exact noLsts_map (fun a=>tI_flat a) rows
theorem dM_flat(M:Mach):noLst (dM M)=true:=by
 have h:=tR_flat M.rows
 simp only[noLst,noLsts,Bool.and_true,Bool.and_eq_true] at h ⊢
 exact⟨h,noLsts_ints _⟩
theorem Mach.enc:Enc dM 3:=by
 have h:=(Enc.int.tuple.tuple).pair (Enc.int.tuple.mono (show 1≤2 by decide))
 refine⟨fun a b=>?_,fun a=>h.lay (a.rows,a.signs),fun a=>h.dep (a.rows,a.signs)⟩
 refine (h.eqv (a.rows,a.signs) (b.rows,b.signs)).trans ⟨fun e=>?_,fun e=>by rw[e]⟩
 obtain⟨r1,s1⟩:=a
 obtain⟨r2,s2⟩:=b
 simp only[Prod.mk.injEq] at e
 rw[e.1,e.2]
theorem oL_snoc(rows:List (List Int))(row:List Int):(AV.own (rows.map oI++[oI row]))=oL (rows++[row]):=by rw[oL,List.map_append];rfl
theorem mem_set_row{x:List Int}{y:Int}{i:Nat}{v:Int}(h:y∈x.set i v):y∈x∨y=v:=List.mem_or_eq_of_mem_set h
theorem atI_intL{ns:List Int}{k:Int}(h0:0≤k)(h:k<ns.length):atI (ns.map PyData.int) k=some (.int (ns.getD k.toNat 0)):=by
 have e:k.toNat<ns.length:=by omega
 exact atI_of h0 (by rw[List.getElem?_map,List.getElem?_eq_getElem e,List.getD_eq_getElem?_getD,List.getElem?_eq_getElem e];rfl)
theorem atI_rowL{rows:List (List Int)}{k:Int}(h0:0≤k)(h:k<rows.length):atI (rows.map dI) k=some (dI (rows.getD k.toNat [])):=by
 have e:k.toNat<rows.length:=by omega
 exact atI_of h0 (by rw[List.getElem?_map,List.getElem?_eq_getElem e,List.getD_eq_getElem?_getD,List.getElem?_eq_getElem e];rfl)
theorem getD_mem'{α:Type}{xs:List α}{i:Nat}{d:α}(h:i<xs.length):xs.getD i d∈xs:=by
 rw[List.getD_eq_getElem?_getD,List.getElem?_eq_getElem h];exact List.getElem_mem h
noncomputable abbrev dL(rows:List (List Int)):PyData:=.list (rows.map dI)
noncomputable def exD(C:Addr)(wd:Str)(n:Int):Exc:=⟨C,[("word",.str wd),("number",.int n)]⟩
noncomputable def wantC(rows:List (List Int))(signs:List Int):Option (Str×Int):=if rows.length=0∨100<rows.length then some ("rooms",(rows.length:Int)) else if signs.length≠rows.length then some ("signs",(signs.length:Int)) else none
noncomputable def Pre_wc(cs:List AV):Prop:=∃ (rows:List (List Int)) (signs:List Int),cs=[.d (dL rows),.d (dI signs)]∧rows.length≤100000∧signs.length≤100000
noncomputable def Post_wc(cs:List AV)(c:AV):Prop:=∃ (rows:List (List Int)) (signs:List Int),cs=[.d (dL rows),.d (dI signs)]∧wantC rows signs=none∧c=.d .none
noncomputable def PX_wc(C:Addr)(cs:List AV)(e:Exc):Prop:=∃ (rows:List (List Int)) (signs:List Int) (wd:Str) (n:Int),cs=[.d (dL rows),.d (dI signs)]∧wantC rows signs=some (wd,n)∧e=exD C wd n
section
variable{C_WheelError C_NoMachine C_NoText:Addr}
theorem ini(Z:Cs K mg C_WheelError C_NoMachine C_NoText):∃ fI fd,ExcI K C_NoMachine [.type "ValueError",.type "Exception",.type "BaseException",.type "object"] "ValueError.__new__" fI∧FnOk P w K mg base (CXE P w) 1 fI fd ["self", "word", "number"] (spInit C_NoMachine ["word", "number"])∧Binds K fd ["self", "word", "number"] []:=by
 obtain⟨fI,fd,x,F,b⟩:=Z.ix_NoMachine
 exact⟨fI,fd,x,init2 (by decide) F sc_NoMachine_init fun cdv A outer s H E=>(pss_cons (ps_xset Z.es1 (pv 0) (pv 1) rfl) (pss_one (ps_xset Z.es2 (pv 0) (pv 2) rfl))),b⟩
theorem okb_want_counts(T:Txt K mg)(Z:Cs K mg C_WheelError C_NoMachine C_NoText):Cal P w K mg base (CXE P w) 3 "want_counts" ["rows", "signs"] [] (spR K Pre_wc Post_wc (PX_wc C_NoMachine)):=by
 obtain⟨fI,fdI,x_NoMachine,i_NoMachine,b_NoMachine⟩:=ini (P:=P) (w:=w) (base:=base) Z
 refine valRX T.x_want_counts sc_want_counts (fun cs ⟨r,s,e,_⟩=>by rw[e];rfl) (fun f cdv A outer s H E hr=>?_) [] (by simp)
 refine⟨_,(pss_cons (ps_if (PW.pt (pw_or (pt_cmpR (op_equ (K:=K) rfl hr.units) (pe_callB (call_lenAny (K:=K) rfl) rfl T.n_len PySem.boot_len (pa_cons (pv 0) pa_nil)) pe_int (nomark _)) (pw_or1 (pt_cmpR op_gt (pe_callB (call_lenAny (K:=K) rfl) rfl T.n_len PySem.boot_len (pa_cons (pv 0) pa_nil)) (pe_cst T.g_MOST_ROOMS rfl) (nomark _)))))
    (pss_one (ps_raiseI PySem.F.excBase_ValueError rfl PySem.F.excBase_ValueError x_NoMachine rfl rfl Z.c_NoMachine i_NoMachine (hr.mono (by decide)) b_NoMachine (pa_cons pe_str (pa_cons (pe_callB (call_lenAny (K:=K) rfl) rfl T.n_len PySem.boot_len (pa_cons (pv 0) pa_nil)) pa_nil))))
    pss_nil)
   (pss_one (ps_if (pt_cmpR (op_neq (K:=K) rfl hr.units) (pe_callB (call_lenAny (K:=K) rfl) rfl T.n_len PySem.boot_len (pa_cons (pv 1) pa_nil)) (pe_callB (call_lenAny (K:=K) rfl) rfl T.n_len PySem.boot_len (pa_cons (pv 0) pa_nil)) (nomark _))
    (pss_one (ps_raiseI PySem.F.excBase_ValueError rfl PySem.F.excBase_ValueError x_NoMachine rfl rfl Z.c_NoMachine i_NoMachine (hr.mono (by decide)) b_NoMachine (pa_cons pe_str (pa_cons (pe_callB (call_lenAny (K:=K) rfl) rfl T.n_len PySem.boot_len (pa_cons (pv 1) pa_nil)) pa_nil))))
    pss_nil))),?_⟩
 rintro cs ⟨rows,signs,rfl,hz,hy⟩
 show Sv K _ _ _ [some (.d (dL rows)),some (.d (dI signs))] _
 walk_at "vs"
 refine len_L rfl ?_
 rw[List.length_map]
 walk_at "vs"
 have rs:(rows.length=0∨100<rows.length)→wantC rows signs=some (("rooms" : Str),(rows.length:Int)):=fun h=>if_pos h
 refine ite2 (fun h=>?_) fun h=>?_
 ·have h0:rows.length=0:=by have:=of_decide_eq_true h;omega
  walk_at "vs"
  refine sv_raiseI ?_
  walk_at "vs"
  refine len_L rfl ?_
  rw[List.length_map]
  walk_at "vs"
  exact⟨by walk_at "nrs",rfl,by show 2≤1000;decide,rows,signs,_,_,rfl,rs (.inl h0),rfl⟩
 have h0:¬ rows.length=0:=fun z=>h (decide_eq_true (by omega))
 walk_at "vs"
 refine len_L rfl ?_
 rw[List.length_map]
 walk_at "vs"
 refine ite2 (fun h1=>?_) fun h1=>?_
 ·have h2:100<rows.length:=by have:=of_decide_eq_true h1;omega
  walk_at "vs"
  refine sv_raiseI ?_
  walk_at "vs"
  refine len_L rfl ?_
  rw[List.length_map]
  walk_at "vs"
  exact⟨by walk_at "nrs",rfl,by show 2≤1000;decide,rows,signs,_,_,rfl,rs (.inr h2),rfl⟩
 have h2:¬ 100<rows.length:=fun z=>h1 (decide_eq_true (by omega))
 walk_at "vs"
 refine len_L rfl ?_
 rw[List.length_map]
 walk_at "vs"
 refine len_L rfl ?_
 rw[List.length_map]
 walk_at "vs"
 by_cases hs:signs.length=rows.length
 ·rw[hs,decide_eq_true rfl]
  walk_at "vs"
  exact⟨rows,signs,rfl,by unfold wantC;rw[if_neg (by omega),if_neg (by omega)],rfl⟩
 ·rw[decide_eq_false (show ¬ ((signs.length:Nat):Int)=(rows.length:Nat) by omega)]
  walk_at "vs"
  refine sv_raiseI ?_
  walk_at "vs"
  refine len_L rfl ?_
  rw[List.length_map]
  walk_at "vs"
  exact⟨by walk_at "nrs",rfl,by show 2≤1000;decide,rows,signs,_,_,rfl,by unfold wantC;rw[if_neg (by omega),if_pos hs],rfl⟩
end
noncomputable def letOk(rows:List (List Int))(k:Nat):Prop:=1≤(rows.getD k []).length∧(rows.getD k []).length≤64∧(rows.getD k []).length=(rows.getD 0 []).length
noncomputable def nxOk(rows:List (List Int))(k:Nat):Prop:=∀ y∈rows.getD k [],0≤y∧y<(rows.length:Int)
noncomputable def sgOk(signs:List Int)(k:Nat):Prop:=0≤signs.getD k 0∧signs.getD k 0≤9
noncomputable def Sz(rows:List (List Int))(signs:List Int):Prop:=rows.length≤100000∧signs.length≤100000∧∀ x∈rows,x.length≤100000
noncomputable def Pre_wl(cs:List AV):Prop:=∃ (rows:List (List Int)) (k:Nat),cs=[.d (dL rows),.d (.int k),.d (.int 1),.d (.int 64)]∧Sz rows []∧k<rows.length
noncomputable def Post_wl(cs:List AV)(c:AV):Prop:=∃ (rows:List (List Int)) (k:Nat),cs=[.d (dL rows),.d (.int k),.d (.int 1),.d (.int 64)]∧letOk rows k∧c=.d .none
noncomputable def PX_wl(C:Addr)(cs:List AV)(e:Exc):Prop:=∃ (rows:List (List Int)) (k:Nat),cs=[.d (dL rows),.d (.int k),.d (.int 1),.d (.int 64)]∧¬ letOk rows k∧e=exD C "letters" k
noncomputable def Pre_wr(cs:List AV):Prop:=∃ (rows:List (List Int)) (k:Nat),cs=[.d (dL rows),.d (.int k)]∧Sz rows []∧k<rows.length
noncomputable def Post_wr(cs:List AV)(c:AV):Prop:=∃ (rows:List (List Int)) (k:Nat),cs=[.d (dL rows),.d (.int k)]∧nxOk rows k∧c=.d .none
noncomputable def PX_wr(C:Addr)(cs:List AV)(e:Exc):Prop:=∃ (rows:List (List Int)) (k:Nat),cs=[.d (dL rows),.d (.int k)]∧¬ nxOk rows k∧e=exD C "next" k
noncomputable def S_is(ds:List PyData)(c:AV):Prop:=∃ s:Int,ds=[.int s]∧c=.d (.bool (decide (0≤s∧s≤9)))
noncomputable def Pre_wg(cs:List AV):Prop:=∃ signs:List Int,cs=[.d (dI signs)]∧signs.length≤100000
noncomputable def Post_wg(cs:List AV)(c:AV):Prop:=∃ signs:List Int,cs=[.d (dI signs)]∧(∀ k,k<signs.length→sgOk signs k)∧c=.d .none
noncomputable def PX_wg(C:Addr)(cs:List AV)(e:Exc):Prop:=∃ (signs:List Int) (k:Nat),cs=[.d (dI signs)]∧k<signs.length∧(∀ j,j<k→sgOk signs j)∧¬ sgOk signs k∧e=exD C "sign" k
theorem ok_is_sign(T:Txt K mg):Cal P w K mg base (CXE P w) 1 "is_sign" ["sign"] [] (spV K S_is NX):=by
 refine val T.x_is_sign sc_is_sign (fun ds c ⟨s,e,_⟩=>by rw[e];rfl) (fun f cdv A outer s H E hr=>?_) [] (by simp)
 refine⟨_,(pss_one (ps_ret (pe_and (pe_cmpR op_ge (pv 0) pe_int (nomark _)) (pe_one (pe_cmpR op_le (pv 0) (pe_cst T.g_GREATEST_SIGN rfl) (nomark _)))))),?_⟩
 rintro ds c ⟨s,rfl,rfl⟩
 show Sv K _ _ _ [some (.d (.int s))] _
 walk_at "vs"
 refine ite2 (fun h=>?_) fun h=>?_
 ·have h0:0≤s:=by have:=of_decide_eq_true h;omega
  walk_at "vs"
  exact res_d (by rw[decide_eq_decide.mpr (show s≤9↔0≤s∧s≤9 from ⟨fun z=>⟨h0,z⟩,fun z=>z.2⟩)])
 ·have h0:¬ 0≤s:=fun z=>h (decide_eq_true (by omega))
  walk_at "vs"
  exact res_d (by rw[decide_eq_false (fun z=>h0 z.1)])
section
variable{C_WheelError C_NoMachine C_NoText:Addr}
theorem okb_want_letters(T:Txt K mg)(Z:Cs K mg C_WheelError C_NoMachine C_NoText):Cal P w K mg base (CXE P w) 3 "want_letters" ["rows", "room", "fewest", "most"] [] (spR K Pre_wl Post_wl (PX_wl C_NoMachine)):=by
 obtain⟨fI,fdI,x_NoMachine,i_NoMachine,b_NoMachine⟩:=ini (P:=P) (w:=w) (base:=base) Z
 refine valRX T.x_want_letters sc_want_letters (fun cs ⟨r,k,e,_⟩=>by rw[e];rfl) (fun f cdv A outer s H E hr=>?_) [] (by simp)
 refine⟨_,(pss_cons (ps_set (i:=4) sc_want_letters.nd rfl (Or.inl rfl) (pe_callB (call_lenAny (K:=K) rfl) rfl T.n_len PySem.boot_len (pa_cons (pe_ix (ix_any (K:=K) rfl hr.units) (pv 0) (pv 1) (fun _ _=>rfl)) pa_nil)))
   (pss_one (ps_if (PW.pt (pw_or (pt_cmpR op_lt (pv 4) (pv 2) (nomark _)) (pw_or (pt_cmpR op_gt (pv 4) (pv 3) (nomark _)) (pw_or1 (pt_cmpR (op_neq (K:=K) rfl hr.units) (pv 4) (pe_callB (call_lenAny (K:=K) rfl) rfl T.n_len PySem.boot_len (pa_cons (pe_ix (ix_any (K:=K) rfl hr.units) (pv 0) pe_int (fun _ _=>rfl)) pa_nil)) (nomark _))))))
    (pss_one (ps_raiseI PySem.F.excBase_ValueError rfl PySem.F.excBase_ValueError x_NoMachine rfl rfl Z.c_NoMachine i_NoMachine (hr.mono (by decide)) b_NoMachine (pa_cons pe_str (pa_cons (pv 1) pa_nil))))
    pss_nil))),?_⟩
 rintro cs ⟨rows,k,rfl,hz,hk⟩
 show Sv K _ _ _ [some (.d (dL rows)),some (.d (.int k)),some (.d (.int 1)),some (.d (.int 64)),none] _
 walk_at "vs"
 refine ix_L rfl (atI_rowL (by omega) (by omega)) Item.d ?_
 rw[Int.toNat_natCast]
 walk_at "vs"
 refine len_L rfl ?_
 rw[List.length_map]
 walk_at "vs"
 refine ite2 (fun h=>?_) fun h=>?_
 ·have h0:(rows.getD k []).length<1:=by have:=of_decide_eq_true h;omega
  walk_at "vs"
  refine sv_raiseI ?_
  walk_at "vs"
  exact⟨by walk_at "nrs",rfl,by show 2≤1000;decide,rows,k,rfl,fun z=>by have:=z.1;omega,rfl⟩
 have h0:¬ (rows.getD k []).length<1:=fun z=>h (decide_eq_true (by omega))
 walk_at "vs"
 refine ite2 (fun h1=>?_) fun h1=>?_
 ·have h2:64<(rows.getD k []).length:=by have:=of_decide_eq_true h1;omega
  walk_at "vs"
  refine sv_raiseI ?_
  walk_at "vs"
  exact⟨by walk_at "nrs",rfl,by show 2≤1000;decide,rows,k,rfl,fun z=>by have:=z.2.1;omega,rfl⟩
 have h2:¬ 64<(rows.getD k []).length:=fun z=>h1 (decide_eq_true (by omega))
 walk_at "vs"
 refine ix_L rfl (atI_rowL (by decide) (by omega)) Item.d ?_
 walk_at "vs"
 refine len_L rfl ?_
 rw[List.length_map,show Int.toNat 0=0 from rfl]
 walk_at "vs"
 by_cases he:(rows.getD k []).length=(rows.getD 0 []).length
 ·rw[decide_eq_true (show (((rows.getD k []).length:Nat):Int)=(((rows.getD 0 []).length:Nat):Int) by rw[he])]
  walk_at "vs"
  exact⟨rows,k,rfl,⟨by omega,by omega,he⟩,rfl⟩
 ·rw[decide_eq_false (show ¬ (((rows.getD k []).length:Nat):Int)=(((rows.getD 0 []).length:Nat):Int) by omega)]
  walk_at "vs"
  refine sv_raiseI ?_
  walk_at "vs"
  exact⟨by walk_at "nrs",rfl,by show 2≤1000;decide,rows,k,rfl,fun z=>he z.2.2,rfl⟩
theorem okb_want_rooms(T:Txt K mg)(Z:Cs K mg C_WheelError C_NoMachine C_NoText):Cal P w K mg base (CXE P w) 3 "want_rooms" ["rows", "room"] [] (spR K Pre_wr Post_wr (PX_wr C_NoMachine)):=by
 obtain⟨fI,fdI,x_NoMachine,i_NoMachine,b_NoMachine⟩:=ini (P:=P) (w:=w) (base:=base) Z
 refine valRX T.x_want_rooms sc_want_rooms (fun cs ⟨r,k,e,_⟩=>by rw[e];rfl) (fun f cdv A outer s H E hr=>?_) [] (by simp)
 refine⟨_,(pss_one (ps_for (passes_XE rfl rfl) rfl (pi_seq (K:=K) rfl (pe_ix (ix_any (K:=K) rfl hr.units) (pv 0) (pv 1) (fun _ _=>rfl))) (pg_name (i:=2) sc_want_rooms.nd rfl (Or.inl rfl))
    (pss_one (ps_if (PW.pt (pw_or (pt_cmpR op_lt (pv 2) pe_int (nomark _)) (pw_or1 (pt_cmpR op_ge (pv 2) (pe_callB (call_lenAny (K:=K) rfl) rfl T.n_len PySem.boot_len (pa_cons (pv 0) pa_nil)) (nomark _)))))
     (pss_one (ps_raiseI PySem.F.excBase_ValueError rfl PySem.F.excBase_ValueError x_NoMachine rfl rfl Z.c_NoMachine i_NoMachine (hr.mono (by decide)) b_NoMachine (pa_cons pe_str (pa_cons (pv 1) pa_nil))))
     pss_nil)))),?_⟩
 rintro cs ⟨rows,k,rfl,hz,hk⟩
 show Sv K _ _ _ [some (.d (dL rows)),some (.d (.int k)),none] _
 walk_at "vs"
 refine for_L (α:=Int) ?_
 walk_at "vs"
 refine ix_L rfl (atI_rowL (by omega) (by omega)) Item.d ?_
 rw[Int.toNat_natCast]
 refine⟨rows.getD k [],PyData.int,.inl rfl,⟨_,rfl⟩,fun i ρ=>∃ o,ρ=[some (.d (dL rows)),some (.d (.int k)),o]∧∀ j (h:j<(rows.getD k []).length),j<i→0≤(rows.getD k [])[j]∧(rows.getD k [])[j] < (rows.length:Int),⟨none,rfl,fun j _ hj=>by omega⟩,?_,?_⟩
 ·rintro i ρ hi ⟨o,rfl,hg⟩
  have hmem:=List.getElem_mem hi
  walk_at "vs"
  refine ite2 (fun h=>?_) fun h=>?_
  ·have h0:(rows.getD k [])[i] < 0:=of_decide_eq_true h
   walk_at "vs"
   refine sv_raiseI ?_
   walk_at "vs"
   exact⟨by walk_at "nrs",rfl,by show 2≤1000;decide,rows,k,rfl,fun z=>by have:=(z _ hmem).1;omega,rfl⟩
  have h0:¬ (rows.getD k [])[i] < 0:=fun z=>h (decide_eq_true z)
  walk_at "vs"
  refine len_L rfl ?_
  rw[List.length_map]
  walk_at "vs"
  refine ite2 (fun h1=>?_) fun h1=>?_
  ·have h2:(rows.length:Int)≤(rows.getD k [])[i]:=by have:=of_decide_eq_true h1;omega
   walk_at "vs"
   refine sv_raiseI ?_
   walk_at "vs"
   exact⟨by walk_at "nrs",rfl,by show 2≤1000;decide,rows,k,rfl,fun z=>by have:=(z _ hmem).2;omega,rfl⟩
  have h2:¬ (rows.length:Int)≤(rows.getD k [])[i]:=fun z=>h1 (decide_eq_true (by omega))
  walk_at "vs"
  refine⟨_,rfl,fun j hj hji=>?_⟩
  by_cases e:j<i
  ·exact hg j hj e
  ·have:j=i:=by omega
   subst this
   exact⟨by omega,by omega⟩
 ·rintro ρ ⟨o,rfl,hg⟩
  walk_at "vs"
  exact⟨rows,k,rfl,fun y hy=>by
   obtain⟨j,hj,e⟩:=List.getElem_of_mem hy
   have:=hg j hj hj
   rw[e] at this
   exact this,rfl⟩
theorem okb_want_signs(T:Txt K mg)(Z:Cs K mg C_WheelError C_NoMachine C_NoText):Cal P w K mg base (CXE P w) 3 "want_signs" ["signs"] [] (spR K Pre_wg Post_wg (PX_wg C_NoMachine)):=by
 obtain⟨fI,fdI,x_NoMachine,i_NoMachine,b_NoMachine⟩:=ini (P:=P) (w:=w) (base:=base) Z
 have c_is_sign:Cal P w K mg base (CXE P w) 1 "is_sign" ["sign"] [] (spV K S_is NX):=ok_is_sign T
 refine valRX T.x_want_signs sc_want_signs (fun cs ⟨r,e,_⟩=>by rw[e];rfl) (fun f cdv A outer s H E hr=>?_) [] (by simp)
 refine⟨_,(pss_one (ps_for (passes_XE rfl rfl) rfl (pi_enumK (K:=K) rfl rfl T.n_enumerate (pa_cons (pv 0) pa_nil)) (pg_tupK (K:=K) (n:=2) rfl rfl (pgs_cons (pg_name (i:=1) sc_want_signs.nd rfl (Or.inl rfl)) (pgs_cons (pg_name (i:=2) sc_want_signs.nd rfl (Or.inl rfl)) pgs_nil)))
    (pss_one (ps_if (pt_not (pt_val (pe_cal (c_is_sign.mono (by decide)) hr rfl passE (pa_cons (pv 2) pa_nil))))
     (pss_one (ps_raiseI PySem.F.excBase_ValueError rfl PySem.F.excBase_ValueError x_NoMachine rfl rfl Z.c_NoMachine i_NoMachine (hr.mono (by decide)) b_NoMachine (pa_cons pe_str (pa_cons (pv 1) pa_nil))))
     pss_nil)))),?_⟩
 rintro cs ⟨signs,rfl,hz⟩
 show Sv K _ _ _ [some (.d (dI signs)),none,none] _
 walk_at "vs"
 refine for_E (α:=Int) ?_
 walk_at "vs"
 refine⟨_,signs,PyData.int,rfl,rfl,⟨_,rfl⟩,fun i ρ=>∃ o1 o2,ρ=[some (.d (dI signs)),o1,o2]∧∀ j,j<i→sgOk signs j,⟨none,none,rfl,fun j hj=>by omega⟩,?_,?_⟩
 ·rintro i ρ hi ⟨o1,o2,rfl,hg⟩
  have eg:signs.getD i 0=signs[i]:=by rw[List.getD_eq_getElem?_getD,List.getElem?_eq_getElem hi];rfl
  refine gv_tup2 ?_
  walk_at "vs"
  refine call_of (by walk_at "nrs") ⟨signs[i],rfl,rfl⟩ (Got.own rfl) ?_
  walk_at "vs"
  by_cases hs:0≤signs[i]∧signs[i]≤9
  ·rw[decide_eq_true hs]
   walk_at "vs"
   refine⟨_,_,rfl,fun j hj=>?_⟩
   by_cases e:j<i
   ·exact hg j e
   ·have:j=i:=by omega
    subst this
    unfold sgOk
    rw[eg]
    exact hs
  ·rw[decide_eq_false hs]
   walk_at "vs"
   refine sv_raiseI ?_
   walk_at "vs"
   exact⟨by walk_at "nrs",rfl,by show 2≤1000;decide,signs,i,rfl,hi,hg,fun z=>hs (by unfold sgOk at z;rw[eg] at z;exact z),rfl⟩
 ·rintro ρ ⟨o1,o2,rfl,hg⟩
  walk_at "vs"
  exact⟨signs,rfl,hg,rfl⟩
end
noncomputable instance (rows:List (List Int)) (k:Nat):Decidable (letOk rows k):=by unfold letOk;infer_instance
noncomputable instance (rows:List (List Int)) (k:Nat):Decidable (nxOk rows k):=by unfold nxOk;infer_instance
noncomputable instance (signs:List Int) (k:Nat):Decidable (sgOk signs k):=by unfold sgOk;infer_instance
noncomputable abbrev WN:=Option (Str×Int)
noncomputable def fs(f:Nat→WN)(n:Nat):WN:=(List.range n).findSome? f
theorem fs_none{f:Nat→WN}{n:Nat}(h:∀ j,j<n→f j=none):fs f n=none:=by
 unfold fs
 rw[List.findSome?_eq_none_iff]
 exact fun j hj=>h j (List.mem_range.mp hj)
theorem fs_some{f:Nat→WN}{n k:Nat}{v:Str×Int}(hk:k<n)(h:∀ j,j<k→f j=none)(e:f k=some v):fs f n=some v:=by
 have e1:List.range n=List.range k++(List.range (n-k)).map (k + ·):=by
  have:=List.range_add (n:=k) (m:=n-k)
  rw[show k+(n-k)=n by omega] at this
  exact this
 have e2:(List.range k).findSome? f=none:=fs_none h
 unfold fs
 rw[e1,List.findSome?_append,e2,Option.none_or,show n-k=(n-k-1)+1 by omega,List.range_succ_eq_map,List.map_cons,List.findSome?_cons]
 simp only[Nat.add_zero,e]
noncomputable def rowF(rows:List (List Int))(k:Nat):WN:=if letOk rows k then (if nxOk rows k then none else some ("next",(k:Int))) else some ("letters",(k:Int))
noncomputable def sgF(signs:List Int)(k:Nat):WN:=if sgOk signs k then none else some ("sign",(k:Int))
noncomputable def partsO(rows:List (List Int))(signs:List Int):WN:=(wantC rows signs).or ((fs (rowF rows) rows.length).or (fs (sgF signs) signs.length))
structure PtOk(rows:List (List Int))(signs:List Int):Prop where
 n0:0<rows.length
 n1:rows.length≤100
 s:signs.length=rows.length
 l:∀ k,k<rows.length→letOk rows k
 x:∀ k,k<rows.length→nxOk rows k
 g:∀ k,k<signs.length→sgOk signs k
theorem wantC_ok{rows:List (List Int)}{signs:List Int}(h:wantC rows signs=none):0<rows.length∧rows.length≤100∧signs.length=rows.length:=by
 unfold wantC at h
 split at h
 ·cases h
 ·split at h
  ·cases h
  ·omega
theorem dL_inj{a b:List (List Int)}(h:dL a=dL b):a=b:=by
 have h':a.map dI=b.map dI:=by injection h
 refine (List.map_inj_right fun x y e=>?_).mp h'
 have e':x.map PyData.int=y.map PyData.int:=by injection e
 exact (List.map_inj_right fun _ _ e=>PyData.int.inj e).mp e'
theorem dI_inj{a b:List Int}(h:dI a=dI b):a=b:=by
 have h':a.map PyData.int=b.map PyData.int:=by injection h
 exact (List.map_inj_right fun _ _ e=>PyData.int.inj e).mp h'
section
variable{Q:TV→Prop}{X:Exc→Prop}{C:Addr}{rows:List (List Int)}{signs:List Int}{k:Nat}
theorem use_wc(hz:Sz rows signs)(q:wantC rows signs=none→Q (.av (.d .none)))(qx:∀ wd n,wantC rows signs=some (wd,n)→X (exD C wd n)):ClR Pre_wc Post_wc (PX_wc C) [] Q X [.av (.d (dL rows)),.av (.d (dI signs))] :=
 ⟨[.d (dL rows),.d (dI signs)],.cons (.d NR.av rfl) (.cons (.d NR.av rfl) .nil),⟨rows,signs,rfl,hz.1,hz.2.1⟩,fun c ⟨r,s,e,h,ec⟩=>by
  simp only[List.append_nil,List.cons.injEq,AV.d.injEq,and_true] at e
  have e1:=dL_inj e.1
  have e2:=dI_inj e.2
  subst e1 e2 ec
  exact⟨_,Got.own rfl,q h⟩,fun x ⟨r,s,wd,n,e,h,ex⟩=>by
  simp only[List.append_nil,List.cons.injEq,AV.d.injEq,and_true] at e
  have e1:=dL_inj e.1
  have e2:=dI_inj e.2
  subst e1 e2 ex
  exact qx wd n h⟩
theorem use_wl(hz:Sz rows [])(hk:k<rows.length)(q:letOk rows k→Q (.av (.d .none)))(qx:¬ letOk rows k→X (exD C "letters" k)):ClR Pre_wl Post_wl (PX_wl C) [] Q X [.av (.d (dL rows)),.av (.d (.int k)),.av (.d (.int 1)),.av (.d (.int 64))] :=
 ⟨[.d (dL rows),.d (.int k),.d (.int 1),.d (.int 64)],.cons (.d NR.av rfl) (.cons (.d NR.av rfl) (.cons (.d NR.av rfl) (.cons (.d NR.av rfl) .nil))),⟨rows,k,rfl,hz,hk⟩,fun c ⟨r,j,e,h,ec⟩=>by
  simp only[List.append_nil,List.cons.injEq,AV.d.injEq,PyData.int.injEq,and_true] at e
  have e1:=dL_inj e.1
  have e2:k=j:=by omega
  subst e1 e2 ec
  exact⟨_,Got.own rfl,q h⟩,fun x ⟨r,j,e,h,ex⟩=>by
  simp only[List.append_nil,List.cons.injEq,AV.d.injEq,PyData.int.injEq,and_true] at e
  have e1:=dL_inj e.1
  have e2:k=j:=by omega
  subst e1 e2 ex
  exact qx h⟩
theorem use_wr(hz:Sz rows [])(hk:k<rows.length)(q:nxOk rows k→Q (.av (.d .none)))(qx:¬ nxOk rows k→X (exD C "next" k)):ClR Pre_wr Post_wr (PX_wr C) [] Q X [.av (.d (dL rows)),.av (.d (.int k))] :=
 ⟨[.d (dL rows),.d (.int k)],.cons (.d NR.av rfl) (.cons (.d NR.av rfl) .nil),⟨rows,k,rfl,hz,hk⟩,fun c ⟨r,j,e,h,ec⟩=>by
  simp only[List.append_nil,List.cons.injEq,AV.d.injEq,PyData.int.injEq,and_true] at e
  have e1:=dL_inj e.1
  have e2:k=j:=by omega
  subst e1 e2 ec
  exact⟨_,Got.own rfl,q h⟩,fun x ⟨r,j,e,h,ex⟩=>by
  simp only[List.append_nil,List.cons.injEq,AV.d.injEq,PyData.int.injEq,and_true] at e
  have e1:=dL_inj e.1
  have e2:k=j:=by omega
  subst e1 e2 ex
  exact qx h⟩
theorem use_wg(hz:signs.length≤100000)(q:(∀ k,k<signs.length→sgOk signs k)→Q (.av (.d .none)))(qx:∀ k,k<signs.length→(∀ j,j<k→sgOk signs j)→¬ sgOk signs k→X (exD C "sign" k)):ClR Pre_wg Post_wg (PX_wg C) [] Q X [.av (.d (dI signs))] :=
 ⟨[.d (dI signs)],.cons (.d NR.av rfl) .nil,⟨signs,rfl,hz⟩,fun c ⟨s,e,h,ec⟩=>by
  simp only[List.append_nil,List.cons.injEq,AV.d.injEq,and_true] at e
  have e2:=dI_inj e
  subst e2 ec
  exact⟨_,Got.own rfl,q h⟩,fun x ⟨s,k,e,h1,h2,h3,ex⟩=>by
  simp only[List.append_nil,List.cons.injEq,AV.d.injEq,and_true] at e
  have e2:=dI_inj e
  subst e2 ex
  exact qx k h1 h2 h3⟩
end
noncomputable def Pre_wp(cs:List AV):Prop:=∃ (rows:List (List Int)) (signs:List Int),cs=[.d (dL rows),.d (dI signs),.d (.int 1),.d (.int 64)]∧Sz rows signs
noncomputable def Post_wp(cs:List AV)(c:AV):Prop:=∃ (rows:List (List Int)) (signs:List Int),cs=[.d (dL rows),.d (dI signs),.d (.int 1),.d (.int 64)]∧partsO rows signs=none∧PtOk rows signs∧c=.d .none
noncomputable def PX_wp(C:Addr)(cs:List AV)(e:Exc):Prop:=∃ (rows:List (List Int)) (signs:List Int) (wd:Str) (n:Int),cs=[.d (dL rows),.d (dI signs),.d (.int 1),.d (.int 64)]∧partsO rows signs=some (wd,n)∧e=exD C wd n
section
variable{C_WheelError C_NoMachine C_NoText:Addr}
theorem okb_want_parts(T:Txt K mg)(Z:Cs K mg C_WheelError C_NoMachine C_NoText):Cal P w K mg base (CXE P w) 4 "want_parts" ["rows", "signs", "fewest", "most"] [] (spR K Pre_wp Post_wp (PX_wp C_NoMachine)):=by
 have c_want_counts:Cal P w K mg base (CXE P w) 3 "want_counts" ["rows", "signs"] [] (spR K Pre_wc Post_wc (PX_wc C_NoMachine)):=okb_want_counts T Z
 have c_want_letters:Cal P w K mg base (CXE P w) 3 "want_letters" ["rows", "room", "fewest", "most"] [] (spR K Pre_wl Post_wl (PX_wl C_NoMachine)):=okb_want_letters T Z
 have c_want_rooms:Cal P w K mg base (CXE P w) 3 "want_rooms" ["rows", "room"] [] (spR K Pre_wr Post_wr (PX_wr C_NoMachine)):=okb_want_rooms T Z
 have c_want_signs:Cal P w K mg base (CXE P w) 3 "want_signs" ["signs"] [] (spR K Pre_wg Post_wg (PX_wg C_NoMachine)):=okb_want_signs T Z
 refine valRX T.x_want_parts sc_want_parts (fun cs ⟨r,s,e,_⟩=>by rw[e];rfl) (fun f cdv A outer s H E hr=>?_) [] (by simp)
 refine⟨_,(pss_cons (ps_expr (pe_calX (c_want_counts.mono (by decide)) hr rfl (pa_cons (pv 0) (pa_cons (pv 1) pa_nil))))
   (pss_cons (ps_for (passes_XE rfl rfl) rfl (pi_range1 rfl T.n_range (pa_cons (pe_callB (call_lenAny (K:=K) rfl) rfl T.n_len PySem.boot_len (pa_cons (pv 0) pa_nil)) pa_nil)) (pg_name (i:=4) sc_want_parts.nd rfl (Or.inl rfl))
    (pss_cons (ps_expr (pe_calX (c_want_letters.mono (by decide)) hr rfl (pa_cons (pv 0) (pa_cons (pv 4) (pa_cons (pv 2) (pa_cons (pv 3) pa_nil))))))
    (pss_one (ps_expr (pe_calX (c_want_rooms.mono (by decide)) hr rfl (pa_cons (pv 0) (pa_cons (pv 4) pa_nil)))))))
   (pss_one (ps_expr (pe_calX (c_want_signs.mono (by decide)) hr rfl (pa_cons (pv 1) pa_nil)))))),?_⟩
 rintro cs ⟨rows,signs,rfl,hz⟩
 have hz':Sz rows []:=⟨hz.1,by simp,hz.2.2⟩
 show Sv K _ _ _ [some (.d (dL rows)),some (.d (dI signs)),some (.d (.int 1)),some (.d (.int 64)),none] _
 walk_at "vs"
 refine use_wc hz (fun hc=>?_) fun wd n h=>⟨rows,signs,wd,n,rfl,by unfold partsO;rw[h];rfl,rfl⟩
 obtain⟨n0,n1,ns⟩:=wantC_ok hc
 have z1:=hz.1
 walk_at "vs"
 refine for_R ?_
 walk_at "vs"
 refine len_L rfl ?_
 rw[List.length_map]
 walk_at "vs"
 refine⟨((rows.length:Nat):Int),rfl,⟨by omega,by omega⟩,fun i ρ=>∃ o,ρ=[some (.d (dL rows)),some (.d (dI signs)),some (.d (.int 1)),some (.d (.int 64)),o]∧∀ j,j<i→letOk rows j∧nxOk rows j,⟨none,rfl,fun j hj=>by omega⟩,?_,?_⟩
 ·rintro i ρ hi ⟨o,rfl,hg⟩
  have hi:i<rows.length:=by omega
  have hpre:∀ j,j<i→rowF rows j=none:=fun j hj=>by unfold rowF;rw[if_pos (hg j hj).1,if_pos (hg j hj).2]
  walk_at "vs"
  refine use_wl hz' hi (fun hl=>?_) fun hl=>⟨rows,signs, "letters",i,rfl,by
   unfold partsO
   rw[hc,fs_some hi hpre (by unfold rowF;rw[if_neg hl])]
   rfl,rfl⟩
  walk_at "vs"
  refine use_wr hz' hi (fun hx=>?_) fun hx=>⟨rows,signs, "next",i,rfl,by
   unfold partsO
   rw[hc,fs_some hi hpre (by unfold rowF;rw[if_pos hl,if_neg hx])]
   rfl,rfl⟩
  walk_at "vs"
  refine⟨_,rfl,fun j hj=>?_⟩
  by_cases e:j<i
  ·exact hg j e
  ·have:j=i:=by omega
   subst this
   exact⟨hl,hx⟩
 rintro ρ ⟨o,rfl,hg⟩
 rw[Int.toNat_natCast] at hg
 have hrow:fs (rowF rows) rows.length=none:=fs_none fun j hj=>by unfold rowF;rw[if_pos (hg j hj).1,if_pos (hg j hj).2]
 walk_at "vs"
 refine use_wg hz.2.1 (fun hs=>?_) fun k h1 h2 h3=>⟨rows,signs, "sign",k,rfl,by
  unfold partsO
  rw[hc,hrow,fs_some h1 (fun j hj=>by unfold sgF;rw[if_pos (h2 j hj)]) (by unfold sgF;rw[if_neg h3])]
  rfl,rfl⟩
 walk_at "vs"
 exact⟨rows,signs,rfl,by
  unfold partsO
  rw[hc,hrow,fs_none fun j hj=>by unfold sgF;rw[if_pos (hs j hj)]]
  rfl,⟨n0,n1,ns,fun k hk=>(hg k hk).1,fun k hk=>(hg k hk).2,hs⟩,rfl⟩
end
noncomputable def S_in_tuples(ds:List PyData)(c:AV):Prop:=∃ M:Mach,ds=[dRows M.rows,dI M.signs]∧M.rows.length≤100000∧c=.d (dM M)
theorem ok_in_tuples(T:Txt K mg):Cal P w K mg base (CXE P w) 1 "in_tuples" ["rows", "signs"] [] (spV K S_in_tuples NX):=by
 refine val T.x_in_tuples sc_in_tuples (fun ds c ⟨M,e,_⟩=>by rw[e];rfl) (fun f cdv A outer s H E hr=>?_) [] (by simp)
 refine⟨_,(pss_one (ps_ret (pe_tup (pa_cons (pe_callTy (call_tupK (K:=K) rfl) rfl T.n_tuple PyProof.Rows.boot_tuple (pa_cons (pe_comp (N:=["row"]) (cap:=[none]) rfl rfl rfl (by kernel_rfl) (pi_seq (K:=K) rfl (pv 0)) (fun _ _ _ _=>(pg_name (i:=0) (show (["row"]:List Str).Nodup from by decide +kernel) rfl (Or.inl rfl))) (fun _ _ _ _=>pifs_nil) (fun _ _ _ _=>(pe_callTy (call_tupK (K:=K) rfl) rfl T.n_tuple PyProof.Rows.boot_tuple (pa_cons (pv 0) pa_nil)))) pa_nil)) (pa_cons (pe_callTy (call_tupK (K:=K) rfl) rfl T.n_tuple PyProof.Rows.boot_tuple (pa_cons (pv 1) pa_nil)) pa_nil))))),?_⟩
 rintro ds c ⟨M,rfl,hz,rfl⟩
 show Sv K _ _ _ [some (.d (dRows M.rows)),some (.d (dI M.signs))] _
 walk_at "vs"
 refine ev_tup ?_
 walk_at "vs"
 refine comp_M (α:=List Int) ?_
 walk_at "vs"
 refine⟨M.rows,dI,fun x=>.d (tI x),.inl rfl,NR.av,by omega,fun i hi=>?_,_,Got.own (clean_map fun x=>tI_flat x),?_⟩
 ·show Gv K _ _ [none] _
  walk_at "vs"
  refine⟨wk_0,?_⟩
  walk_at "vs"
  exact bi_tupL (ds:=M.rows[i].map .int) rfl (.inl rfl) rfl
 walk_at "vs"
 refine bi_tupL (ds:=M.rows.map tI) (by rw[TV.data,AV.data,datas_mapd]) (.inl rfl) ?_
 walk_at "vs"
 refine bi_tupL (ds:=M.signs.map .int) rfl (.inl rfl) ?_
 walk_at "vs"
 exact⟨[.d (tR M.rows),.d (tI M.signs)],.cons rfl (.cons rfl .nil),by simp,res_d rfl⟩
theorem use_in_tuples{Q:TV→Prop}{M:Mach}{a b:TV}(na:NR a)(nb:NR b)(ha:a.data=dRows M.rows)(hb:b.data=dI M.signs)(hz:M.rows.length≤100000)(q:Q (.av (.d (dM M)))):Cl S_in_tuples [] Q [a,b] :=
 call_of (.cons na (.cons nb .nil)) ⟨M,by simp[ha,hb],hz,rfl⟩ (Got.own (dM_flat M)) q
noncomputable def S_whole(ds:List PyData)(c:AV):Prop:=∃ k:Int,ds=[.int k]∧c=.d (.bool true)
theorem ok_whole(T:Txt K mg):Cal P w K mg base (CXE P w) 1 "_law_whole" ["_law_found"] [] (spV K S_whole NX):=by
 refine val T.x_law_whole sc_law_whole (fun ds c ⟨k,e,_⟩=>by rw[e];rfl) (fun f cdv A outer s H E hr=>?_) [] (by simp)
 refine⟨_,(pss_one (ps_ret (pe_and (pe_callB (call_isi2K (K:=K) rfl) rfl T.n_isinstance PyProof.Rows.boot_isinstance (pa_cons (pv 0) (pa_cons (pe_bltn (v:=.ty "int") rfl T.n_int PyProof.Rows.boot_int rfl) pa_nil))) (pe_one (pe_not (pe_callB (call_isi2K (K:=K) rfl) rfl T.n_isinstance PyProof.Rows.boot_isinstance (pa_cons (pv 0) (pa_cons (pe_bltn (v:=.ty "bool") rfl T.n_bool PyProof.Rows.boot_bool rfl) pa_nil)))))))),?_⟩
 rintro ds c ⟨k,rfl,rfl⟩
 show Sv K _ _ _ [some (.d (.int k))] _
 walk_at "vs"
 refine isi_int_int ?_
 walk_at "vs"
 refine isi_int_bool ?_
 walk_at "vs"
 exact res_d rfl
theorem use_whole{Q:TV→Prop}{k:Int}(q:Q (.av (.d (.bool true)))):Cl S_whole [] Q [.av (.d (.int k))]:=call_of (by walk_at "nrs") ⟨k,rfl,rfl⟩ (Got.own rfl) q
noncomputable def frO(rows:List (List Int)):WN:=if (rows.getD 0 []).getD 0 0=0 then none else some ("front",0)
noncomputable def machO(rows:List (List Int))(signs:List Int):WN:=(partsO rows signs).or (frO rows)
noncomputable def Pre_mo(cs:List AV):Prop:=∃ (rows:List (List Int)) (signs:List Int),cs=[.d (dL rows),.d (dI signs)]∧Sz rows signs
noncomputable def Post_mo(cs:List AV)(c:AV):Prop:=∃ (rows:List (List Int)) (signs:List Int),cs=[.d (dL rows),.d (dI signs)]∧machO rows signs=none∧PtOk rows signs∧c=.d (dM ⟨rows,signs⟩)
noncomputable def PX_mo(C:Addr)(cs:List AV)(e:Exc):Prop:=∃ (rows:List (List Int)) (signs:List Int) (wd:Str) (n:Int),cs=[.d (dL rows),.d (dI signs)]∧machO rows signs=some (wd,n)∧e=exD C wd n
section
variable{Q:TV→Prop}{X:Exc→Prop}{C:Addr}{rows:List (List Int)}{signs:List Int}{k:Nat}
theorem use_wp(hz:Sz rows signs)(q:partsO rows signs=none→PtOk rows signs→Q (.av (.d .none)))(qx:∀ wd n,partsO rows signs=some (wd,n)→X (exD C wd n)):ClR Pre_wp Post_wp (PX_wp C) [] Q X [.av (.d (dL rows)),.av (.d (dI signs)),.av (.d (.int 1)),.av (.d (.int 64))] :=
 ⟨[.d (dL rows),.d (dI signs),.d (.int 1),.d (.int 64)],.cons (.d NR.av rfl) (.cons (.d NR.av rfl) (.cons (.d NR.av rfl) (.cons (.d NR.av rfl) .nil))),⟨rows,signs,rfl,hz⟩,fun c ⟨r,s,e,h,h2,ec⟩=>by
  simp only[List.append_nil,List.cons.injEq,AV.d.injEq,and_true] at e
  have e1:=dL_inj e.1
  have e2:=dI_inj e.2
  subst e1 e2 ec
  exact⟨_,Got.own rfl,q h h2⟩,fun x ⟨r,s,wd,n,e,h,ex⟩=>by
  simp only[List.append_nil,List.cons.injEq,AV.d.injEq,and_true] at e
  have e1:=dL_inj e.1
  have e2:=dI_inj e.2
  subst e1 e2 ex
  exact qx wd n h⟩
theorem use_mo{a b:TV}(na:NR a)(nb:NR b)(ha:a.data=dL rows)(hb:b.data=dI signs)(hz:Sz rows signs)(q:machO rows signs=none→PtOk rows signs→Q (.av (.d (dM ⟨rows,signs⟩))))(qx:∀ wd n,machO rows signs=some (wd,n)→X (exD C wd n)):ClR Pre_mo Post_mo (PX_mo C) [] Q X [a,b] :=
 ⟨[.d (dL rows),.d (dI signs)],.cons (.d na ha) (.cons (.d nb hb) .nil),⟨rows,signs,rfl,hz⟩,fun c ⟨r,s,e,h,h2,ec⟩=>by
  simp only[List.append_nil,List.cons.injEq,AV.d.injEq,and_true] at e
  have e1:=dL_inj e.1
  have e2:=dI_inj e.2
  subst e1 e2 ec
  exact⟨_,Got.own (dM_flat _),q h h2⟩,fun x ⟨r,s,wd,n,e,h,ex⟩=>by
  simp only[List.append_nil,List.cons.injEq,AV.d.injEq,and_true] at e
  have e1:=dL_inj e.1
  have e2:=dI_inj e.2
  subst e1 e2 ex
  exact qx wd n h⟩
end
section
variable{C_WheelError C_NoMachine C_NoText:Addr}
theorem okb_machine_of(T:Txt K mg)(Z:Cs K mg C_WheelError C_NoMachine C_NoText):Cal P w K mg base (CXE P w) 5 "machine_of" ["rows", "signs"] [] (spR K Pre_mo Post_mo (PX_mo C_NoMachine)):=by
 have c_want_parts:Cal P w K mg base (CXE P w) 4 "want_parts" ["rows", "signs", "fewest", "most"] [] (spR K Pre_wp Post_wp (PX_wp C_NoMachine)):=okb_want_parts T Z
 have c_in_tuples:Cal P w K mg base (CXE P w) 1 "in_tuples" ["rows", "signs"] [] (spV K S_in_tuples NX):=ok_in_tuples T
 obtain⟨fI,fdI,x_NoMachine,i_NoMachine,b_NoMachine⟩:=ini (P:=P) (w:=w) (base:=base) Z
 refine valRX T.x_machine_of sc_machine_of (fun cs ⟨r,s,e,_⟩=>by rw[e];rfl) (fun f cdv A outer s H E hr=>?_) [] (by simp)
 refine⟨_,(pss_cons (ps_expr (pe_calX (c_want_parts.mono (by decide)) hr rfl (pa_cons (pv 0) (pa_cons (pv 1) (pa_cons (pe_cst T.g_FEWEST_LETTERS rfl) (pa_cons (pe_cst T.g_MOST_LETTERS rfl) pa_nil))))))
   (pss_cons (ps_if (pt_cmpR (op_neq (K:=K) rfl hr.units) (pe_ix (ix_any (K:=K) rfl hr.units) (pe_ix (ix_any (K:=K) rfl hr.units) (pv 0) pe_int (fun _ _=>rfl)) pe_int (fun _ _=>rfl)) pe_int (nomark _))
    (pss_one (ps_raiseI PySem.F.excBase_ValueError rfl PySem.F.excBase_ValueError x_NoMachine rfl rfl Z.c_NoMachine i_NoMachine (hr.mono (by decide)) b_NoMachine (pa_cons pe_str (pa_cons pe_int pa_nil))))
    pss_nil)
   (pss_one (ps_ret (pe_cal (c_in_tuples.mono (by decide)) hr rfl passE (pa_cons (pv 0) (pa_cons (pv 1) pa_nil))))))),?_⟩
 rintro cs ⟨rows,signs,rfl,hz⟩
 show Sv K _ _ _ [some (.d (dL rows)),some (.d (dI signs))] _
 walk_at "vs"
 refine use_wp hz (fun hc hP=>?_) fun wd n h=>⟨rows,signs,wd,n,rfl,by unfold machO;rw[h];rfl,rfl⟩
 have n0:=hP.n0
 have n1:=hP.n1
 have hl:=(hP.l 0 n0).1
 walk_at "vs"
 refine ix_L rfl (atI_rowL (by decide) (by omega)) Item.d ?_
 rw[Int.toNat_zero]
 walk_at "vs"
 refine ix_L rfl (atI_intL (by decide) (by omega)) (Item.flat rfl) ?_
 rw[Int.toNat_zero]
 walk_at "vs"
 by_cases he:(rows.getD 0 []).getD 0 0=0
 ·rw[decide_eq_true he]
  walk_at "vs"
  refine use_in_tuples (M:=⟨rows,signs⟩) NR.av NR.av rfl rfl hz.1 ?_
  walk_at "vs"
  exact⟨_,res_d rfl,rows,signs,rfl,by unfold machO frO;rw[hc,if_pos he];rfl,hP,rfl⟩
 ·rw[decide_eq_false he]
  walk_at "vs"
  refine sv_raiseI ?_
  walk_at "vs"
  exact⟨by walk_at "nrs",rfl,by show 2≤1000;decide,rows,signs,_,_,rfl,by unfold machO frO;rw[hc,if_neg he];rfl,rfl⟩
theorem bi_i3{E:FK}{X:Exc→Sl→Prop}{bs:List TV}{Q:TV→Prop}(h:Bi K E X (rIsi2 K) bs Q):Bi K E X (rIsi3 K) bs Q:=fun H0 σ ρ ts as H vs QV s hl x k=>.inl (h H0 σ ρ ts as H vs QV s hl x k)
theorem Enc.bool:Enc PyData.bool 0:=⟨fun a b=>by cases a<;>cases b<;>simp[PyData.eqv],fun _=>by simp[PyData.canLay0],fun _=>by simp[PyData.depth]⟩
end
noncomputable def Pre_mix(cs:List AV):Prop:=∃ c k m:Int,cs=[.d (.int c),.d (.int k),.d (.int m)]∧(0≤k∧k<1000000)∧1≤m
noncomputable def Post_mix(cs:List AV)(c:AV):Prop:=∃ (m r:Int),cs.getLast?=some (.d (.int m))∧c=.d (.int r)∧0≤r∧r<m
theorem ok_mix(T:Txt K mg):Cal P w K mg base (CXE P w) 1 "_law_mix" ["_law_cell", "_law_k", "_law_most"] [] (spR K Pre_mix Post_mix NP):=by
 refine valR T.x_law_mix sc_law_mix (fun cs ⟨a,b,c,e,_⟩=>by rw[e];rfl) (fun f cdv A outer s H E hr=>?_) [] (by simp)
 refine⟨_,(pss_one (ps_ret (pe_op op_mod (pe_op op_fdiv (pe_op op_times (pe_op op_mod (pe_op (op_plus (K:=K) rfl) (pe_op op_times (pe_op (op_plus (K:=K) rfl) (pe_op op_mod (pv 0) pe_int) pe_int) pe_int) (pe_op op_times (pe_op (op_plus (K:=K) rfl) (pe_op op_times (pv 1) (pv 1)) pe_int) pe_int)) pe_int) (pe_op (op_plus (K:=K) rfl) (pv 1) pe_int)) pe_int) (pv 2)))),?_⟩
 rintro cs ⟨c,k,m,rfl,hk,hm⟩
 show Sv K _ _ _ [some (.d (.int c)),some (.d (.int k)),some (.d (.int m))] _
 walk_at "vi"
 exact⟨_,res_d rfl,m,_,rfl,rfl,Int.emod_nonneg _ (by omega),Int.emod_lt_of_pos _ (by omega)⟩
theorem use_mix{Q:TV→Prop}{X:Exc→Prop}{c k m:Int}(hk:0≤k∧k<1000000)(hm:1≤m)(q:∀ r:Int,0≤r→r<m→Q (.av (.d (.int r)))):ClR Pre_mix Post_mix NP [] Q X [.av (.d (.int c)),.av (.d (.int k)),.av (.d (.int m))] :=
 ⟨_,.cons (.d NR.av rfl) (.cons (.d NR.av rfl) (.cons (.d NR.av rfl) .nil)),⟨c,k,m,rfl,hk,hm⟩,fun _ ⟨m',r,e1,e2,h1,h2⟩=>by
  have e:m=m':=PyData.int.inj (AV.d.inj (Option.some.inj e1))
  subst e
  exact e2▸⟨_,Got.own rfl,q r h1 h2⟩,fun _ z=>z.elim⟩
theorem oL_clean(rows:List (List Int)):(oL rows).clean=true:=clean_map fun x=>oI_clean x
noncomputable abbrev dMl(M:Mach):PyData:=.tuple [dRows M.rows,dI M.signs]
noncomputable def Ints(n:Nat)(m:Int)(ys:List AV):Prop:=∃ xs:List Int,ys=xs.map (fun k=>.d (.int k))∧xs.length=n∧∀ x∈xs,0≤x∧x<m
theorem Ints.nil{m:Int}:Ints 0 m []:=⟨[],rfl,rfl,by simp⟩
theorem Ints.snoc{n:Nat}{m r:Int}{ys:List AV}(h:Ints n m ys)(h0:0≤r)(h1:r<m):Ints (n+1) m (ys++[.d (.int r)]):=by
 obtain⟨xs,rfl,h2,h3⟩:=h
 refine⟨xs++[r],by rw[List.map_append];rfl,by simp[h2],fun x hx=>?_⟩
 rcases List.mem_append.mp hx with hx|hx
 ·exact h3 x hx
 ·rw[List.mem_singleton.mp hx];exact⟨h0,h1⟩
noncomputable def Pre_machine(cs:List AV):Prop:=∃ c r l m:Int,cs=[.d (.int c),.d (.int r),.d (.int l),.d (.int m)]∧(1≤r∧r≤100)∧(1≤l∧l≤64)∧(1≤m∧m≤10)
noncomputable def Post_machine(cs:List AV)(c:AV):Prop:=∃ (c0 r l m:Int) (M:Mach),cs=[.d (.int c0),.d (.int r),.d (.int l),.d (.int m)]∧Good r l m M∧c=.tup [oL M.rows,oI M.signs]
theorem ok_machine(T:Txt K mg):Cal P w K mg base (CXE P w) 2 "_law_machine" ["_law_cell", "_law_rooms", "_law_letters", "_law_most"] [] (spR K Pre_machine Post_machine NP):=by
 have c_law_mix:Cal P w K mg base (CXE P w) 1 "_law_mix" ["_law_cell", "_law_k", "_law_most"] [] (spR K Pre_mix Post_mix NP):=ok_mix T
 refine valR T.x_law_machine sc_law_machine (fun cs ⟨a,b,c,k,e,_⟩=>by rw[e];rfl) (fun f cdv A outer s H E hr=>?_) [] (by simp)
 refine⟨_,(pss_cons (ps_set (i:=4) sc_law_machine.nd rfl (Or.inl rfl) (pe_lst pa_nil))
   (pss_cons (ps_for PassesOwn.never rfl (pi_range1 rfl T.n_range (pa_cons (pv 1) pa_nil)) (pg_name (i:=5) sc_law_machine.nd rfl (Or.inr rfl))
    (pss_one (ps_expr (pe_bmK (K:=K) rfl PySem.F.plainAttrs_list PySem.F.slot_list_append PySem.F.type_list_append mt_append (pv 4) (pa_cons (pe_comp (N:=["_law_k", "_law_cell", "_law_room", "_law_rooms"]) (cap:=[none,some 0,some 5,some 1]) rfl rfl rfl (by kernel_rfl) (pi_range1 rfl T.n_range (pa_cons (pv 2) pa_nil)) (fun _ _ _ _=>(pg_name (i:=0) (show (["_law_k", "_law_cell", "_law_room", "_law_rooms"]:List Str).Nodup from by decide +kernel) rfl (Or.inl rfl))) (fun _ _ _ _=>pifs_nil) (fun _ _ _ _=>(pe_cal (c_law_mix.mono (by decide)) hr rfl passE (pa_cons (pv 1) (pa_cons (pe_op (op_plus (K:=K) rfl) (pe_op op_times pe_int (pv 2)) (pv 0)) (pa_cons (pv 3) pa_nil)))))) pa_nil)))))
   (pss_cons (ps_asg pe_int (pg_sub (pe_ix (ix_any (K:=K) rfl hr.units) (pv 4) pe_int (fun _ _=>rfl)) pe_int (set_any hr.units)))
   (pss_one (ps_ret (pe_tup (pa_cons (pv 4) (pa_cons (pe_comp (N:=["_law_room", "_law_cell", "_law_most"]) (cap:=[none,some 0,some 3]) rfl rfl rfl (by kernel_rfl) (pi_range1 rfl T.n_range (pa_cons (pv 1) pa_nil)) (fun _ _ _ _=>(pg_name (i:=0) (show (["_law_room", "_law_cell", "_law_most"]:List Str).Nodup from by decide +kernel) rfl (Or.inl rfl))) (fun _ _ _ _=>pifs_nil) (fun _ _ _ _=>(pe_cal (c_law_mix.mono (by decide)) hr rfl passE (pa_cons (pe_op op_fdiv (pv 1) pe_int) (pa_cons (pe_op (op_plus (K:=K) rfl) (pe_op op_times pe_int (pv 0)) pe_int) (pa_cons (pv 2) pa_nil)))))) pa_nil)))))))),?_⟩
 rintro cs ⟨c,r,l,m,rfl,hr1,hl1,hm1⟩
 show Sv K _ _ _ [some (.d (.int c)),some (.d (.int r)),some (.d (.int l)),some (.d (.int m)),none,none] _
 walk_at "vi"
 refine for_R ?_
 walk_at "vi"
 refine⟨r,rfl,⟨by omega,by omega⟩,fun i ρ=>∃ (rows:List (List Int)) (o1:Option AV),ρ=[some (.d (.int c)),some (.d (.int r)),some (.d (.int l)),some (.d (.int m)),some (oL rows),o1]∧rows.length=i∧∀ x∈rows,(x.length:Int)=l∧∀ y∈x,0≤y∧y<r,⟨[],none,rfl,rfl,by simp⟩,?_,?_⟩
 ·rintro i ρ hi ⟨rows,o1,rfl,h1,h2⟩
  walk_at "vi"
  refine compR_R ?_
  walk_at "vi"
  refine⟨l,fun j ys=>Ints j r ys,rfl,⟨by omega,by omega⟩,Ints.nil,fun j ys hj hy=>?_,fun ys hy=>?_⟩
  ·show Gv K _ _ [none,some (.d (.int c)),some (.d (.int i)),some (.d (.int r))] _
   walk_at "vi"
   refine⟨wk_0,tv_allc ?_⟩
   walk_at "vi"
   refine use_mix (by omega) (by omega) fun z hz0 hz1=>?_
   exact⟨_,rfl,hy.snoc hz0 hz1⟩
  ·obtain⟨row,rfl,h3,h4⟩:=hy
   refine⟨_,Got.own (oI_clean row),?_⟩
   refine v_ap ?hz ?_
   case hz=>rw[List.length_map];omega
   rw[oL_snoc]
   refine⟨rows++[row],_,rfl,by simp[h1],fun x hx=>?_⟩
   rcases List.mem_append.mp hx with hx|hx
   ·exact h2 x hx
   ·rw[List.mem_singleton.mp hx];exact⟨by omega,h4⟩
 ·rintro ρ ⟨rows,o1,rfl,h1,h2⟩
  have hr0:0<rows.length:=by omega
  obtain⟨row0,rest,rfl⟩:∃ a b,rows=a::b:=by
   cases rows with
   | nil=>simp at hr0
   | cons a b=>exact⟨a,b,rfl⟩
  have hl0:0<row0.length:=by have:=(h2 row0 (.head _)).1;omega
  walk_at "vi"
  refine sv_ss4 ?_
  walk_at "vi"
  refine⟨0,0,row0.map fun k=>.d (.int k),rfl,?_,rfl,pu_int ⟨_,0,rfl,?_,?_⟩⟩
  ·unfold ixN;rw[List.length_map];simp
  ·unfold ixN;rw[List.length_map];simp[hl0]
  ·show Sv K _ _ _ [_,_,_,_,some (AV.own (((row0::rest).map oI).set 0 (.own ((row0.map fun k=>.d (.int k)).set 0 (.d (.int 0)))))),_] _
   have ee:AV.own (((row0::rest).map oI).set 0 (.own ((row0.map fun k=>.d (.int k)).set 0 (.d (.int 0)))))=oL (row0.set 0 0::rest):=by
    rw[← List.map_set];rfl
   rw[ee]
   generalize hM:row0.set 0 0::rest=rows2
   refine sv_retLO (n:=4) rfl ?_
   refine compR_R ?_
   walk_at "vi"
   refine⟨r,fun j ys=>Ints j m ys,rfl,⟨by omega,by omega⟩,Ints.nil,fun j ys hj hy=>?_,fun ys hy=>?_⟩
   ·show Gv K _ _ [none,some (.d (.int c)),some (.d (.int m))] _
    walk_at "vi"
    refine⟨wk_0,tv_allc ?_⟩
    walk_at "vi"
    refine use_mix (by omega) (by omega) fun z hz0 hz1=>?_
    exact⟨_,rfl,hy.snoc hz0 hz1⟩
   ·obtain⟨signs,rfl,h3,h4⟩:=hy
    refine⟨_,Got.own (oI_clean signs),?_⟩
    refine⟨oI signs,rfl,_,.inl rfl,c,r,l,m,⟨rows2,signs⟩,rfl,⟨by omega,by omega,?_,?_,by show (signs.length:Int)=r;omega,h4,?_⟩,rfl⟩
    ·show (rows2.length:Int)=r
     rw[← hM];simp only[List.length_cons] at h1 ⊢;omega
    ·intro x hx
     rw[← hM] at hx
     rcases List.mem_cons.mp hx with e|hx
     ·subst e
      refine⟨by rw[List.length_set];exact (h2 row0 (.head _)).1,fun y hy=>?_⟩
      rcases mem_set_row hy with hy|hy
      ·exact (h2 row0 (.head _)).2 y hy
      ·subst hy;omega
     ·exact h2 x (.tail _ hx)
    ·show (rows2.getD 0 []).getD 0 0=0
     rw[← hM]
     cases row0 with
     | nil=>simp at hl0
     | cons a b=>rfl
theorem use_machine{Q:TV→Prop}{X:Exc→Prop}{c r l m:Int}(h1:1≤r∧r≤100)(h2:1≤l∧l≤64)(h3:1≤m∧m≤10)(q:∀ M,Good r l m M→Q (.av (.tup [oL M.rows,oI M.signs]))):ClR Pre_machine Post_machine NP [] Q X [.av (.d (.int c)),.av (.d (.int r)),.av (.d (.int l)),.av (.d (.int m))] :=
 ⟨_,.cons (.d NR.av rfl) (.cons (.d NR.av rfl) (.cons (.d NR.av rfl) (.cons (.d NR.av rfl) .nil))),⟨c,r,l,m,rfl,h1,h2,h3⟩,fun d hc=>by
  obtain⟨c',r',l',m',M,e,hM,rfl⟩:=hc
  simp only[List.append_nil,List.cons.injEq,AV.d.injEq,PyData.int.injEq,and_true] at e
  obtain⟨_,e2,e3,e4⟩:=e
  have e2:=PyData.int.inj e2
  have e3:=PyData.int.inj e3
  have e4:=PyData.int.inj e4
  subst e2 e3 e4
  exact⟨_,Got.own (by show (((oL M.rows).clean && ((oI M.signs).clean && true))=true);rw[oL_clean,oI_clean];rfl),q M hM⟩,fun _ z=>z.elim⟩
noncomputable def S_is_machine(ds:List PyData)(c:AV):Prop:=∃ M:Mach,ds=[dM M]∧M.rows.length≤100000∧c=.d (.bool true)
theorem ok_is_machine(T:Txt K mg):Cal P w K mg base (CXE P w) 2 "_law_is_machine" ["_law_found"] [] (spV K S_is_machine NX):=by
 have c_law_whole:Cal P w K mg base (CXE P w) 1 "_law_whole" ["_law_found"] [] (spV K S_whole NX):=ok_whole T
 refine val T.x_law_is_machine sc_law_is_machine (fun ds c ⟨M,e,_⟩=>by rw[e];rfl) (fun f cdv A outer s H E hr=>?_) [] (by simp)
 refine⟨_,(pss_cons (ps_if (PW.pt (pw_or (pt_not (pt_val (pe_callB (call_isi2K (K:=K) rfl) rfl T.n_isinstance PyProof.Rows.boot_isinstance (pa_cons (pv 0) (pa_cons (pe_bltn (v:=.ty "tuple") rfl T.n_tuple PyProof.Rows.boot_tuple rfl) pa_nil))))) (pw_or (pt_cmpR (op_neq (K:=K) rfl hr.units) (pe_callB (call_lenAny (K:=K) rfl) rfl T.n_len PySem.boot_len (pa_cons (pv 0) pa_nil)) pe_int (nomark _)) (pw_or1 (pt_not (pt_val (pe_callB (call_isi2K (K:=K) rfl) rfl T.n_isinstance PyProof.Rows.boot_isinstance (pa_cons (pe_ix (ix_any (K:=K) rfl hr.units) (pv 0) pe_int (fun _ _=>rfl)) (pa_cons (pe_bltn (v:=.ty "tuple") rfl T.n_tuple PyProof.Rows.boot_tuple rfl) pa_nil)))))))))
    (pss_one (ps_ret pe_bl))
    pss_nil)
   (pss_cons (ps_for PassesOwn.never rfl (pi_seq (K:=K) rfl (pe_op (op_plus (K:=K) rfl) (pe_ix (ix_any (K:=K) rfl hr.units) (pv 0) pe_int (fun _ _=>rfl)) (pe_tup (pa_cons (pe_ix (ix_any (K:=K) rfl hr.units) (pv 0) pe_int (fun _ _=>rfl)) pa_nil)))) (pg_name (i:=1) sc_law_is_machine.nd rfl (Or.inl rfl))
    (pss_cons (ps_if (pt_not (pt_val (pe_callB (call_isi2K (K:=K) rfl) rfl T.n_isinstance PyProof.Rows.boot_isinstance (pa_cons (pv 1) (pa_cons (pe_bltn (v:=.ty "tuple") rfl T.n_tuple PyProof.Rows.boot_tuple rfl) pa_nil)))))
     (pss_one (ps_ret pe_bl))
     pss_nil)
    (pss_one (ps_for PassesOwn.never rfl (pi_seq (K:=K) rfl (pv 1)) (pg_name (i:=2) sc_law_is_machine.nd rfl (Or.inl rfl))
     (pss_one (ps_if (pt_not (pt_val (pe_cal (c_law_whole.mono (by decide)) hr rfl passE (pa_cons (pv 2) pa_nil))))
      (pss_one (ps_ret pe_bl))
      pss_nil))))))
   (pss_one (ps_ret pe_bl)))),?_⟩
 rintro ds c ⟨M,rfl,hz,rfl⟩
 show Sv K _ _ _ [some (.d (dM M)),none,none] _
 walk_at "vm"
 refine isi_tuple rfl ?_
 walk_at "vm"
 refine len_T rfl ?_
 walk_at "vm"
 refine iteNS rfl ?_
 walk_at "vm"
 refine isi_tuple rfl ?_
 walk_at "vm"
 refine for_L (α:=List Int) ?_
 walk_at "vm"
 refine ev_tup ?_
 walk_at "vm"
 refine⟨[.d (tI M.signs)],.cons rfl .nil,by simp,?_⟩
 refine cat_T (ds:=M.rows.map tI) (es:=[tI M.signs]) rfl rfl Kp.d Kp.d (by rw[List.length_map];simp;omega) ?_
 refine⟨M.rows++[M.signs],tI,.inr (by rw[List.map_append];rfl),⟨_,rfl⟩,fun i ρ=>∃ o1 o2,ρ=[some (.d (dM M)),o1,o2],⟨none,none,rfl⟩,?_,?_⟩
 ·rintro i ρ hi ⟨o1,o2,rfl⟩
  generalize (M.rows++[M.signs])[i]=xs
  walk_at "vm"
  refine isi_tuple rfl ?_
  walk_at "vm"
  refine for_L (α:=Int) ?_
  walk_at "vm"
  refine⟨xs,PyData.int,.inr rfl,⟨_,rfl⟩,fun i ρ=>∃ o1,ρ=[some (.d (dM M)),some (.d (tI xs)),o1],⟨o2,rfl⟩,?_,?_⟩
  ·rintro j ρ hj ⟨o1,rfl⟩
   walk_at "vm"
   refine use_whole ?_
   walk_at "vm"
   exact⟨_,rfl⟩
  ·rintro ρ ⟨o1,rfl⟩
   exact⟨_,_,rfl⟩
 ·rintro ρ ⟨o1,o2,rfl⟩
  walk_at "vm"
  exact res_d rfl
theorem use_is_machine{Q:TV→Prop}{M:Mach}(hz:M.rows.length≤100000)(q:Q (.av (.d (.bool true)))):Cl S_is_machine [] Q [.av (.d (dM M))] :=
 call_of (by walk_at "nrs") ⟨M,rfl,hz,rfl⟩ (Got.own rfl) q
noncomputable def S_frozen(ds:List PyData)(c:AV):Prop:=∃ M:Mach,ds=[dMl M]∧M.rows.length≤100000∧c=.d (dM M)
theorem ok_frozen(T:Txt K mg):Cal P w K mg base (CXE P w) 1 "_law_frozen" ["_law_made"] [] (spV K S_frozen NX):=by
 refine val T.x_law_frozen sc_law_frozen (fun ds c ⟨M,e,_⟩=>by rw[e];rfl) (fun f cdv A outer s H E hr=>?_) [] (by simp)
 refine⟨_,(pss_one (ps_ret (pe_tup (pa_cons (pe_callTy (call_tupK (K:=K) rfl) rfl T.n_tuple PyProof.Rows.boot_tuple (pa_cons (pe_comp (N:=["_law_row"]) (cap:=[none]) rfl rfl rfl (by kernel_rfl) (pi_seq (K:=K) rfl (pe_ix (ix_any (K:=K) rfl hr.units) (pv 0) pe_int (fun _ _=>rfl))) (fun _ _ _ _=>(pg_name (i:=0) (show (["_law_row"]:List Str).Nodup from by decide +kernel) rfl (Or.inl rfl))) (fun _ _ _ _=>pifs_nil) (fun _ _ _ _=>(pe_callTy (call_tupK (K:=K) rfl) rfl T.n_tuple PyProof.Rows.boot_tuple (pa_cons (pv 0) pa_nil)))) pa_nil)) (pa_cons (pe_callTy (call_tupK (K:=K) rfl) rfl T.n_tuple PyProof.Rows.boot_tuple (pa_cons (pe_ix (ix_any (K:=K) rfl hr.units) (pv 0) pe_int (fun _ _=>rfl)) pa_nil)) pa_nil))))),?_⟩
 rintro ds c ⟨M,rfl,hz,rfl⟩
 show Sv K _ _ _ [some (.d (dMl M))] _
 walk_at "vm"
 refine ev_tup ?_
 walk_at "vm"
 refine comp_M (α:=List Int) ?_
 walk_at "vm"
 refine⟨M.rows,dI,fun x=>.d (tI x),.inl rfl,NR.av,by omega,fun i hi=>?_,_,Got.own (clean_map fun x=>tI_flat x),?_⟩
 ·show Gv K _ _ [none] _
  walk_at "vm"
  refine⟨wk_0,?_⟩
  walk_at "vm"
  exact bi_tupL (ds:=M.rows[i].map .int) rfl (.inl rfl) rfl
 walk_at "vm"
 refine bi_tupL (ds:=M.rows.map tI) (by rw[TV.data,AV.data,datas_mapd]) (.inl rfl) ?_
 walk_at "vm"
 refine bi_tupL (ds:=M.signs.map .int) rfl (.inl rfl) ?_
 walk_at "vm"
 exact⟨[.d (tR M.rows),.d (tI M.signs)],.cons rfl (.cons rfl .nil),by simp,res_d rfl⟩
theorem use_frozen{Q:TV→Prop}{M:Mach}{a:TV}(na:NR a)(ha:a.data=dMl M)(hz:M.rows.length≤100000)(q:Q (.av (.d (dM M)))):Cl S_frozen [] Q [a] :=
 call_of (.cons na .nil) ⟨M,by simp[ha],hz,rfl⟩ (Got.own (dM_flat M)) q
noncomputable abbrev t1(c:Nat):Str:=⟨#[c]⟩
noncomputable abbrev tw(w:List Nat):Str:=⟨w.toArray⟩
theorem tw_len(x:List Nat):(tw x).length=x.length:=List.size_toArray
theorem tw_eta(z:Str):tw z.cps.toList=z:=by cases z;rfl
theorem tw_inj{a b:List Nat}(e:tw a=tw b):a=b:=by simpa [tw] using e
theorem tw_app(x y:List Nat):tw x++tw y=tw (x++y):=by
 show (⟨x.toArray++y.toArray⟩:Str)=⟨(x++y).toArray⟩
 simp
noncomputable abbrev FIG:Str := "0123456789"
noncomputable def isDig(c:Nat):Bool:=decide (48≤c∧c≤57)
theorem contains_one(x:Str)(c:Nat):Txt.contains x (t1 c)=decide (c∈x.cps.toList):=by
 unfold Txt.contains
 rcases PySem.StrLaws.occ_head x (t1 c) 1 (Nat.le_refl 1) with⟨h0,hn⟩|⟨i,r,h0,hi,_⟩
 ·rw[h0]
  refine (decide_eq_false fun z=>?_).symm
  obtain⟨i,hi⟩:=(PyProof.Rows.mem_iff_at x c).mp z
  exact hn i hi
 ·rw[h0]
  exact (decide_eq_true ((PyProof.Rows.mem_iff_at x c).mpr ⟨i,hi⟩)).symm
theorem fig_one(c:Nat):Txt.contains FIG (t1 c)=isDig c:=by
 rw[contains_one]
 unfold isDig
 refine decide_eq_decide.mpr ?_
 rw[show FIG.cps.toList=[48,49,50,51,52,53,54,55,56,57] by decide +kernel]
 simp
 omega
noncomputable def numOk:List Nat→Bool
 | [d]=>isDig d
 | [d,e]=>(isDig d && isDig e) && decide (d≠48)
 | _=>false
noncomputable def vl(w:List Nat):Int:=(PySem.intText? (tw w)).getD 0
theorem vl_dig{w:List Nat}(h:∀ c∈w,48≤c∧c≤57)(hne:w≠[])(hl:w.length≤4300):PySem.intText? (tw w)=some (vl w)∧0≤vl w:=by
 have:=PySem.intText_digits (x:=tw w) h hne (by rw[tw_len];exact hl)
 unfold vl
 rw[this]
 exact⟨rfl,Int.natCast_nonneg _⟩
theorem num_dig{w:List Nat}(h:numOk w=true):(∀ c∈w,48≤c∧c≤57)∧w≠[]∧w.length≤2:=by
 match w,h with
 | [d],h =>
  have h:=of_decide_eq_true h
  exact⟨fun c hc=>by rw[List.mem_singleton.mp hc];exact h,by simp,by simp⟩
 | [d,e],h =>
  simp only[numOk,Bool.and_eq_true] at h
  have h1:=of_decide_eq_true h.1.1
  have h2:=of_decide_eq_true h.1.2
  refine⟨fun c hc=>?_,by simp,by simp⟩
  simp only[List.mem_cons,List.not_mem_nil,or_false] at hc
  rcases hc with rfl|rfl
  ·exact h1
  ·exact h2
theorem vl_ok{w:List Nat}(h:numOk w=true):PySem.intText? (tw w)=some (vl w)∧0≤vl w:=by
 obtain⟨h1,h2,h3⟩:=num_dig h
 exact vl_dig h1 h2 (by omega)
noncomputable def spl(c:Nat)(w:List Nat):List (List Nat):=(Txt.split (tw w) (t1 c)).map fun z=>z.cps.toList
theorem spl_eq(c:Nat)(w:List Nat):Txt.split (tw w) (t1 c)=(spl c w).map tw:=by
 unfold spl
 rw[List.map_map]
 exact (List.map_id'' (fun z=>tw_eta z) _).symm
theorem spl_ne(c:Nat)(w:List Nat):spl c w≠[]:=by
 have h:=PyProof.Rows.split_pos (tw w) (t1 c)
 intro e
 have e2:(Txt.split (tw w) (t1 c)).length=0:=by have:=congrArg List.length e;unfold spl at this;simpa using this
 omega
theorem join_mem(sep:Str):∀ {zs:List Str} {z:Str} {c:Nat},z∈zs→c∈z.cps.toList→c∈(Str.join sep zs).cps.toList
 | [x],z,c,hz,hc=>by rw[List.mem_singleton.mp hz] at hc;exact hc
 | x::y::r,z,c,hz,hc=>by
  show c∈((x++sep)++Str.join sep (y::r)).cps.toList
  rw[PySem.W.KT.app_list,PySem.W.KT.app_list]
  rcases List.mem_cons.mp hz with e|e
  ·rw[e] at hc
   exact List.mem_append_left _ (List.mem_append_left _ hc)
  ·exact List.mem_append_right _ (join_mem sep e hc)
theorem mem_join(sep:Str):∀ {zs:List Str} {c:Nat},c∈(Str.join sep zs).cps.toList→c∈sep.cps.toList∨∃ z∈zs,c∈z.cps.toList
 | [],c,h=>by cases (show c∈([]:List Nat) from h)
 | [x],c,h=>.inr ⟨x,.head _,h⟩
 | x::y::r,c,h=>by
  have h:c∈((x++sep)++Str.join sep (y::r)).cps.toList:=h
  rw[PySem.W.KT.app_list,PySem.W.KT.app_list] at h
  rcases List.mem_append.mp h with h|h
  ·rcases List.mem_append.mp h with h|h
   ·exact .inr ⟨x,.head _,h⟩
   ·exact .inl h
  ·rcases mem_join sep h with h|⟨z,hz,h⟩
   ·exact .inl h
   ·exact .inr ⟨z,.tail _ hz,h⟩
noncomputable def Pl(n:Nat)(w:List Nat):Prop:=w.length≤n∧∀ y∈w,y<128
theorem Pl.all{n:Nat}{w:List Nat}(h:Pl n w):(tw w).cps.all (· < 128)=true:=by
 rw[Array.all_eq_true]
 intro i hi
 have:=h.2 (w[i]'(by simpa using hi)) (List.getElem_mem _)
 simpa using this
theorem spl_pl{n c:Nat}{w:List Nat}(h:Pl n w){x:List Nat}(hx:x∈spl c w):Pl n x:=by
 unfold spl at hx
 obtain⟨z,hz,rfl⟩:=List.mem_map.mp hx
 refine⟨?_,fun y hy=>h.2 y ?_⟩
 ·have:=PyProof.Rows.part_short hz
  rw[tw_len] at this
  exact Nat.le_trans (by rw[Array.length_toList];exact this) h.1
 ·have:=join_mem (t1 c) hz hy
  rw[PySem.StrLaws.join_split] at this
  exact this
theorem spl_len{n c:Nat}{w:List Nat}(h:Pl n w):(spl c w).length≤n+1:=by
 have:=PyProof.Rows.split_weight (tw w) (t1 c) (Nat.le_refl 1)
 unfold spl
 rw[List.length_map]
 rw[tw_len] at this
 have:=h.1
 omega
noncomputable def roomOk:List Nat→Bool
 | d::e::r=>(decide (e=58) && isDig d) && (spl 44 r).all numOk
 | _=>false
noncomputable def rowOf(w:List Nat):List Int:=(spl 44 (w.drop 2)).map vl
noncomputable def sgnOf(w:List Nat):Int:=vl (w.take 1)
theorem spl_nil:(spl 44 []).all numOk=false:=by
 have e:spl 44 []=[[]]:=by decide +kernel
 rw[e];rfl
theorem sub_take(w:List Nat)(i:Nat):PySem.Builtin.Str.strSub (tw w) 0 i=tw (w.take i):=by
 refine congrArg PySem.Str.mk (Array.ext' ?_)
 simp
theorem sub_drop(w:List Nat)(i:Nat):PySem.Builtin.Str.strSub (tw w) i (tw w).length=tw (w.drop i):=by
 refine congrArg PySem.Str.mk (Array.ext' ?_)
 rw[tw_len]
 simp only[tw,List.extract_toArray,List.extract_eq_take_drop] 
 exact List.take_of_length_le (by rw[List.length_drop];omega)
theorem part_room{w:List Nat}:((decide ((Txt.partition (tw w) (t1 58)).1.length=1) && Txt.contains FIG (Txt.partition (tw w) (t1 58)).1) && (spl 44 (Txt.partition (tw w) (t1 58)).2.2.cps.toList).all numOk)=roomOk w:=by
 rcases PyProof.Rows.partition_whole (tw w) (t1 58) with⟨h,hn⟩|⟨i,h,hi,hn⟩
 ·rw[h]
  have e0:(Str.empty:Str).cps.toList=[]:=rfl
  show (_ && (spl 44 (Str.empty:Str).cps.toList).all numOk)=_
  rw[e0,spl_nil,Bool.and_false]
  match w with
  | []=>rfl
  | [d]=>rfl
  | d::e::r =>
   have:¬ e=58:=fun z=>hn 1 ((PySem.StrLaws.subAt_one _ _ _).mpr (by subst z;rfl))
   simp[roomOk,this]
 ·have hat:w[i]?=some 58:=(PySem.StrLaws.subAt_one _ _ _).mp hi
  have hno:∀ k,k<i→¬ w[k]?=some 58:=fun k hk z=>hn k hk ((PySem.StrLaws.subAt_one _ _ _).mpr z)
  rw[h]
  show ((decide ((PySem.Builtin.Str.strSub (tw w) 0 i).length=1) && Txt.contains FIG (PySem.Builtin.Str.strSub (tw w) 0 i)) && (spl 44 (PySem.Builtin.Str.strSub (tw w) (i+1) (tw w).length).cps.toList).all numOk)=_
  rw[sub_take,sub_drop,tw_len]
  match w,i with
  | [],_=>simp at hat
  | d::w,0 =>
   have e:d=58:=by simpa using hat
   subst e
   show _=roomOk (58::w)
   cases w with
   | nil=>rfl
   | cons e r =>
    show (false && _ && _)=((decide (e=58) && isDig 58) && _)
    rw[show isDig 58=false from rfl,Bool.and_false]
    rfl
  | [d],i+1=>simp at hat
  | d::e::r,1 =>
   have e:e=58:=by simpa using hat
   subst e
   show ((decide ([d].length=1) && Txt.contains FIG (t1 d)) && (spl 44 r).all numOk)=((decide ((58:Nat)=58) && isDig d) && (spl 44 r).all numOk)
   rw[fig_one]
   rfl
  | d::e::r,i+2 =>
   have ne:¬ e=58:=fun z=>hno 1 (by omega) (by subst z;rfl)
   have hl:¬ ((d::e::r).take (i+2)).length=1:=by
    rw[List.length_take]
    simp
   rw[decide_eq_false hl]
   simp[roomOk,ne]
theorem part_ok{d:Nat}{r:List Nat}(hd:isDig d=true):Txt.partition (tw (d::58::r)) (t1 58)=(t1 d,t1 58,tw r):=by
 have hd:=of_decide_eq_true hd
 rcases PyProof.Rows.partition_whole (tw (d::58::r)) (t1 58) with⟨h,hn⟩|⟨i,h,hi,hn⟩
 ·exact absurd ((PySem.StrLaws.subAt_one (tw (d::58::r)) 58 1).mpr rfl) (hn 1)
 ·have hat:(d::58::r)[i]?=some 58:=(PySem.StrLaws.subAt_one _ _ _).mp hi
  have e1:i=1:=by
   match i with
   | 0 =>
    have:d=58:=by simpa using hat
    omega
   | 1=>rfl
   | i+2=>exact absurd ((PySem.StrLaws.subAt_one (tw (d::58::r)) 58 1).mpr rfl) (hn 1 (by omega))
  subst e1
  rw[h,sub_take]
  show (_,_,PySem.Builtin.Str.strSub (tw (d::58::r)) 2 _)=_
  rw[sub_drop]
  rfl
theorem room_inv{w:List Nat}(h:roomOk w=true):∃ d r,w=d::58::r∧isDig d=true∧∀ x∈spl 44 r,numOk x=true:=by
 match w,h with
 | d::e::r,h =>
  simp only[roomOk,Bool.and_eq_true] at h
  have e1:=of_decide_eq_true h.1.1
  subst e1
  exact⟨d,r,rfl,h.1.2,fun x hx=>List.all_eq_true.mp h.2 x hx⟩
theorem sgn_ok{d:Nat}(h:isDig d=true):PySem.intText? (t1 d)=some (vl [d])∧0≤vl [d]∧vl [d]≤9:=by
 obtain⟨h1,h2⟩:=vl_ok (w:=[d]) h
 refine⟨h1,h2,?_⟩
 have hd:=of_decide_eq_true h
 have:=PySem.intText_digits (x:=tw [d]) (fun c hc=>by rw[List.mem_singleton.mp (show c∈[d] from hc)];exact hd) (by simp) (by rw[tw_len];simp)
 unfold vl
 rw[this]
 show ((0*10+(d-48):Nat):Int)≤9
 omega
noncomputable def S_if(ds:List PyData)(c:AV):Prop:=∃ z:Str,ds=[.str z]∧z.length≤100000∧c=.d (.bool (decide (z.length=1) && Txt.contains FIG z))
theorem ok_is_figure(T:Txt K mg):Cal P w K mg base (CXE P w) 1 "is_figure" ["word"] [] (spV K S_if NX):=by
 refine val T.x_is_figure sc_is_figure (fun ds c ⟨z,e,_⟩=>by rw[e];rfl) (fun f cdv A outer s H E hr=>?_) [] (by simp)
 refine⟨_,(pss_one (ps_ret (pe_and (pe_cmpR (op_equ (K:=K) rfl hr.units) (pe_callB (call_lenAny (K:=K) rfl) rfl T.n_len PySem.boot_len (pa_cons (pv 0) pa_nil)) pe_int (nomark _)) (pe_one (pe_cmpR (op_inA (K:=K) rfl hr.units) (pv 0) (pe_cstS T.g_FIGURES rfl) (by with_unfolding_all rfl)))))),?_⟩
 rintro ds c ⟨z,rfl,hz,rfl⟩
 show Sv K _ _ _ [some (.d (.str z))] _
 walk_at "vs"
 refine len_S rfl (by omega) ?_
 walk_at "vs"
 by_cases h:z.length=1
 ·rw[decide_eq_true (show ((z.length:Nat):Int)=1 by omega),decide_eq_true h,Bool.true_and]
  walk_at "vs"
  refine in_S (z:=FIG) rfl rfl ?_
  exact res_d rfl
 ·rw[decide_eq_false (show ¬ ((z.length:Nat):Int)=1 by omega),decide_eq_false h,Bool.false_and]
  walk_at "vs"
  exact res_d rfl
theorem use_if{Q:TV→Prop}{z:Str}{a:TV}(na:NR a)(ha:a.data=.str z)(hz:z.length≤100000)(q:Q (.av (.d (.bool (decide (z.length=1) && Txt.contains FIG z))))):Cl S_if [] Q [a]:=call_of (.cons na .nil) ⟨z,by simp[ha],hz,rfl⟩ (Got.own rfl) q
theorem Pl.ok{n:Nat}{w:List Nat}(h:Pl n w):PyData.strOk (tw w)=true:=by
 unfold PyData.strOk
 rw[Array.all_eq_true]
 intro i hi
 have:=h.2 (w[i]'(by simpa using hi)) (List.getElem_mem _)
 simp
 omega
theorem eq_S{Q:TV→Prop}{E:FK}{X:Exc→Sl→Prop}{n m:Nat}{w x:List Nat}{a b:TV}(na:NR a)(nb:NR b)(ha:a.data=.str (tw w))(hb:b.data=.str (tw x))(hw:Pl n w)(hx:Pl m x)(q:Q (.av (.d (.bool (decide (w=x)))))):Op K E X (rOr rEq (rEqD K)) a b Q:=by
 refine eq_d (f:=dS) (c:=⟨tw w,hw.ok⟩) (d:=⟨tw x,hx.ok⟩) Enc.str ha hb ?_ na nb
 rw[decide_eq_decide.mpr (show (⟨tw w,hw.ok⟩:OkS)=⟨tw x,hx.ok⟩↔w=x from ⟨fun e=>tw_inj (Subtype.mk.inj e),fun e=>Subtype.ext (by show tw w=tw x;rw[e])⟩)]
 exact q
theorem ne_S{Q:TV→Prop}{E:FK}{X:Exc→Sl→Prop}{n m:Nat}{w x:List Nat}{a b:TV}(na:NR a)(nb:NR b)(ha:a.data=.str (tw w))(hb:b.data=.str (tw x))(hw:Pl n w)(hx:Pl m x)(q:Q (.av (.d (.bool (!decide (w=x)))))):Op K E X (rOr rNe (rNeD K)) a b Q:=by
 refine ne_d (f:=dS) (c:=⟨tw w,hw.ok⟩) (d:=⟨tw x,hx.ok⟩) Enc.str ha hb ?_ na nb
 rw[decide_eq_decide.mpr (show (⟨tw w,hw.ok⟩:OkS)=⟨tw x,hx.ok⟩↔w=x from ⟨fun e=>tw_inj (Subtype.mk.inj e),fun e=>Subtype.ext (by show tw w=tw x;rw[e])⟩)]
 exact q
theorem Pl.one{c:Nat}(h:c<128):Pl 1 [c]:=⟨by simp,fun y hy=>by rw[List.mem_singleton.mp hy];exact h⟩
noncomputable def S_in(ds:List PyData)(c:AV):Prop:=∃ (w:List Nat),ds=[.str (tw w),.int 2]∧Pl 100000 w∧c=.d (.bool (numOk w))
theorem num_all(w:List Nat)(h:1≤w.length∧w.length≤2)(h0:¬ w.take 1=[48]):(w.map isDig).all id=numOk w:=by
 match w,h,h0 with
 | [d],_,_=>simp[numOk]
 | [d,e],_,h0 =>
  have:d≠48:=fun z=>h0 (by rw[z];rfl)
  simp[numOk,this]
 | _::_::_::_,h,_=>simp at h
theorem ok_is_number(T:Txt K mg):Cal P w K mg base (CXE P w) 1 "is_number" ["word", "most"] [] (spV K S_in NX):=by
 refine val T.x_is_number sc_is_number (fun ds c ⟨w,e,_⟩=>by rw[e];rfl) (fun f cdv A outer s H E hr=>?_) [] (by simp)
 refine⟨_,(pss_cons (ps_if (PW.pt (pw_or (pt_cmpR (op_equ (K:=K) rfl hr.units) (pe_callB (call_lenAny (K:=K) rfl) rfl T.n_len PySem.boot_len (pa_cons (pv 0) pa_nil)) pe_int (nomark _)) (pw_or1 (pt_cmpR op_gt (pe_callB (call_lenAny (K:=K) rfl) rfl T.n_len PySem.boot_len (pa_cons (pv 0) pa_nil)) (pv 1) (nomark _)))))
    (pss_one (ps_ret pe_bl))
    pss_nil)
   (pss_cons (ps_if (pt_cmpR (op_equ (K:=K) rfl hr.units) (pe_ix (ix_any (K:=K) rfl hr.units) (pv 0) pe_int (fun _ _=>rfl)) pe_str (nomark _))
    (pss_one (ps_ret (pe_cmpR (op_equ (K:=K) rfl hr.units) (pv 0) pe_str (nomark _))))
    pss_nil)
   (pss_one (ps_ret (pe_callB (call_allB (K:=K) rfl rfl) rfl T.n_all PyProof.Rows.boot_all (pa_cons (pe_comp (N:=["sign"]) (cap:=[none]) rfl rfl rfl (by kernel_rfl) (pi_str (pv 0)) (fun _ _ _ _=>(pg_name (i:=0) (show (["sign"]:List Str).Nodup from by decide +kernel) rfl (Or.inl rfl))) (fun _ _ _ _=>pifs_nil) (fun _ _ _ _=>(pe_cmpR (op_inA (K:=K) rfl hr.units) (pv 0) (pe_cstS T.g_FIGURES rfl) (by with_unfolding_all rfl)))) pa_nil)))))),?_⟩
 rintro ds c ⟨w,rfl,hw,rfl⟩
 have hl:=hw.1
 have hz:(tw w).length=w.length:=tw_len w
 show Sv K _ _ _ [some (.d (.str (tw w))),some (.d (.int 2))] _
 walk_at "vs"
 refine len_S rfl (by omega) ?_
 rw[hz]
 walk_at "vs"
 refine ite2 (fun h=>?_) fun h=>?_
 ·have h:w.length=0:=by have:=of_decide_eq_true h;omega
  rw[List.eq_nil_of_length_eq_zero h]
  walk_at "vs"
  exact res_d rfl
 have h0:¬ w.length=0:=fun z=>h (decide_eq_true (by omega))
 walk_at "vs"
 refine len_S rfl (by omega) ?_
 rw[hz]
 walk_at "vs"
 refine ite2 (fun h=>?_) fun h=>?_
 ·have h:2<w.length:=by have:=of_decide_eq_true h;omega
  walk_at "vs"
  refine res_d (congrArg (fun b=>AV.d (.bool b)) ?_)
  match w,h with
  | _::_::_::_,_=>rfl
 have h2:¬ 2<w.length:=fun z=>h (decide_eq_true (by omega))
 obtain⟨d,r,rfl⟩:∃ d r,w=d::r:=by
  cases w with
  | nil=>simp at h0
  | cons d r=>exact⟨d,r,rfl⟩
 walk_at "vs"
 refine ix_S (c:=d) rfl (by omega) (atI_of (by decide) rfl) ?_
 walk_at "vs"
 refine eq_S (w:=[d]) (x:=[48]) (n:=1) (m:=1) NR.av NR.av rfl rfl (Pl.one (hw.2 d (.head _))) (Pl.one (by decide)) ?_
 by_cases hd:d=48
 ·subst hd
  rw[decide_eq_true rfl]
  walk_at "vs"
  refine eq_S (w:=48::r) (x:=[48]) (n:=100000) (m:=1) NR.av NR.av rfl rfl hw (Pl.one (by decide)) ?_
  refine res_d (congrArg (fun b=>AV.d (.bool b)) ?_)
  cases r with
  | nil=>rfl
  | cons e r =>
   rw[decide_eq_false (by simp)]
   cases r with
   | nil=>simp[numOk]
   | cons _ _=>simp at h2
 ·rw[decide_eq_false (show ¬ [d]=[48] from fun z=>hd (by simpa using z))]
  walk_at "vs"
  refine comp_S ?_
  walk_at "vs"
  refine⟨tw (d::r),fun i=>.d (.bool (isDig ((d::r).getD i 0))),rfl,NR.av,hw.all,by omega,fun i hi=>?_,_,Got.own (clean_map fun _=>rfl),?_⟩
  ·show Gv K _ _ [none] _
   walk_at "vs"
   refine⟨wk_0,?_⟩
   walk_at "vs"
   refine in_S (y:=t1 ((tw (d::r)).cps.getD i 0)) (z:=FIG) rfl rfl ?_
   rw[fig_one]
   have e:(tw (d::r)).cps.getD i 0=(d::r).getD i 0:=by
    show (d::r).toArray.getD i 0=_
    rw[Array.getD_eq_getD_getElem?,List.getElem?_toArray,List.getD_eq_getElem?_getD]
   rw[e]
   rfl
  walk_at "vs"
  have em:(List.range (tw (d::r)).length).map (fun i=>isDig ((d::r).getD i 0))=(d::r).map isDig:=by
   refine List.ext_getElem (by rw[List.length_map,List.length_range,List.length_map,hz]) fun i h1 h2=>?_
   have hi:i<(d::r).length:=by rw[List.length_map] at h2;exact h2
   rw[List.getElem_map,List.getElem_map,List.getElem_range,List.getD_eq_getElem?_getD,List.getElem?_eq_getElem hi]
   rfl
  refine bi_all (cs:=(d::r).map isDig) ?_ ?_
  ·rw[TV.data,AV.data,datas_mapd,← em,List.map_map]
   rfl
  rw[num_all _ ⟨by omega,by omega⟩ (fun z=>hd (by simpa using z))]
  exact res_d rfl
theorem use_in{Q:TV→Prop}{w:List Nat}{a:TV}(na:NR a)(ha:a.data=.str (tw w))(hw:Pl 100000 w)(q:Q (.av (.d (.bool (numOk w))))):Cl S_in [] Q [a,.av (.d (.int 2))]:=call_of (.cons na (.cons NR.av .nil)) ⟨w,by show [a.data,PyData.int 2]=_;rw[ha],hw,rfl⟩ (Got.own rfl) q
noncomputable def S_ir(ds:List PyData)(c:AV):Prop:=∃ (w:List Nat),ds=[.str (tw w)]∧Pl 100000 w∧c=.d (.bool (roomOk w))
theorem part_pl{n:Nat}{w:List Nat}(h:Pl n w)(c:Nat):Pl n (Txt.partition (tw w) (t1 c)).1.cps.toList∧Pl n (Txt.partition (tw w) (t1 c)).2.2.cps.toList:=by
 rcases PyProof.Rows.partition_whole (tw w) (t1 c) with⟨e,_⟩|⟨i,e,_⟩
 ·rw[e];exact⟨h,Nat.zero_le _,fun y hy=>by cases (show y∈([]:List Nat) from hy)⟩
 ·rw[e,sub_take]
  show Pl n (w.take i)∧Pl n (PySem.Builtin.Str.strSub (tw w) (i+1) (tw w).length).cps.toList
  rw[sub_drop]
  exact⟨⟨Nat.le_trans (by rw[List.length_take];exact Nat.min_le_right ..) h.1,fun y hy=>h.2 y (List.mem_of_mem_take hy)⟩,⟨Nat.le_trans (by rw[List.length_drop];exact Nat.sub_le _ _) h.1,fun y hy=>h.2 y (List.mem_of_mem_drop hy)⟩⟩
theorem ok_is_room(T:Txt K mg):Cal P w K mg base (CXE P w) 2 "is_room" ["word"] [] (spV K S_ir NX):=by
 have c_is_figure:Cal P w K mg base (CXE P w) 1 "is_figure" ["word"] [] (spV K S_if NX):=ok_is_figure T
 have c_is_number:Cal P w K mg base (CXE P w) 1 "is_number" ["word", "most"] [] (spV K S_in NX):=ok_is_number T
 refine val T.x_is_room sc_is_room (fun ds c ⟨w,e,_⟩=>by rw[e];rfl) (fun f cdv A outer s H E hr=>?_) [] (by simp)
 refine⟨_,(pss_cons (ps_set (i:=1) sc_is_room.nd rfl (Or.inl rfl) (pe_bmK (K:=K) rfl PySem.F.plainAttrs_str PySem.F.slot_str_partition PySem.F.type_str_partition mt_part (pv 0) (pa_cons pe_str pa_nil)))
   (pss_one (ps_ret (pe_and (pe_cal (c_is_figure.mono (by decide)) hr rfl passE (pa_cons (pe_ix (ix_any (K:=K) rfl hr.units) (pv 1) pe_int (fun _ _=>rfl)) pa_nil)) (pe_one (pe_callB (call_allB (K:=K) rfl rfl) rfl T.n_all PyProof.Rows.boot_all (pa_cons (pe_comp (N:=["number"]) (cap:=[none]) rfl rfl rfl (by kernel_rfl) (pi_seq (K:=K) rfl (pe_bmK (K:=K) rfl PySem.F.plainAttrs_str PySem.F.slot_str_split PySem.F.type_str_split mt_split (pe_ix (ix_any (K:=K) rfl hr.units) (pv 1) pe_int (fun _ _=>rfl)) (pa_cons pe_str pa_nil))) (fun _ _ _ _=>(pg_name (i:=0) (show (["number"]:List Str).Nodup from by decide +kernel) rfl (Or.inl rfl))) (fun _ _ _ _=>pifs_nil) (fun _ _ _ _=>(pe_cal (c_is_number.mono (by decide)) hr rfl passE (pa_cons (pv 0) (pa_cons (pe_cst T.g_MOST_FIGURES rfl) pa_nil))))) pa_nil))))))),?_⟩
 rintro ds c ⟨w,rfl,hw,rfl⟩
 have hl:=hw.1
 have hz:(tw w).length=w.length:=tw_len w
 obtain⟨p1,p2⟩:=part_pl hw 58
 show Sv K _ _ _ [some (.d (.str (tw w))),none] _
 walk_at "vs"
 refine ev_part ?_
 walk_at "vs"
 refine⟨tw w,rfl,NR.av,?_⟩
 walk_at "vs"
 refine⟨t1 58,rfl,NR.av,by show 0<1;decide,by omega,?_⟩
 rw[← part_room]
 generalize Txt.partition (tw w) (t1 58)=pt at p1 p2
 obtain⟨pa,pb,pc⟩:=pt
 walk_at "vs"
 refine ix_T rfl rfl Item.d ?_
 walk_at "vs"
 refine use_if NR.av rfl (by have:=p1.1;rwa [Array.length_toList] at this) ?_
 refine⟨_,rfl,?_⟩
 show if (decide (pa.length=1) && Txt.contains FIG pa)=true then _ else Res _ (AV.d (.bool ((decide (pa.length=1) && Txt.contains FIG pa) && (spl 44 pc.cps.toList).all numOk)))
 cases hf:(decide (pa.length=1) && Txt.contains FIG pa) with
 | false =>
  rw[if_neg Bool.false_ne_true]
  exact res_d rfl
 | true =>
  rw[if_pos rfl]
  walk_at "vs"
  refine comp_M (α:=List Nat) ?_
  refine ev_split ?_
  walk_at "vs"
  refine ix_T rfl rfl Item.d ?_
  walk_at "vs"
  refine⟨pc,rfl,NR.av,?_⟩
  walk_at "vs"
  have hpc:pc.length≤100000:=by have:=p2.1;rwa [Array.length_toList] at this
  refine⟨t1 44,rfl,NR.av,by show 0<1;decide,by omega,?_⟩
  rw[← tw_eta pc,spl_eq]
  have hsl:(spl 44 pc.cps.toList).length≤100000+1:=spl_len (c:=44) p2
  refine⟨spl 44 pc.cps.toList,fun x=>.str (tw x),fun x=>.d (.bool (numOk x)),.inl (by rw[TV.data,AV.data,List.map_map];exact congrArg PyData.list (datas_mapd _ _)),NR.av,by omega,fun i hi=>?_,_,Got.own (clean_map fun _=>rfl),?_⟩
  ·show Gv K _ _ [none] _
   walk_at "vs"
   refine⟨wk_0,?_⟩
   walk_at "vs"
   exact use_in NR.av rfl (spl_pl p2 (List.getElem_mem hi)) rfl
  walk_at "vs"
  refine bi_all (cs:=(spl 44 pc.cps.toList).map numOk) (by rw[TV.data,AV.data,datas_mapd,List.map_map];rfl) ?_
  refine res_d (congrArg (fun b=>AV.d (.bool b)) ?_)
  rw[Bool.true_and,tw_eta,List.all_map]
  rfl
theorem use_ir{Q:TV→Prop}{w:List Nat}{a:TV}(na:NR a)(ha:a.data=.str (tw w))(hw:Pl 100000 w)(q:Q (.av (.d (.bool (roomOk w))))):Cl S_ir [] Q [a]:=call_of (.cons na .nil) ⟨w,by show [a.data]=_;rw[ha],hw,rfl⟩ (Got.own rfl) q
noncomputable def S_rr(ds:List PyData)(c:AV):Prop:=∃ (w:List Nat),ds=[.str (tw w)]∧Pl 100000 w∧roomOk w=true∧c=oI (rowOf w)
theorem ok_read_row(T:Txt K mg):Cal P w K mg base (CXE P w) 1 "read_row" ["word"] [] (spV K S_rr NX):=by
 refine val T.x_read_row sc_read_row (fun ds c ⟨w,e,_⟩=>by rw[e];rfl) (fun f cdv A outer s H E hr=>?_) [] (by simp)
 refine⟨_,(pss_one (ps_ret (pe_comp (N:=["number"]) (cap:=[none]) rfl rfl rfl (by kernel_rfl) (pi_seq (K:=K) rfl (pe_bmK (K:=K) rfl PySem.F.plainAttrs_str PySem.F.slot_str_split PySem.F.type_str_split mt_split (pe_ix (ix_any (K:=K) rfl hr.units) (pe_bmK (K:=K) rfl PySem.F.plainAttrs_str PySem.F.slot_str_partition PySem.F.type_str_partition mt_part (pv 0) (pa_cons pe_str pa_nil)) pe_int (fun _ _=>rfl)) (pa_cons pe_str pa_nil))) (fun _ _ _ _=>(pg_name (i:=0) (show (["number"]:List Str).Nodup from by decide +kernel) rfl (Or.inl rfl))) (fun _ _ _ _=>pifs_nil) (fun _ _ _ _=>(pe_callTy call_intT rfl T.n_int PyProof.Rows.boot_int (pa_cons (pv 0) pa_nil)))))),?_⟩
 rintro ds c ⟨w,rfl,hw,hr',rfl⟩
 obtain⟨d,r,rfl,hd,hn⟩:=room_inv hr'
 have hl:=hw.1
 have hz:(tw (d::58::r)).length=(d::58::r).length:=tw_len _
 have hrp:Pl 100000 r:=⟨by simp at hl;omega,fun y hy=>hw.2 y (.tail _ (.tail _ hy))⟩
 have hrl:(tw r).length≤100000:=by rw[tw_len];exact hrp.1
 have hsl:=spl_len (c:=44) hrp
 show Sv K _ _ _ [some (.d (.str (tw (d::58::r))))] _
 walk_at "vs"
 refine comp_M (α:=List Nat) ?_
 refine ev_split ?_
 walk_at "vs"
 refine ev_part ?_
 walk_at "vs"
 refine⟨tw (d::58::r),rfl,NR.av,?_⟩
 walk_at "vs"
 refine⟨t1 58,rfl,NR.av,by show 0<1;decide,by omega,?_⟩
 rw[part_ok hd]
 walk_at "vs"
 refine ix_T rfl rfl Item.d ?_
 refine⟨tw r,rfl,NR.av,?_⟩
 walk_at "vs"
 refine⟨t1 44,rfl,NR.av,by show 0<1;decide,by omega,?_⟩
 rw[spl_eq]
 refine⟨spl 44 r,fun x=>.str (tw x),fun x=>.d (.int (vl x)),.inl (by rw[TV.data,AV.data,List.map_map];exact congrArg PyData.list (datas_mapd _ _)),NR.av,by omega,fun i hi=>?_,_,Got.own (clean_map fun _=>rfl),?_⟩
 ·show Gv K _ _ [none] _
  walk_at "vs"
  refine⟨wk_0,?_⟩
  walk_at "vs"
  have hni:=hn _ (List.getElem_mem hi)
  refine bi_intT rfl (by rw[tw_len];have:=(num_dig hni).2.2;omega) (vl_ok hni).1 ?_
  rfl
 refine res_o ?_
 show AV.own (((spl 44 r).map vl).map _)=_
 rw[List.map_map]
 rfl
theorem use_rr{Q:TV→Prop}{w:List Nat}{a:TV}(na:NR a)(ha:a.data=.str (tw w))(hw:Pl 100000 w)(hr:roomOk w=true)(q:Q (.av (oI (rowOf w)))):Cl S_rr [] Q [a]:=call_of (.cons na .nil) ⟨w,by show [a.data]=_;rw[ha],hw,hr,rfl⟩ (Got.own (oI_clean _)) q
noncomputable def S_rs(ds:List PyData)(c:AV):Prop:=∃ (w:List Nat),ds=[.str (tw w)]∧Pl 100000 w∧roomOk w=true∧c=.d (.int (sgnOf w))
theorem ok_read_sign(T:Txt K mg):Cal P w K mg base (CXE P w) 1 "read_sign" ["word"] [] (spV K S_rs NX):=by
 refine val T.x_read_sign sc_read_sign (fun ds c ⟨w,e,_⟩=>by rw[e];rfl) (fun f cdv A outer s H E hr=>?_) [] (by simp)
 refine⟨_,(pss_one (ps_ret (pe_callTy call_intT rfl T.n_int PyProof.Rows.boot_int (pa_cons (pe_ix (ix_any (K:=K) rfl hr.units) (pe_bmK (K:=K) rfl PySem.F.plainAttrs_str PySem.F.slot_str_partition PySem.F.type_str_partition mt_part (pv 0) (pa_cons pe_str pa_nil)) pe_int (fun _ _=>rfl)) pa_nil)))),?_⟩
 rintro ds c ⟨w,rfl,hw,hr',rfl⟩
 obtain⟨d,r,rfl,hd,hn⟩:=room_inv hr'
 have hl:=hw.1
 have hz:(tw (d::58::r)).length=(d::58::r).length:=tw_len _
 show Sv K _ _ _ [some (.d (.str (tw (d::58::r))))] _
 walk_at "vs"
 refine ev_part ?_
 walk_at "vs"
 refine⟨tw (d::58::r),rfl,NR.av,?_⟩
 walk_at "vs"
 refine⟨t1 58,rfl,NR.av,by show 0<1;decide,by omega,?_⟩
 rw[part_ok hd]
 walk_at "vs"
 refine ix_T rfl rfl Item.d ?_
 walk_at "vs"
 refine bi_intT rfl (by show 1≤640;decide) (sgn_ok hd).1 ?_
 exact res_d rfl
theorem use_rs{Q:TV→Prop}{w:List Nat}{a:TV}(na:NR a)(ha:a.data=.str (tw w))(hw:Pl 100000 w)(hr:roomOk w=true)(q:Q (.av (.d (.int (sgnOf w))))):Cl S_rs [] Q [a]:=call_of (.cons na .nil) ⟨w,by show [a.data]=_;rw[ha],hw,hr,rfl⟩ (Got.own rfl) q
noncomputable def rT(row:List Int)(s:Int):Str:=nT s ++ ":" ++ Txt.join "," (row.map nT)
noncomputable def mT(M:Mach):Str:=Txt.join " " ((List.range M.rows.length).map fun k=>rT (M.rows.getD k []) (M.signs.getD k 0))
noncomputable def Sn(x:Int):Prop:=0≤x∧x<10 ^ 10
theorem nT_len{x:Int}(h:Sn x):(nT x).length≤10:=PySem.W.KT.len_num h.1 h.2
theorem sum_le{m:Nat}:∀ {zs:List Str},(∀ z∈zs,z.length≤m)→(zs.map (·.length)).sum≤m*zs.length
 | [],_=>Nat.zero_le _
 | z::zs,h=>by
  have h1:=h z (.head _)
  have h2:=sum_le fun x hx=>h x (.tail _ hx)
  rw[List.map_cons,List.sum_cons,List.length_cons,Nat.mul_succ]
  omega
theorem join_ok{sep:Str}{zs:List Str}{m n:Nat}(hs:sep.length=1)(h:∀ z∈zs,z.length≤m)(hn:zs.length≤n)(hb:(m+1)*n≤1000000):JoinOk sep zs=true∧(Txt.join sep zs).length≤(m+1)*n:=by
 have h1:=sum_le h
 have h2:(m+1)*zs.length≤(m+1)*n:=Nat.mul_le_mul_left _ hn
 have h3:(m+1)*zs.length=m*zs.length+zs.length:=by rw[Nat.add_mul,Nat.one_mul]
 refine⟨PyProof.Rows.joinOk_of ?_,?_⟩
 ·rw[hs];omega
 ·show (PySem.Builtin.Str.glued sep zs).length≤_
  rw[PySem.StrLaws.glued_eq_join]
  have:=PySem.StrLaws.join_length_le sep zs
  rw[hs] at this
  omega
theorem row_ok{row:List Int}(hl:row.length≤64)(h:∀ x∈row,Sn x):JoinOk "," (row.map nT)=true∧(Txt.join "," (row.map nT)).length≤704 :=
 join_ok (m:=10) (n:=64) (by decide +kernel) (fun z hz=>by obtain⟨x,hx,rfl⟩:=List.mem_map.mp hz;exact nT_len (h x hx)) (by rw[List.length_map];exact hl) (by decide)
theorem rT_len{row:List Int}{s:Int}(hl:row.length≤64)(h:∀ x∈row,Sn x)(hs:Sn s):(rT row s).length≤715:=by
 unfold rT
 rw[Str.length_append,Str.length_append]
 have h1:=(row_ok hl h).2
 have h2:=nT_len hs
 have h3:(PySem.Str.ofString ":").length=1:=by decide +kernel
 omega
structure Sm(M:Mach):Prop where
 l:M.signs.length=M.rows.length
 n:M.rows.length≤100
 r:∀ x∈M.rows,x.length≤64∧∀ y∈x,Sn y
 s:∀ x∈M.signs,Sn x
theorem Sm.row{M:Mach}(h:Sm M)(k:Nat):(M.rows.getD k []).length≤64∧∀ y∈M.rows.getD k [],Sn y:=by
 by_cases hk:k<M.rows.length
 ·have e:M.rows.getD k []=M.rows[k]:=by rw[List.getD_eq_getElem?_getD,List.getElem?_eq_getElem hk];rfl
  rw[e];exact h.r _ (List.getElem_mem hk)
 ·have e:M.rows.getD k []=[]:=by rw[List.getD_eq_getElem?_getD,List.getElem?_eq_none (by omega)];rfl
  rw[e];exact⟨Nat.zero_le _,by simp⟩
theorem Sm.sg{M:Mach}(h:Sm M)(k:Nat):Sn (M.signs.getD k 0):=by
 by_cases hk:k<M.signs.length
 ·have e:M.signs.getD k 0=M.signs[k]:=by rw[List.getD_eq_getElem?_getD,List.getElem?_eq_getElem hk];rfl
  rw[e];exact h.s _ (List.getElem_mem hk)
 ·have e:M.signs.getD k 0=0:=by rw[List.getD_eq_getElem?_getD,List.getElem?_eq_none (by omega)];rfl
  rw[e];exact⟨by decide,by decide⟩
theorem Sm.join{M:Mach}(h:Sm M):JoinOk " " ((List.range M.rows.length).map fun k=>rT (M.rows.getD k []) (M.signs.getD k 0))=true∧(mT M).length≤71600 :=
 join_ok (m:=715) (n:=100) (by decide +kernel) (fun z hz=>by obtain⟨k,_,rfl⟩:=List.mem_map.mp hz;exact rT_len (h.row k).1 (h.row k).2 (h.sg k)) (by rw[List.length_map,List.length_range];exact h.n) (by decide)
theorem nT_dig{x:Int}(h:0≤x):∀ c∈(nT x).cps.toList,c<128:=by
 obtain⟨m,rfl⟩:=Int.eq_ofNat_of_zero_le h
 intro c hc
 rw[show (nT ((m:Nat):Int)).cps.toList=(Nat.toDigits 10 m).map Char.toNat from PySem.W.KIN.signs_num m] at hc
 obtain⟨ch,hch,e⟩:=List.mem_map.mp hc
 have r:=Nat.isDigit_of_mem_toDigits (by decide) (by decide) hch
 have r:=PyProof.Rows.digit_range r
 omega
theorem join_lt{sep:Str}{zs:List Str}(hs:∀ c∈sep.cps.toList,c<128)(h:∀ z∈zs,∀ c∈z.cps.toList,c<128):∀ c∈(Txt.join sep zs).cps.toList,c<128:=fun c hc=>by
 have hc:c∈(PySem.Builtin.Str.glued sep zs).cps.toList:=hc
 rw[PySem.StrLaws.glued_eq_join] at hc
 rcases mem_join sep hc with hc|⟨z,hz,hc⟩
 ·exact hs c hc
 ·exact h z hz c hc
theorem Sm.pl{M:Mach}(h:Sm M):Pl 71600 (mT M).cps.toList:=by
 refine⟨by rw[Array.length_toList];exact h.join.2,join_lt (by decide +kernel) fun z hz=>?_⟩
 obtain⟨k,_,rfl⟩:=List.mem_map.mp hz
 intro c hc
 unfold rT at hc
 rw[PySem.W.KT.app_list,PySem.W.KT.app_list] at hc
 rcases List.mem_append.mp hc with hc|hc
 ·rcases List.mem_append.mp hc with hc|hc
  ·exact nT_dig (h.sg k).1 c hc
  ·exact (by decide +kernel:∀ c∈(PySem.Str.ofString ":").cps.toList,c<128) c hc
 ·exact join_lt (by decide +kernel) (fun z hz=>by obtain⟨x,hx,rfl⟩:=List.mem_map.mp hz;exact nT_dig ((h.row k).2 x hx).1) c hc
noncomputable def S_rt(ds:List PyData)(c:AV):Prop:=∃ (row:List Int) (s:Int),ds=[.tuple (row.map .int),.int s]∧row.length≤64∧(∀ x∈row,Sn x)∧Sn s∧c=.d (.str (rT row s))
theorem ok_room_text(T:Txt K mg):Cal P w K mg base (CXE P w) 1 "room_text" ["row", "sign"] [] (spV K S_rt NX):=by
 refine val T.x_room_text sc_room_text (fun ds c ⟨r,s,e,_⟩=>by rw[e];rfl) (fun f cdv A outer s H E hr=>?_) [] (by simp)
 refine⟨_,(pss_cons (ps_set (i:=2) sc_room_text.nd rfl (Or.inl rfl) (pe_bmK (K:=K) rfl PySem.F.plainAttrs_str PySem.F.slot_str_join PySem.F.type_str_join (mt_join (K:=K) rfl) pe_str (pa_cons (pe_comp (N:=["room"]) (cap:=[none]) rfl rfl rfl (by kernel_rfl) (pi_seq (K:=K) rfl (pv 0)) (fun _ _ _ _=>(pg_name (i:=0) (show (["room"]:List Str).Nodup from by decide +kernel) rfl (Or.inl rfl))) (fun _ _ _ _=>pifs_nil) (fun _ _ _ _=>(pe_callTy call_strI rfl T.n_str PyProof.Rows.boot_str (pa_cons (pv 0) pa_nil)))) pa_nil)))
   (pss_one (ps_ret (pe_f3 (pv 1) (pv 2))))),?_⟩
 rintro ds c ⟨row,sg,rfl,hl,hx,hs,rfl⟩
 obtain⟨j1,j2⟩:=row_ok hl hx
 show Sv K _ _ _ [some (.d (.tuple (row.map .int))),some (.d (.int sg)),none] _
 walk_at "vs"
 refine ev_join ?_
 walk_at "vs"
 refine comp_M (α:=Int) ?_
 walk_at "vs"
 refine⟨row,PyData.int,fun x=>.d (.str (nT x)),.inr rfl,NR.av,by omega,fun i hi=>?_,_,Got.own (clean_map fun _=>rfl),?_⟩
 ·show Gv K _ _ [none] _
  walk_at "vs"
  refine⟨wk_0,?_⟩
  walk_at "vs"
  have hxi:=hx _ (List.getElem_mem hi)
  refine bi_strI rfl ⟨by have:=hxi.1;omega,by have:=hxi.2;omega⟩ ?_
  rfl
 refine⟨row.map nT,by rw[TV.data,AV.data,datas_mapd,List.map_map];rfl,NR.av,j1,?_⟩
 walk_at "vs"
 refine ev_fmt3 ?_
 walk_at "vs"
 refine⟨sg,rfl,NR.av,hs,?_⟩
 walk_at "vs"
 refine⟨_,rfl,NR.av,by rw[show (PySem.Str.ofString ":").length=1 by decide +kernel];omega,?_⟩
 exact res_d rfl
theorem use_rt{Q:TV→Prop}{row:List Int}{s:Int}{a b:TV}(na:NR a)(nb:NR b)(ha:a.data=.tuple (row.map .int))(hb:b.data=.int s)(hl:row.length≤64)(hx:∀ x∈row,Sn x)(hs:Sn s)(q:Q (.av (.d (.str (rT row s))))):Cl S_rt [] Q [a,b]:=call_of (.cons na (.cons nb .nil)) ⟨row,s,by show [a.data,b.data]=_;rw[ha,hb],hl,hx,hs,rfl⟩ (Got.own rfl) q
noncomputable def S_mt(ds:List PyData)(c:AV):Prop:=∃ M:Mach,ds=[dM M]∧Sm M∧c=.d (.str (mT M))
theorem ok_machine_text(T:Txt K mg):Cal P w K mg base (CXE P w) 2 "machine_text" ["machine"] [] (spV K S_mt NX):=by
 have c_room_text:Cal P w K mg base (CXE P w) 1 "room_text" ["row", "sign"] [] (spV K S_rt NX):=ok_room_text T
 refine val T.x_machine_text sc_machine_text (fun ds c ⟨M,e,_⟩=>by rw[e];rfl) (fun f cdv A outer s H E hr=>?_) [] (by simp)
 refine⟨_,(pss_one (ps_ret (pe_bmK (K:=K) rfl PySem.F.plainAttrs_str PySem.F.slot_str_join PySem.F.type_str_join (mt_join (K:=K) rfl) pe_str (pa_cons (pe_comp (N:=["row", "sign"]) (cap:=[none,none]) rfl rfl rfl (by kernel_rfl) (pi_zipTK (K:=K) rfl rfl T.n_zip (pa_cons (pe_ix (ix_any (K:=K) rfl hr.units) (pv 0) pe_int (fun _ _=>rfl)) (pa_cons (pe_ix (ix_any (K:=K) rfl hr.units) (pv 0) pe_int (fun _ _=>rfl)) pa_nil))) (fun _ _ _ _=>(pg_tupK (K:=K) (n:=2) rfl rfl (pgs_cons (pg_name (i:=0) (show (["row", "sign"]:List Str).Nodup from by decide +kernel) rfl (Or.inl rfl)) (pgs_cons (pg_name (i:=1) (show (["row", "sign"]:List Str).Nodup from by decide +kernel) rfl (Or.inl rfl)) pgs_nil)))) (fun _ _ _ _=>pifs_nil) (fun _ _ _ _=>(pe_cal (c_room_text.mono (by decide)) hr rfl passE (pa_cons (pv 0) (pa_cons (pv 1) pa_nil))))) pa_nil)))),?_⟩
 rintro ds c ⟨M,rfl,hM,rfl⟩
 obtain⟨j1,j2⟩:=hM.join
 have hn:=hM.n
 have hls:=hM.l
 show Sv K _ _ _ [some (.d (dM M))] _
 walk_at "vs"
 refine ev_join ?_
 walk_at "vs"
 refine ev_compZ (α:=List Int) ?_
 walk_at "vs"
 refine ix_T rfl rfl Item.d ?_
 walk_at "vs"
 refine ix_T rfl rfl Item.d ?_
 walk_at "vs"
 refine⟨_,_,M.rows,fun r=>.tuple (r.map .int),M.signs,fun k=>.d (.str (rT (M.rows.getD k []) (M.signs.getD k 0))),rfl,rfl,rfl,NR.av,NR.av,hls.symm,by omega,fun i hi hj=>?_,_,Got.own (clean_map fun _=>rfl),?_⟩
 ·have e1:M.rows.getD i []=M.rows[i]:=by rw[List.getD_eq_getElem?_getD,List.getElem?_eq_getElem hi];rfl
  have e2:M.signs.getD i 0=M.signs[i]:=by rw[List.getD_eq_getElem?_getD,List.getElem?_eq_getElem hj];rfl
  show Gv K _ _ [none,none] _
  refine gv_tup2 ?_
  walk_at "vs"
  refine⟨fun K H0 σ ts as H s=>wk_0 K H0 σ ts as H (wk_1 K H0 σ ts as H s),?_⟩
  walk_at "vs"
  have h1:=hM.row i
  have h2:=hM.sg i
  rw[e1] at h1
  rw[e2] at h2
  refine use_rt NR.av NR.av rfl rfl h1.1 h1.2 h2 ?_
  show some (AV.d (.str (rT M.rows[i] M.signs[i])))=some (AV.d (.str (rT (M.rows.getD i []) (M.signs.getD i 0))))
  rw[e1,e2]
 refine⟨(List.range M.rows.length).map fun k=>rT (M.rows.getD k []) (M.signs.getD k 0),by rw[TV.data,AV.data,datas_mapd,List.map_map];rfl,NR.av,j1,?_⟩
 exact res_d rfl
theorem use_mt{Q:TV→Prop}{M:Mach}(hM:Sm M)(q:Q (.av (.d (.str (mT M))))):Cl S_mt [] Q [.av (.d (dM M))]:=call_of (by walk_at "nrs") ⟨M,rfl,hM,rfl⟩ (Got.own rfl) q
noncomputable def rowsOf(t:List Nat):List (List Int):=(spl 32 t).map rowOf
noncomputable def sgnsOf(t:List Nat):List Int:=(spl 32 t).map sgnOf
noncomputable def exT(C:Addr)(i:Int):Exc:=⟨C,[("at",.int i)]⟩
theorem Pl.mono{n m:Nat}{w:List Nat}(h:Pl n w)(hn:n≤m):Pl m w:=⟨Nat.le_trans h.1 hn,h.2⟩
theorem drop_pl{n k:Nat}{w:List Nat}(h:Pl n w):Pl n (w.drop k):=⟨Nat.le_trans (by rw[List.length_drop];exact Nat.sub_le _ _) h.1,fun y hy=>h.2 y (List.mem_of_mem_drop hy)⟩
theorem rows_sz{t:List Nat}(h:Pl 90000 t):Sz (rowsOf t) (sgnsOf t):=by
 have hl:=spl_len (c:=32) h
 refine⟨by unfold rowsOf;rw[List.length_map];omega,by unfold sgnsOf;rw[List.length_map];omega,fun x hx=>?_⟩
 unfold rowsOf at hx
 obtain⟨w,hw,rfl⟩:=List.mem_map.mp hx
 unfold rowOf
 rw[List.length_map]
 have:=spl_len (c:=44) (drop_pl (k:=2) (spl_pl h hw))
 omega
inductive Rf(t:List Nat)(CT CM:Addr):Exc→Prop
 | text (i:Nat) (hi:i<(spl 32 t).length) (h:roomOk (spl 32 t)[i]=false) (g:∀ j (hj:j<i),roomOk ((spl 32 t)[j]'(by omega))=true):Rf t CT CM (exT CT i)
 | mach (h:∀ x∈spl 32 t,roomOk x=true) {wd:Str} {n:Int} (g:machO (rowsOf t) (sgnsOf t)=some (wd,n)):Rf t CT CM (exD CM wd n)
noncomputable def Pre_rm(cs:List AV):Prop:=∃ t:List Nat,cs=[.d (.str (tw t))]∧Pl 90000 t
noncomputable def Post_rm(cs:List AV)(c:AV):Prop:=∃ t:List Nat,cs=[.d (.str (tw t))]∧(∀ x∈spl 32 t,roomOk x=true)∧machO (rowsOf t) (sgnsOf t)=none∧PtOk (rowsOf t) (sgnsOf t)∧c=.d (dM ⟨rowsOf t,sgnsOf t⟩)
noncomputable def PX_rm(CT CM:Addr)(cs:List AV)(e:Exc):Prop:=∃ t:List Nat,cs=[.d (.str (tw t))]∧Rf t CT CM e
section
variable{C_WheelError C_NoMachine C_NoText:Addr}
theorem iniT(Z:Cs K mg C_WheelError C_NoMachine C_NoText):∃ fI fd,ExcI K C_NoText [.type "ValueError",.type "Exception",.type "BaseException",.type "object"] "ValueError.__new__" fI∧FnOk P w K mg base (CXE P w) 1 fI fd ["self", "at"] (spInit C_NoText ["at"])∧Binds K fd ["self", "at"] []:=by
 obtain⟨fI,fd,x,F,b⟩:=Z.ix_NoText
 exact⟨fI,fd,x,init1 F sc_NoText_init fun cdv A outer s H E=>(pss_one (ps_xset Z.est1 (pv 0) (pv 1) rfl)),b⟩
theorem okb_read_machine(T:Txt K mg)(Z:Cs K mg C_WheelError C_NoMachine C_NoText):Cal P w K mg base (CXE P w) 6 "read_machine" ["text"] [] (spR K Pre_rm Post_rm (PX_rm C_NoText C_NoMachine)):=by
 obtain⟨fI,fdI,x_NoText,i_NoText,b_NoText⟩:=iniT (P:=P) (w:=w) (base:=base) Z
 have c_is_room:Cal P w K mg base (CXE P w) 2 "is_room" ["word"] [] (spV K S_ir NX):=ok_is_room T
 have c_read_row:Cal P w K mg base (CXE P w) 1 "read_row" ["word"] [] (spV K S_rr NX):=ok_read_row T
 have c_read_sign:Cal P w K mg base (CXE P w) 1 "read_sign" ["word"] [] (spV K S_rs NX):=ok_read_sign T
 have c_machine_of:Cal P w K mg base (CXE P w) 5 "machine_of" ["rows", "signs"] [] (spR K Pre_mo Post_mo (PX_mo C_NoMachine)):=okb_machine_of T Z
 refine valRX T.x_read_machine sc_read_machine (fun cs ⟨t,e,_⟩=>by rw[e];rfl) (fun f cdv A outer s H E hr=>?_) [] (by simp)
 refine⟨_,(pss_cons (ps_set (i:=1) sc_read_machine.nd rfl (Or.inl rfl) (pe_bmK (K:=K) rfl PySem.F.plainAttrs_str PySem.F.slot_str_split PySem.F.type_str_split mt_split (pv 0) (pa_cons pe_str pa_nil)))
   (pss_cons (ps_for (passes_XE rfl rfl) rfl (pi_enumK (K:=K) rfl rfl T.n_enumerate (pa_cons (pv 1) pa_nil)) (pg_tupK (K:=K) (n:=2) rfl rfl (pgs_cons (pg_name (i:=2) sc_read_machine.nd rfl (Or.inl rfl)) (pgs_cons (pg_name (i:=3) sc_read_machine.nd rfl (Or.inl rfl)) pgs_nil)))
    (pss_one (ps_if (pt_not (pt_val (pe_cal (c_is_room.mono (by decide)) hr rfl passE (pa_cons (pv 3) pa_nil))))
     (pss_one (ps_raiseI PySem.F.excBase_ValueError rfl PySem.F.excBase_ValueError x_NoText rfl rfl Z.c_NoText i_NoText (hr.mono (by decide)) b_NoText (pa_cons (pv 2) pa_nil)))
     pss_nil)))
   (pss_one (ps_ret (pe_calX (c_machine_of.mono (by decide)) hr rfl (pa_cons (pe_comp (N:=["word"]) (cap:=[none]) rfl rfl rfl (by kernel_rfl) (pi_seq (K:=K) rfl (pv 1)) (fun _ _ _ _=>(pg_name (i:=0) (show (["word"]:List Str).Nodup from by decide +kernel) rfl (Or.inl rfl))) (fun _ _ _ _=>pifs_nil) (fun _ _ _ _=>(pe_cal (c_read_row.mono (by decide)) hr rfl passE (pa_cons (pv 0) pa_nil)))) (pa_cons (pe_comp (N:=["word"]) (cap:=[none]) rfl rfl rfl (by kernel_rfl) (pi_seq (K:=K) rfl (pv 1)) (fun _ _ _ _=>(pg_name (i:=0) (show (["word"]:List Str).Nodup from by decide +kernel) rfl (Or.inl rfl))) (fun _ _ _ _=>pifs_nil) (fun _ _ _ _=>(pe_cal (c_read_sign.mono (by decide)) hr rfl passE (pa_cons (pv 0) pa_nil)))) pa_nil))))))),?_⟩
 rintro cs ⟨t,rfl,ht⟩
 have hl:=ht.1
 have hz:(tw t).length=t.length:=tw_len t
 have hsl:=spl_len (c:=32) ht
 have hpl:∀ x∈spl 32 t,Pl 100000 x:=fun x hx=>(spl_pl ht hx).mono (by decide)
 have hsz:=rows_sz ht
 show Sv K _ _ _ [some (.d (.str (tw t))),none,none,none] _
 walk_at "vs"
 refine ev_split ?_
 walk_at "vs"
 refine⟨tw t,rfl,NR.av,?_⟩
 walk_at "vs"
 refine⟨t1 32,rfl,NR.av,by show 0<1;decide,by omega,?_⟩
 rw[spl_eq]
 have er:rowsOf t=(spl 32 t).map rowOf:=rfl
 have es:sgnsOf t=(spl 32 t).map sgnOf:=rfl
 have rf1:∀ (i:Nat) (hi:i<(spl 32 t).length),roomOk (spl 32 t)[i]=false→(∀ j (hj:j<i),roomOk ((spl 32 t)[j]'(by omega))=true)→PX_rm C_NoText C_NoMachine [.d (.str (tw t))] (exT C_NoText i):=fun i hi h g=>⟨t,rfl,.text i hi h g⟩
 have rf2:(∀ x∈spl 32 t,roomOk x=true)→∀ wd n,machO (rowsOf t) (sgnsOf t)=some (wd,n)→PX_rm C_NoText C_NoMachine [.d (.str (tw t))] (exD C_NoMachine wd n):=fun h wd n g=>⟨t,rfl,.mach h g⟩
 have ret:(∀ x∈spl 32 t,roomOk x=true)→machO (rowsOf t) (sgnsOf t)=none→PtOk (rowsOf t) (sgnsOf t)→Post_rm [.d (.str (tw t))] (.d (dM ⟨rowsOf t,sgnsOf t⟩)):=fun h g p=>⟨t,rfl,h,g,p,rfl⟩
 refine v_sD (x:=.list ((spl 32 t).map fun x=>.str (tw x))) (by rw[AV.data,List.map_map];exact congrArg PyData.list (datas_mapd _ _)) ?_
 walk_at "vs"
 refine for_E (α:=List Nat) ?_
 walk_at "vs"
 refine⟨_,(spl 32 t),fun x=>.str (tw x),rfl,rfl,⟨_,rfl⟩,fun i ρ=>∃ o1 o2,ρ=[some (.d (.str (tw t))),some (.d (.list ((spl 32 t).map fun x=>.str (tw x)))),o1,o2]∧∀ j (hj:j<(spl 32 t).length),j<i→roomOk (spl 32 t)[j]=true,⟨none,none,rfl,fun j _ hj=>by omega⟩,?_,?_⟩
 ·rintro i ρ hi ⟨o1,o2,rfl,hg⟩
  refine gv_tup2 ?_
  walk_at "vs"
  refine use_ir NR.av rfl (hpl _ (List.getElem_mem hi)) ?_
  cases hR:roomOk (spl 32 t)[i] with
  | true =>
   walk_at "vs"
   refine⟨_,_,rfl,fun j hj hji=>?_⟩
   by_cases e:j=i
   ·subst e;exact hR
   ·exact hg j hj (by omega)
  | false =>
   walk_at "vs"
   refine sv_raiseI ?_
   walk_at "vs"
   exact⟨by walk_at "nrs",rfl,by show 1≤1000;decide,rf1 i hi hR fun j hj=>hg j (by omega) hj⟩
 rintro ρ ⟨o1,o2,rfl,hg⟩
 have hall:∀ x∈(spl 32 t),roomOk x=true:=fun x hx=>by
  obtain⟨j,hj,rfl⟩:=List.getElem_of_mem hx
  exact hg j hj hj
 walk_at "vs"
 refine comp_M (α:=List Nat) ?_
 walk_at "vs"
 refine⟨(spl 32 t),fun x=>.str (tw x),fun x=>oI (rowOf x),.inl rfl,NR.av,by omega,fun i hi=>?_,_,Got.own (clean_map fun x=>oI_clean _),?_⟩
 ·show Gv K _ _ [none] _
  walk_at "vs"
  refine⟨wk_0,?_⟩
  walk_at "vs"
  exact use_rr NR.av rfl (hpl _ (List.getElem_mem hi)) (hall _ (List.getElem_mem hi)) rfl
 walk_at "vs"
 refine comp_M (α:=List Nat) ?_
 walk_at "vs"
 refine⟨(spl 32 t),fun x=>.str (tw x),fun x=>.d (.int (sgnOf x)),.inl rfl,NR.av,by omega,fun i hi=>?_,_,Got.own (clean_map fun _=>rfl),?_⟩
 ·show Gv K _ _ [none] _
  walk_at "vs"
  refine⟨wk_0,?_⟩
  walk_at "vs"
  exact use_rs NR.av rfl (hpl _ (List.getElem_mem hi)) (hall _ (List.getElem_mem hi)) rfl
 walk_at "vs"
 refine use_mo (rows:=rowsOf t) (signs:=sgnsOf t) NR.av NR.av ?_ ?_ hsz (fun g p=>?_) fun wd n g=>rf2 hall wd n g
 ·show (AV.own ((spl 32 t).map fun x=>oI (rowOf x))).data=dL (rowsOf t)
  rw[er]
  refine (congrArg AV.data (show AV.own ((spl 32 t).map fun x=>oI (rowOf x))=oL ((spl 32 t).map rowOf) from ?_)).trans (oL_data _)
  show _=AV.own (((spl 32 t).map rowOf).map oI)
  rw[List.map_map]
  rfl
 ·show (AV.own ((spl 32 t).map fun x=>.d (.int (sgnOf x)))).data=dI (sgnsOf t)
  rw[es,AV.data,datas_mapd]
  show _=PyData.list (((spl 32 t).map sgnOf).map .int)
  rw[List.map_map]
  rfl
 ·walk_at "vs"
  exact⟨_,res_d rfl,ret hall g p⟩
end
theorem use_rm{Q:TV→Prop}{X:Exc→Prop}{CT CM:Addr}{t:List Nat}(ht:Pl 90000 t)(q:(∀ x∈spl 32 t,roomOk x=true)→machO (rowsOf t) (sgnsOf t)=none→PtOk (rowsOf t) (sgnsOf t)→Q (.av (.d (dM ⟨rowsOf t,sgnsOf t⟩))))(qx:∀ e,Rf t CT CM e→X e):ClR Pre_rm Post_rm (PX_rm CT CM) [] Q X [.av (.d (.str (tw t)))] :=
 ⟨[.d (.str (tw t))],.cons (.d NR.av rfl) .nil,⟨t,rfl,ht⟩,fun c ⟨t',e,h1,h2,h3,ec⟩=>by
  simp only[List.append_nil,List.cons.injEq,AV.d.injEq,PyData.str.injEq,and_true] at e
  have e:=tw_inj e
  subst e ec
  exact⟨_,Got.own (dM_flat _),q h1 h2 h3⟩,fun x ⟨t',e,h⟩=>by
  simp only[List.append_nil,List.cons.injEq,AV.d.injEq,PyData.str.injEq,and_true] at e
  have e:=tw_inj e
  subst e
  exact qx x h⟩
noncomputable def S_lx(ds:List PyData)(c:AV):Prop:=∃ M:Mach,ds=[dMl M]∧Sm M∧c=.d (.str (mT M))
theorem ok_law_text(T:Txt K mg):Cal P w K mg base (CXE P w) 1 "_law_text" ["_law_made"] [] (spV K S_lx NX):=by
 refine val T.x_law_text sc_law_text (fun ds c ⟨M,e,_⟩=>by rw[e];rfl) (fun f cdv A outer s H E hr=>?_) [] (by simp)
 refine⟨_,(pss_cons (ps_set (i:=1) sc_law_text.nd rfl (Or.inl rfl) (pe_lst pa_nil))
   (pss_cons (ps_for PassesOwn.never rfl (pi_range1 rfl T.n_range (pa_cons (pe_callB (call_lenAny (K:=K) rfl) rfl T.n_len PySem.boot_len (pa_cons (pe_ix (ix_any (K:=K) rfl hr.units) (pv 0) pe_int (fun _ _=>rfl)) pa_nil)) pa_nil)) (pg_name (i:=2) sc_law_text.nd rfl (Or.inl rfl))
    (pss_cons (ps_set (i:=3) sc_law_text.nd rfl (Or.inl rfl) (pe_bmK (K:=K) rfl PySem.F.plainAttrs_str PySem.F.slot_str_join PySem.F.type_str_join (mt_join (K:=K) rfl) pe_str (pa_cons (pe_comp (N:=["_law_one"]) (cap:=[none]) rfl rfl rfl (by kernel_rfl) (pi_seq (K:=K) rfl (pe_ix (ix_any (K:=K) rfl hr.units) (pe_ix (ix_any (K:=K) rfl hr.units) (pv 0) pe_int (fun _ _=>rfl)) (pv 2) (fun _ _=>rfl))) (fun _ _ _ _=>(pg_name (i:=0) (show (["_law_one"]:List Str).Nodup from by decide +kernel) rfl (Or.inl rfl))) (fun _ _ _ _=>pifs_nil) (fun _ _ _ _=>(pe_callTy call_strI rfl T.n_str PyProof.Rows.boot_str (pa_cons (pv 0) pa_nil)))) pa_nil)))
    (pss_one (ps_expr (pe_bmK (K:=K) rfl PySem.F.plainAttrs_list PySem.F.slot_list_append PySem.F.type_list_append mt_append (pv 1) (pa_cons (pe_op (op_plus (K:=K) rfl) (pe_op (op_plus (K:=K) rfl) (pe_callTy call_strI rfl T.n_str PyProof.Rows.boot_str (pa_cons (pe_ix (ix_any (K:=K) rfl hr.units) (pe_ix (ix_any (K:=K) rfl hr.units) (pv 0) pe_int (fun _ _=>rfl)) (pv 2) (fun _ _=>rfl)) pa_nil)) pe_str) (pv 3)) pa_nil))))))
   (pss_one (ps_ret (pe_bmK (K:=K) rfl PySem.F.plainAttrs_str PySem.F.slot_str_join PySem.F.type_str_join (mt_join (K:=K) rfl) pe_str (pa_cons (pv 1) pa_nil)))))),?_⟩
 rintro ds c ⟨M,rfl,hM,rfl⟩
 obtain⟨j1,j2⟩:=hM.join
 have hn:=hM.n
 have hls:=hM.l
 show Sv K _ _ _ [some (.d (dMl M)),none,none,none] _
 walk_at "vi"
 refine for_R ?_
 walk_at "vi"
 refine len_L rfl ?_
 rw[List.length_map]
 walk_at "vi"
 refine⟨((M.rows.length:Nat):Int),rfl,⟨by omega,by omega⟩,fun i ρ=>∃ o1 o2,ρ=[some (.d (dMl M)),some (.own (((List.range i).map fun k=>rT (M.rows.getD k []) (M.signs.getD k 0)).map fun z=>.d (.str z))),o1,o2],⟨none,none,rfl⟩,?_,?_⟩
 ·rintro i ρ hi ⟨o1,o2,rfl⟩
  have hi:i<M.rows.length:=by omega
  obtain⟨hl,hx⟩:=hM.row i
  have hs:=hM.sg i
  obtain⟨k1,k2⟩:=row_ok hl hx
  walk_at "vi"
  refine ev_join ?_
  walk_at "vi"
  refine comp_M (α:=Int) ?_
  walk_at "vi"
  refine ix_L rfl (atI_rowL (by omega) (by omega)) Item.d ?_
  rw[Int.toNat_natCast]
  refine⟨M.rows.getD i [],PyData.int,fun x=>.d (.str (nT x)),.inl rfl,NR.av,by omega,fun j hj=>?_,_,Got.own (clean_map fun _=>rfl),?_⟩
  ·show Gv K _ _ [none] _
   walk_at "vi"
   refine⟨wk_0,?_⟩
   walk_at "vi"
   have hxj:=hx _ (List.getElem_mem hj)
   refine bi_strI rfl ⟨by have:=hxj.1;omega,by have:=hxj.2;omega⟩ ?_
   rfl
  refine⟨(M.rows.getD i []).map nT,by rw[TV.data,AV.data,datas_mapd,List.map_map];rfl,NR.av,k1,?_⟩
  walk_at "vi"
  refine ix_L rfl (atI_intL (by omega) (by omega)) (Item.flat rfl) ?_
  rw[Int.toNat_natCast]
  walk_at "vi"
  refine bi_strI rfl ⟨by have:=hs.1;omega,by have:=hs.2;omega⟩ ?_
  walk_at "vi"
  have h1:=nT_len hs
  have h3:(PySem.Str.ofString ":").length=1:=by decide +kernel
  refine add_s rfl rfl (by omega) ?_
  walk_at "vi"
  refine add_s rfl rfl (by rw[Str.length_append];omega) ?_
  refine v_ap ?hz ?_
  case hz=>rw[List.length_map,List.length_map,List.length_range];omega
  refine⟨some (.d (.int i)),some (.d (.str (Txt.join "," ((M.rows.getD i []).map nT)))),?_⟩
  rw[List.range_succ,List.map_append,List.map_append]
  rfl
 rintro ρ ⟨o1,o2,rfl⟩
 walk_at "vi"
 refine ev_join ?_
 walk_at "vi"
 rw[show (((M.rows.length:Nat):Int)).toNat=M.rows.length from Int.toNat_natCast _]
 refine⟨(List.range M.rows.length).map fun k=>rT (M.rows.getD k []) (M.signs.getD k 0),by rw[TV.data,datas_mapd],NR.bor,j1,?_⟩
 exact res_d rfl
theorem use_lx{Q:TV→Prop}{M:Mach}{a:TV}(na:NR a)(ha:a.data=dMl M)(hM:Sm M)(q:Q (.av (.d (.str (mT M))))):Cl S_lx [] Q [a]:=call_of (.cons na .nil) ⟨M,by show [a.data]=_;rw[ha],hM,rfl⟩ (Got.own rfl) q
theorem tv_eq{E:FK}{X:Exc→Sl→Prop}{ρ:Sl}{c:TT}{v:Bool}{Pb:Bool→Prop}(h:Tv K E X c ρ fun b=>b=v)(q:Pb v):Tv K E X c ρ Pb:=fun H0 σ ts as H QV s x k=>h H0 σ ts as H QV s x fun b e=>k b (e▸q)
theorem sl_to{w:List Nat}{k:Int}(h0:0≤k)(h:k≤w.length):Txt.slice (tw w) none (some k)=tw (w.take k.toNat):=by
 have hl:(tw w).length=w.length:=tw_len w
 have:=beq_iff_eq.mp (PyProof.Rows.slice_closes_toL (x:=tw w) (j:=k) h0 (by rw[hl];exact h))
 rw[this]
 show tw ((w.drop 0).take (k-0).toNat)=_
 rw[List.drop_zero,Int.sub_zero]
theorem sl_from{w:List Nat}{k:Int}(h0:0≤k):Txt.slice (tw w) (some k) none=tw (w.drop k.toNat):=by
 have hl:(tw w).length=w.length:=tw_len w
 by_cases h:k≤w.length
 ·rw[PyProof.Rows.slice_from_eq (b:=(tw w).length) h0 (by rw[hl];exact h) rfl]
  show tw ((w.drop k.toNat).take _)=_
  rw[List.take_of_length_le (by rw[List.length_drop,hl];omega)]
 ·rw[PyProof.Rows.slice_beyond (by rw[hl];omega),List.drop_eq_nil_of_le (by omega)]
  rfl
noncomputable def S_ln(ds:List PyData)(c:AV):Prop:=∃ w:List Nat,ds=[.str (tw w)]∧Pl 100000 w∧c=.d (.int (if numOk w=true then vl w else -1))
theorem num_of(w:List Nat)(h:1≤w.length∧w.length≤2)(h0:¬ (w.length=2∧w.take 1=[48])):numOk w=w.all isDig:=by
 match w,h,h0 with
 | [d],_,_=>simp[numOk]
 | [d,e],_,h0 =>
  have:d≠48:=fun z=>h0 ⟨rfl,by rw[z];rfl⟩
  simp[numOk,this]
 | _::_::_::_,h,_=>simp at h
theorem ok_law_number(T:Txt K mg):Cal P w K mg base (CXE P w) 1 "_law_number" ["_law_word"] [] (spV K S_ln NX):=by
 refine val T.x_law_number sc_law_number (fun ds c ⟨w,e,_⟩=>by rw[e];rfl) (fun f cdv A outer s H E hr=>?_) [] (by simp)
 refine⟨_,(pss_cons (ps_if (PW.pt (pw_or (pt_cmpR (op_equ (K:=K) rfl hr.units) (pv 0) pe_str (nomark _)) (pw_or (pt_cmpR op_gt (pe_callB (call_lenAny (K:=K) rfl) rfl T.n_len PySem.boot_len (pa_cons (pv 0) pa_nil)) pe_int (nomark _)) (pw_or1 (PW.pt (pw_and (pt_cmpR (op_equ (K:=K) rfl hr.units) (pe_callB (call_lenAny (K:=K) rfl) rfl T.n_len PySem.boot_len (pa_cons (pv 0) pa_nil)) pe_int (nomark _)) (pw_and1 (pt_cmpR (op_equ (K:=K) rfl hr.units) (pe_ix (ix_any (K:=K) rfl hr.units) (pv 0) pe_int (fun _ _=>rfl)) pe_str (nomark _)))))))))
    (pss_one (ps_ret (pe_un un_neg pe_int)))
    pss_nil)
   (pss_cons (ps_for PassesOwn.never rfl (pi_str (pv 0)) (pg_name (i:=1) sc_law_number.nd rfl (Or.inl rfl))
    (pss_one (ps_if (pt_cmpR (op_notInA (K:=K) rfl hr.units) (pv 1) pe_str (by with_unfolding_all rfl))
     (pss_one (ps_ret (pe_un un_neg pe_int)))
     pss_nil)))
   (pss_one (ps_ret (pe_callTy call_intT rfl T.n_int PyProof.Rows.boot_int (pa_cons (pv 0) pa_nil)))))),?_⟩
 rintro ds c ⟨w,rfl,hw,rfl⟩
 have hl:=hw.1
 have hz:(tw w).length=w.length:=tw_len w
 show Sv K _ _ _ [some (.d (.str (tw w))),none] _
 walk_at "vi"
 refine s_if (tv_eq (v:=decide (w=[]∨2<w.length∨(w.length=2∧w.take 1=[48]))) ?_ ?_)
 ·walk_at "vi"
  refine eq_S (w:=w) (x:=[]) (n:=100000) (m:=0) NR.av NR.av rfl rfl hw ⟨by simp,by simp⟩ ?_
  refine⟨_,rfl,?_⟩
  by_cases h0:w=[]
  ·rw[decide_eq_true h0,if_pos rfl]
   exact (decide_eq_true (.inl h0)).symm
  rw[decide_eq_false h0,if_neg Bool.false_ne_true]
  walk_at "vi"
  refine len_S rfl (by omega) ?_
  rw[hz]
  walk_at "vi"
  refine ite2 (fun h=>?_) fun h=>?_
  ·have h:2<w.length:=by have:=of_decide_eq_true h;omega
   exact (decide_eq_true (.inr (.inl h))).symm
  have h1:¬ 2<w.length:=fun z=>h (decide_eq_true (by omega))
  walk_at "vi"
  refine len_S rfl (by omega) ?_
  rw[hz]
  walk_at "vi"
  refine ite2 (fun h=>?_) fun h=>?_
  ·have h2:w.length=2:=by have:=of_decide_eq_true h;omega
   obtain⟨d,r,rfl⟩:∃ d r,w=d::r:=by
    cases w with
    | nil=>exact absurd rfl h0
    | cons d r=>exact⟨d,r,rfl⟩
   walk_at "vi"
   refine ix_S (c:=d) rfl (by omega) (atI_of (by decide) rfl) ?_
   walk_at "vi"
   refine eq_S (w:=[d]) (x:=[48]) (n:=1) (m:=1) NR.av NR.av rfl rfl (Pl.one (hw.2 d (.head _))) (Pl.one (by decide)) ?_
   refine⟨_,rfl,decide_eq_decide.mpr ⟨fun z=>.inr (.inr ⟨h2,z⟩),fun z=>?_⟩⟩
   rcases z with z|z|z
   ·exact absurd z h0
   ·exact absurd z h1
   ·exact z.2
  ·have h2:¬ w.length=2:=fun z=>h (decide_eq_true (by omega))
   refine (decide_eq_false fun z=>?_).symm
   rcases z with z|z|z
   ·exact h0 z
   ·exact h1 z
   ·exact h2 z.1
 refine ite2 (fun h=>?_) fun h=>?_
 ·have h:=of_decide_eq_true h
  walk_at "vi"
  refine res_d ?_
  have:numOk w=false:=by
   rcases h with h|h|⟨h,h'⟩
   ·rw[h];rfl
   ·match w,h with
    | _::_::_::_,_=>rfl
   ·match w,h,h' with
    | [d,e],_,h' =>
     have:d=48:=by simpa using h'
     simp[numOk,this]
  rw[this]
  rfl
 have h0:¬ w=[]:=fun z=>h (decide_eq_true (.inl z))
 have h1:¬ 2<w.length:=fun z=>h (decide_eq_true (.inr (.inl z)))
 have h2:¬ (w.length=2∧w.take 1=[48]):=fun z=>h (decide_eq_true (.inr (.inr z)))
 have h3:1≤w.length:=by
  have:=List.length_pos_iff.mpr h0
  omega
 have hno:=num_of w ⟨h3,by omega⟩ h2
 walk_at "vi"
 refine for_S ?_
 walk_at "vi"
 refine⟨tw w,rfl,⟨_,rfl⟩,hw.all,fun i ρ=>∃ o,ρ=[some (.d (.str (tw w))),o]∧∀ j (hj:j<w.length),j<i→isDig w[j]=true,⟨none,rfl,fun j _ hj=>by omega⟩,?_,?_⟩
 ·rintro i ρ hi ⟨o,rfl,hg⟩
  have hi:i<w.length:=by rw[← hz];exact hi
  have e:(tw w).cps.getD i 0=w[i]:=by
   show w.toArray.getD i 0=_
   rw[Array.getD_eq_getD_getElem?,List.getElem?_toArray,List.getElem?_eq_getElem hi];rfl
  walk_at "vi"
  refine s_if ?_
  walk_at "vi"
  refine nin_S (y:=t1 ((tw w).cps.getD i 0)) (z:=FIG) rfl rfl ?_
  rw[fig_one,e]
  cases hD:isDig w[i] with
  | true =>
   walk_at "vi"
   refine⟨_,rfl,fun j hj hji=>?_⟩
   by_cases e:j=i
   ·subst e;exact hD
   ·exact hg j hj (by omega)
  | false =>
   walk_at "vi"
   have:numOk w=false:=by
    rw[hno,Bool.eq_false_iff]
    intro z
    have:=List.all_eq_true.mp z _ (List.getElem_mem hi)
    rw[hD] at this
    cases this
   exact res_d (by rw[this];rfl)
 rintro ρ ⟨o,rfl,hg⟩
 have hok:numOk w=true:=by
  rw[hno,List.all_eq_true]
  intro x hx
  obtain⟨j,hj,rfl⟩:=List.getElem_of_mem hx
  exact hg j hj (by rw[hz];exact hj)
 walk_at "vi"
 refine bi_intT rfl (by rw[hz];omega) (vl_ok hok).1 ?_
 exact res_d (by rw[hok];rfl)
theorem use_ln{Q:TV→Prop}{w:List Nat}{a:TV}(na:NR a)(ha:a.data=.str (tw w))(hw:Pl 100000 w)(q:Q (.av (.d (.int (if numOk w=true then vl w else -1))))):Cl S_ln [] Q [a]:=call_of (.cons na .nil) ⟨w,by show [a.data]=_;rw[ha],hw,rfl⟩ (Got.own rfl) q
theorem sl_12(w:List Nat):Txt.slice (tw w) (some 1) (some 2)=tw ((w.drop 1).take 1):=by
 match w with
 | []=>rfl
 | [d]=>rfl
 | d::e::r =>
  have hl:(tw (d::e::r)).length=r.length+2:=tw_len _
  have:=beq_iff_eq.mp (PyProof.Rows.slice_closesL (x:=tw (d::e::r)) (i:=1) (j:=2) (by decide) (by decide) (by rw[hl];omega))
  rw[this]
  rfl
noncomputable def numV(x:List Nat):Int:=if numOk x=true then vl x else -1
theorem numV_neg{x:List Nat}:numV x<0↔numOk x=false:=by
 unfold numV
 cases h:numOk x with
 | true=>have:=(vl_ok h).2;simp;omega
 | false=>simp
noncomputable def Pre_rd(cs:List AV):Prop:=∃ t:List Nat,cs=[.d (.str (tw t))]∧Pl 90000 t
noncomputable def Fst(t:List Nat)(i:Nat):Prop:=∃ hi:i<(spl 32 t).length,roomOk (spl 32 t)[i]=false∧∀ j (hj:j<i),roomOk ((spl 32 t)[j]'(by omega))=true
noncomputable def Post_rd(cs:List AV)(c:AV):Prop:=∃ t:List Nat,cs=[.d (.str (tw t))]∧((∃ i:Nat,Fst t i∧c=.d (.tuple [.str "text",.int i]))∨((∀ x∈spl 32 t,roomOk x=true)∧c=.d (.tuple [dL (rowsOf t),dI (sgnsOf t)])))
theorem ok_law_read(T:Txt K mg):Cal P w K mg base (CXE P w) 2 "_law_read" ["_law_text_here"] [] (spR K Pre_rd Post_rd NP):=by
 have c_law_number:Cal P w K mg base (CXE P w) 1 "_law_number" ["_law_word"] [] (spV K S_ln NX):=ok_law_number T
 refine valR T.x_law_read sc_law_read (fun cs ⟨t,e,_⟩=>by rw[e];rfl) (fun f cdv A outer s H E hr=>?_) [] (by simp)
 refine⟨_,(pss_cons (ps_set (i:=1) sc_law_read.nd rfl (Or.inl rfl) (pe_lst pa_nil))
   (pss_cons (ps_set (i:=2) sc_law_read.nd rfl (Or.inl rfl) (pe_lst pa_nil))
   (pss_cons (ps_for PassesOwn.never rfl (pi_enumK (K:=K) rfl rfl T.n_enumerate (pa_cons (pe_bmK (K:=K) rfl PySem.F.plainAttrs_str PySem.F.slot_str_split PySem.F.type_str_split mt_split (pv 0) (pa_cons pe_str pa_nil)) pa_nil)) (pg_tupK (K:=K) (n:=2) rfl rfl (pgs_cons (pg_name (i:=3) sc_law_read.nd rfl (Or.inl rfl)) (pgs_cons (pg_name (i:=4) sc_law_read.nd rfl (Or.inl rfl)) pgs_nil)))
    (pss_cons (ps_setC (i:=5) sc_law_read.nd rfl rfl (N:=["_law_one"]) (cap:=[none]) rfl rfl rfl (by kernel_rfl) (pi_seq (K:=K) rfl (pe_bmK (K:=K) rfl PySem.F.plainAttrs_str PySem.F.slot_str_split PySem.F.type_str_split mt_split (pe_slice (sl_anyS (K:=K) rfl) (pv 4) (po_some pe_int) po_none) (pa_cons pe_str pa_nil))) (fun _ _ _ _=>(pg_name (i:=0) (show (["_law_one"]:List Str).Nodup from by decide +kernel) rfl (Or.inl rfl))) (fun _ _ _ _=>pifs_nil) (fun _ _ _ _=>(pe_cal (c_law_number.mono (by decide)) hr rfl passE (pa_cons (pv 0) pa_nil))))
    (pss_cons (ps_if (PW.pt (pw_or (pt_cmpR (op_neq (K:=K) rfl hr.units) (pe_slice (sl_anyS (K:=K) rfl) (pv 4) (po_some pe_int) (po_some pe_int)) pe_str (nomark _)) (pw_or (pt_cmpR (op_notInA (K:=K) rfl hr.units) (pe_ix (ix_any (K:=K) rfl hr.units) (pv 4) pe_int (fun _ _=>rfl)) pe_str (by with_unfolding_all rfl)) (pw_or1 (pt_cmpR op_lt (pe_callB (call_minL (K:=K) rfl rfl) rfl T.n_min PyProof.Rows.boot_min (pa_cons (pv 5) pa_nil)) pe_int (nomark _))))))
     (pss_one (ps_ret (pe_tup (pa_cons pe_str (pa_cons (pv 3) pa_nil)))))
     pss_nil)
    (pss_cons (ps_expr (pe_bmK (K:=K) rfl PySem.F.plainAttrs_list PySem.F.slot_list_append PySem.F.type_list_append mt_append (pv 2) (pa_cons (pe_callTy call_intT rfl T.n_int PyProof.Rows.boot_int (pa_cons (pe_ix (ix_any (K:=K) rfl hr.units) (pv 4) pe_int (fun _ _=>rfl)) pa_nil)) pa_nil)))
    (pss_one (ps_expr (pe_bmK (K:=K) rfl PySem.F.plainAttrs_list PySem.F.slot_list_append PySem.F.type_list_append mt_append (pv 1) (pa_cons (pv 5) pa_nil))))))))
   (pss_one (ps_ret (pe_tup (pa_cons (pv 1) (pa_cons (pv 2) pa_nil)))))))),?_⟩
 rintro cs ⟨t,rfl,ht⟩
 have hl:=ht.1
 have hz:(tw t).length=t.length:=tw_len t
 have hsl:=spl_len (c:=32) ht
 have hpl:∀ x∈spl 32 t,Pl 100000 x:=fun x hx=>(spl_pl ht hx).mono (by decide)
 show Sv K _ _ _ [some (.d (.str (tw t))),none,none,none,none,none] _
 walk_at "vi"
 refine for_E (α:=List Nat) ?_
 walk_at "vi"
 refine ev_split ?_
 walk_at "vi"
 refine⟨tw t,rfl,NR.av,?_⟩
 walk_at "vi"
 refine⟨t1 32,rfl,NR.av,by show 0<1;decide,by omega,?_⟩
 rw[spl_eq]
 walk_at "vi"
 refine⟨_,spl 32 t,fun x=>.str (tw x),rfl,(by rw[TV.data,AV.data,List.map_map];exact congrArg PyData.list (datas_mapd _ _)),⟨_,rfl⟩,fun i ρ=>∃ o1 o2 o3,ρ=[some (.d (.str (tw t))),some (.own (((spl 32 t).take i).map fun x=>.d (dI (rowOf x)))),some (.own (((spl 32 t).take i).map fun x=>.d (.int (sgnOf x)))),o1,o2,o3]∧∀ j (hj:j<(spl 32 t).length),j<i→roomOk (spl 32 t)[j]=true,⟨none,none,none,rfl,fun j _ hj=>by omega⟩,?_,?_⟩
 ·rintro i ρ hi ⟨o1,o2,o3,rfl,hg⟩
  have hw:=hpl _ (List.getElem_mem hi)
  have ht1:(spl 32 t).take (i+1)=(spl 32 t).take i++[(spl 32 t)[i]]:=by rw[List.take_add_one,List.getElem?_eq_getElem hi];rfl
  have hfst:roomOk (spl 32 t)[i]=false→Fst t i:=fun h=>⟨hi,h,fun j hj=>hg j (by omega) hj⟩
  generalize hx:(spl 32 t)[i]=x at hw hfst ht1
  have hxl:=hw.1
  have hzx:(tw x).length=x.length:=tw_len x
  have hd2:=drop_pl (k:=2) hw
  have hs4:=spl_len (c:=44) hd2
  have hdl:(tw (x.drop 2)).length≤100000:=by rw[tw_len];exact hd2.1
  refine gv_tup2 ?_
  walk_at "vi"
  refine comp_M (α:=List Nat) ?_
  refine ev_split ?_
  walk_at "vi"
  refine sl_S ?_
  walk_at "vi"
  refine⟨tw x,rfl,NR.av,by omega,?_⟩
  rw[sl_from (by decide),show Int.toNat 2=2 from rfl]
  refine⟨tw (x.drop 2),rfl,NR.av,?_⟩
  walk_at "vi"
  refine⟨t1 44,rfl,NR.av,by show 0<1;decide,by omega,?_⟩
  rw[spl_eq]
  refine⟨spl 44 (x.drop 2),fun y=>.str (tw y),fun y=>.d (.int (numV y)),.inl (by rw[TV.data,AV.data,List.map_map];exact congrArg PyData.list (datas_mapd _ _)),NR.av,by omega,fun j hj=>?_,_,Got.own (clean_map fun _=>rfl),?_⟩
  ·show Gv K _ _ [none] _
   walk_at "vi"
   refine⟨wk_0,?_⟩
   walk_at "vi"
   exact use_ln NR.av rfl (spl_pl hd2 (List.getElem_mem hj)) rfl
  refine v_sD (x:=dI ((spl 44 (x.drop 2)).map numV)) (by rw[AV.data,datas_mapd];show _=PyData.list (((spl 44 (x.drop 2)).map numV).map .int);rw[List.map_map];rfl) ?_
  walk_at "vi"
  refine s_if (tv_eq (v:=!roomOk x) ?_ ?_)
  ·walk_at "vi"
   refine sl_S ?_
   walk_at "vi"
   refine⟨tw x,rfl,NR.av,by omega,?_⟩
   rw[sl_12]
   walk_at "vi"
   refine ne_S (w:=(x.drop 1).take 1) (x:=[58]) (n:=100000) (m:=1) NR.av NR.av rfl rfl ⟨Nat.le_trans (by rw[List.length_take];exact Nat.min_le_left ..) (by decide),fun y hy=>hw.2 y (List.mem_of_mem_drop (List.mem_of_mem_take hy))⟩ (Pl.one (by decide)) ?_
   refine⟨_,rfl,?_⟩
   by_cases h58:(x.drop 1).take 1=[58]
   case neg =>
    rw[decide_eq_false h58]
    show true=!roomOk x
    have:roomOk x=false:=by
     match x,h58 with
     | [],_=>rfl
     | [d],_=>rfl
     | d::e::r,h58 =>
      have:¬ e=58:=fun z=>h58 (by rw[z];rfl)
      simp[roomOk,this]
    rw[this]
    rfl
   rw[decide_eq_true h58,if_neg (by decide)]
   obtain⟨d,r,rfl⟩:∃ d r,x=d::58::r:=by
    match x,h58 with
    | d::e::r,h58 =>
     have:e=58:=by simpa using h58
     exact⟨d,r,by rw[this]⟩
   walk_at "vi"
   refine ix_S (c:=d) rfl (by omega) (atI_of (by decide) rfl) ?_
   walk_at "vi"
   refine nin_S (y:=t1 d) (z:=FIG) rfl rfl ?_
   rw[fig_one]
   have er:roomOk (d::58::r)=(isDig d && (spl 44 r).all numOk):=by simp[roomOk]
   refine⟨_,rfl,?_⟩
   cases hD:isDig d with
   | false =>
    rw[er,hD]
    rfl
   | true =>
    show if (false:Bool)=true then _ else _
    rw[if_neg Bool.false_ne_true]
    walk_at "vi"
    refine bi_minL (ns:=(spl 44 r).map numV) rfl (fun z=>spl_ne 44 r (List.map_eq_nil_iff.mp z)) fun m hm hmin=>?_
    walk_at "vi"
    rw[er,hD,Bool.true_and]
    have:(m<0)↔¬ ((spl 44 r).all numOk=true):=by
     constructor
     ·intro z ha
      obtain⟨y,hy,rfl⟩:=List.mem_map.mp hm
      have:=numV_neg.mp z
      rw[List.all_eq_true.mp ha y hy] at this
      cases this
     ·intro z
      obtain⟨y,hy,hn⟩:∃ y∈spl 44 r,numOk y=false:=by
       refine Classical.byContradiction fun hno=>z (List.all_eq_true.mpr fun y hy=>?_)
       cases hb:numOk y with
       | true=>rfl
       | false=>exact absurd ⟨y,hy,hb⟩ hno
      have h1:=hmin _ (List.mem_map.mpr ⟨y,hy,rfl⟩)
      have h2:=numV_neg.mpr hn
      omega
    cases ha:(spl 44 r).all numOk with
    | true=>rw[decide_eq_false (fun z=>this.mp z ha)];rfl
    | false=>rw[decide_eq_true (this.mpr (by rw[ha];exact Bool.false_ne_true))];rfl
  cases hR:roomOk x with
  | false =>
   walk_at "vi"
   refine ev_tup ?_
   walk_at "vi"
   exact⟨[.d (.str "text"),.d (.int i)],.cons rfl (.cons rfl .nil),by show 2≤1000;decide,_,res_d rfl,t,rfl,.inl ⟨i,hfst hR,rfl⟩⟩
  | true =>
   obtain⟨d,r,rfl,hd,hn⟩:=room_inv hR
   walk_at "vi"
   refine ix_S (c:=d) rfl (by omega) (atI_of (by decide) rfl) ?_
   walk_at "vi"
   refine bi_intT rfl (by show 1≤640;decide) (sgn_ok hd).1 ?_
   refine v_ap ?hz1 ?_
   case hz1=>rw[List.length_map,List.length_take];omega
   walk_at "vi"
   refine v_ap ?hz2 ?_
   case hz2=>rw[List.length_map,List.length_take];omega
   refine⟨some (.d (.int i)),some (.d (.str (tw (d::58::r)))),some (.d (dI ((spl 44 (List.drop 2 (d::58::r))).map numV))),?_,fun j hj hji=>?_⟩
   ·rw[ht1,List.map_append,List.map_append]
    have e1:(spl 44 r).map numV=rowOf (d::58::r):=List.map_congr_left fun y hy=>by unfold numV;rw[hn y hy,if_pos rfl]
    show [_,some (AV.own (_++[AV.d (dI ((spl 44 r).map numV))])),_,_,_,_]=_
    rw[e1]
    rfl
   ·by_cases e:j=i
    ·subst e;rw[hx];exact hR
    ·exact hg j hj (by omega)
 rintro ρ ⟨o1,o2,o3,rfl,hg⟩
 rw[List.take_length]
 have hall:∀ x∈spl 32 t,roomOk x=true:=fun x hx=>by
  obtain⟨j,hj,rfl⟩:=List.getElem_of_mem hx
  exact hg j hj hj
 walk_at "vi"
 refine ev_tupB ?_
 walk_at "vi"
 refine⟨by walk_at "nrs",by show 2≤1000;decide,_,.inr ⟨NR.bor,rfl⟩,t,rfl,.inr ⟨hall,?_⟩⟩
 show AV.d (.tuple [PyData.list (AV.datas _),PyData.list (AV.datas _)])=_
 rw[datas_mapd,datas_mapd]
 show _=AV.d (.tuple [.list (((spl 32 t).map rowOf).map dI),.list (((spl 32 t).map sgnOf).map .int)])
 rw[List.map_map,List.map_map]
 rfl
noncomputable def dDue(w:WN):PyData:=match w with
 | none=>.none
 | some (a,n)=>.tuple [.str a,.int n]
theorem dDue_flat(w:WN):noLst (dDue w)=true:=by
 cases w with
 | none=>rfl
 | some p=>rfl
structure Rdd(rows:List (List Int))(signs:List Int):Prop where
 z:Sz rows signs
 n0:0<rows.length
 s:signs.length=rows.length
 l:∀ k,k<rows.length→1≤(rows.getD k []).length
 p:∀ k,k<rows.length→∀ y∈rows.getD k [],0≤y
 g:∀ k,k<signs.length→sgOk signs k
noncomputable def Pre_ft(cs:List AV):Prop:=∃ (rows:List (List Int)) (signs:List Int),cs=[.d (dL rows),.d (dI signs)]∧Rdd rows signs
noncomputable def Post_ft(cs:List AV)(c:AV):Prop:=∃ (rows:List (List Int)) (signs:List Int),cs=[.d (dL rows),.d (dI signs)]∧c=.d (dDue (machO rows signs))
theorem ok_fault(T:Txt K mg):Cal P w K mg base (CXE P w) 1 "_law_fault" ["_law_rows", "_law_signs"] [] (spR K Pre_ft Post_ft NP):=by
 refine valR T.x_law_fault sc_law_fault (fun cs ⟨r,s,e,_⟩=>by rw[e];rfl) (fun f cdv A outer s H E hr=>?_) [] (by simp)
 refine⟨_,(pss_cons (ps_if (pt_cmpR op_gt (pe_callB (call_lenAny (K:=K) rfl) rfl T.n_len PySem.boot_len (pa_cons (pv 0) pa_nil)) pe_int (nomark _))
    (pss_one (ps_ret (pe_tup (pa_cons pe_str (pa_cons (pe_callB (call_lenAny (K:=K) rfl) rfl T.n_len PySem.boot_len (pa_cons (pv 0) pa_nil)) pa_nil)))))
    pss_nil)
   (pss_cons (ps_for PassesOwn.never rfl (pi_range1 rfl T.n_range (pa_cons (pe_callB (call_lenAny (K:=K) rfl) rfl T.n_len PySem.boot_len (pa_cons (pv 0) pa_nil)) pa_nil)) (pg_name (i:=2) sc_law_fault.nd rfl (Or.inl rfl))
    (pss_cons (ps_if (PW.pt (pw_or (pt_cmpR op_gt (pe_callB (call_lenAny (K:=K) rfl) rfl T.n_len PySem.boot_len (pa_cons (pe_ix (ix_any (K:=K) rfl hr.units) (pv 0) (pv 2) (fun _ _=>rfl)) pa_nil)) pe_int (nomark _)) (pw_or1 (pt_cmpR (op_neq (K:=K) rfl hr.units) (pe_callB (call_lenAny (K:=K) rfl) rfl T.n_len PySem.boot_len (pa_cons (pe_ix (ix_any (K:=K) rfl hr.units) (pv 0) (pv 2) (fun _ _=>rfl)) pa_nil)) (pe_callB (call_lenAny (K:=K) rfl) rfl T.n_len PySem.boot_len (pa_cons (pe_ix (ix_any (K:=K) rfl hr.units) (pv 0) pe_int (fun _ _=>rfl)) pa_nil)) (nomark _)))))
     (pss_one (ps_ret (pe_tup (pa_cons pe_str (pa_cons (pv 2) pa_nil)))))
     pss_nil)
    (pss_one (ps_for PassesOwn.never rfl (pi_seq (K:=K) rfl (pe_ix (ix_any (K:=K) rfl hr.units) (pv 0) (pv 2) (fun _ _=>rfl))) (pg_name (i:=3) sc_law_fault.nd rfl (Or.inl rfl))
     (pss_one (ps_if (pt_cmpR op_ge (pv 3) (pe_callB (call_lenAny (K:=K) rfl) rfl T.n_len PySem.boot_len (pa_cons (pv 0) pa_nil)) (nomark _))
      (pss_one (ps_ret (pe_tup (pa_cons pe_str (pa_cons (pv 2) pa_nil)))))
      pss_nil))))))
   (pss_cons (ps_if (pt_cmpR (op_neq (K:=K) rfl hr.units) (pe_ix (ix_any (K:=K) rfl hr.units) (pe_ix (ix_any (K:=K) rfl hr.units) (pv 0) pe_int (fun _ _=>rfl)) pe_int (fun _ _=>rfl)) pe_int (nomark _))
    (pss_one (ps_ret (pe_tup (pa_cons pe_str (pa_cons pe_int pa_nil)))))
    pss_nil)
   (pss_one (ps_ret pe_non))))),?_⟩
 rintro cs ⟨rows,signs,rfl,hR⟩
 have hz:=hR.z
 have hs:=hR.s
 have n0:=hR.n0
 show Sv K _ _ _ [some (.d (dL rows)),some (.d (dI signs)),none,none] _
 have ret:∀ wd n,machO rows signs=some (wd,n)→∃ c,Res (.av (.d (.tuple (AV.datas [.d (.str wd),.d (.int n)])))) c∧Post_ft [.d (dL rows),.d (dI signs)] c:=fun wd n h=>⟨_,res_d rfl,rows,signs,rfl,by rw[h];rfl⟩
 have rp:∀ wd n,partsO rows signs=some (wd,n)→machO rows signs=some (wd,n):=fun wd n h=>by unfold machO;rw[h];rfl
 have rw1:∀ wd n,wantC rows signs=some (wd,n)→machO rows signs=some (wd,n):=fun wd n h=>rp wd n (by unfold partsO;rw[h];rfl)
 have z1:=hz.1
 have z2:=hz.2.1
 walk_at "vs"
 refine len_L rfl ?_
 rw[List.length_map]
 walk_at "vs"
 refine ite2 (fun h=>?_) fun h1=>?_
 ·have h0:100<rows.length:=by have:=of_decide_eq_true h;omega
  walk_at "vs"
  refine ev_tup ?_
  walk_at "vs"
  refine len_L rfl ?_
  rw[List.length_map]
  walk_at "vs"
  exact⟨[.d (.str "rooms"),.d (.int _)],.cons rfl (.cons rfl .nil),by simp,ret _ _ (rw1 _ _ (if_pos (.inr h0)))⟩
 have h1:¬ 100<rows.length:=fun z=>h1 (decide_eq_true (by omega))
 have hc:wantC rows signs=none:=by unfold wantC;rw[if_neg (by omega),if_neg (by omega)]
 walk_at "vs"
 refine for_R ?_
 walk_at "vs"
 refine len_L rfl ?_
 rw[List.length_map]
 walk_at "vs"
 refine⟨((rows.length:Nat):Int),rfl,⟨by omega,by omega⟩,fun i ρ=>∃ o1 o2,ρ=[some (.d (dL rows)),some (.d (dI signs)),o1,o2]∧∀ j,j<i→rowF rows j=none,⟨none,none,rfl,fun j hj=>by omega⟩,?_,?_⟩
 ·rintro i ρ hi ⟨o1,o2,rfl,hg⟩
  have hi:i<rows.length:=by omega
  have hx:=hz.2.2 _ (getD_mem' (d:=[]) hi)
  have l0:=hR.l i hi
  have p0:=hR.p i hi
  have bad:∀ wd n,rowF rows i=some (wd,n)→machO rows signs=some (wd,n):=fun wd n h=>rp wd n (by unfold partsO;rw[hc,fs_some hi hg h];rfl)
  have badL:¬ letOk rows i→machO rows signs=some (("letters" : Str),(i:Int)):=fun h=>bad _ _ (by unfold rowF;rw[if_neg h])
  walk_at "vs"
  refine ix_L rfl (atI_rowL (by omega) (by omega)) Item.d ?_
  rw[Int.toNat_natCast]
  walk_at "vs"
  refine len_L rfl ?_
  rw[List.length_map]
  walk_at "vs"
  refine ite2 (fun h=>?_) fun h=>?_
  ·have h0:64<(rows.getD i []).length:=by have:=of_decide_eq_true h;omega
   walk_at "vs"
   refine ev_tup ?_
   walk_at "vs"
   exact⟨[.d (.str "letters"),.d (.int _)],.cons rfl (.cons rfl .nil),by simp,ret _ _ (badL fun z=>by have:=z.2.1;omega)⟩
  have l1:¬ 64<(rows.getD i []).length:=fun z=>h (decide_eq_true (by omega))
  walk_at "vs"
  refine ix_L rfl (atI_rowL (by omega) (by omega)) Item.d ?_
  rw[Int.toNat_natCast]
  walk_at "vs"
  refine len_L rfl ?_
  rw[List.length_map]
  walk_at "vs"
  refine ix_L rfl (atI_rowL (by decide) (by omega)) Item.d ?_
  rw[Int.toNat_zero]
  walk_at "vs"
  refine len_L rfl ?_
  rw[List.length_map]
  walk_at "vs"
  by_cases hl:(rows.getD i []).length=(rows.getD 0 []).length
  case neg =>
   rw[decide_eq_false (show ¬ (((rows.getD i []).length:Nat):Int)=((rows.getD 0 []).length:Nat) by omega)]
   walk_at "vs"
   refine ev_tup ?_
   walk_at "vs"
   exact⟨[.d (.str "letters"),.d (.int _)],.cons rfl (.cons rfl .nil),by simp,ret _ _ (badL fun z=>by have:=z.2.2;omega)⟩
  have lok:letOk rows i:=⟨by omega,by omega,hl⟩
  rw[decide_eq_true (show (((rows.getD i []).length:Nat):Int)=((rows.getD 0 []).length:Nat) by rw[hl])]
  walk_at "vs"
  refine for_L (α:=Int) ?_
  walk_at "vs"
  refine ix_L rfl (atI_rowL (by omega) (by omega)) Item.d ?_
  rw[Int.toNat_natCast]
  refine⟨rows.getD i [],PyData.int,.inl rfl,⟨_,rfl⟩,fun j ρ=>∃ o,ρ=[some (.d (dL rows)),some (.d (dI signs)),some (.d (.int i)),o]∧∀ t (h:t<(rows.getD i []).length),t<j→0≤(rows.getD i [])[t]∧(rows.getD i [])[t] < (rows.length:Int),⟨o2,rfl,fun t _ ht=>by omega⟩,?_,?_⟩
  ·rintro j ρ hj ⟨o,rfl,hq⟩
   have hmem:=List.getElem_mem hj
   have g0:=p0 _ hmem
   have badN:¬ nxOk rows i→machO rows signs=some (("next" : Str),(i:Int)):=fun h=>bad _ _ (by unfold rowF;rw[if_pos lok,if_neg h])
   walk_at "vs"
   refine len_L rfl ?_
   rw[List.length_map]
   walk_at "vs"
   refine ite2 (fun h=>?_) fun h=>?_
   ·have h0:(rows.length:Int)≤(rows.getD i [])[j]:=by have:=of_decide_eq_true h;omega
    walk_at "vs"
    refine ev_tup ?_
    walk_at "vs"
    exact⟨[.d (.str "next"),.d (.int _)],.cons rfl (.cons rfl .nil),by simp,ret _ _ (badN fun z=>by have:=(z _ hmem).2;omega)⟩
   have g1:¬ (rows.length:Int)≤(rows.getD i [])[j]:=fun z=>h (decide_eq_true (by omega))
   walk_at "vs"
   refine⟨_,rfl,fun t ht htj=>?_⟩
   by_cases e:t<j
   ·exact hq t ht e
   ·have:t=j:=by omega
    subst this
    exact⟨by omega,by omega⟩
  ·rintro ρ ⟨o,rfl,hq⟩
   walk_at "vs"
   refine⟨_,_,rfl,fun t ht=>?_⟩
   by_cases e:t<i
   ·exact hg t e
   ·have:t=i:=by omega
    subst this
    unfold rowF
    rw[if_pos lok,if_pos (show nxOk rows t from fun y hy=>by
     obtain⟨k,hk,e⟩:=List.getElem_of_mem hy
     have:=hq k hk hk
     rw[e] at this
     exact this)]
 rintro ρ ⟨o1,o2,rfl,hg⟩
 rw[Int.toNat_natCast] at hg
 have hrow:fs (rowF rows) rows.length=none:=fs_none hg
 have hp:partsO rows signs=none:=by unfold partsO;rw[hc,hrow,fs_none fun j hj=>by unfold sgF;rw[if_pos (hR.g j hj)]];rfl
 have hl:=hR.l 0 n0
 walk_at "vs"
 refine ix_L rfl (atI_rowL (by decide) (by omega)) Item.d ?_
 rw[Int.toNat_zero]
 walk_at "vs"
 refine ix_L rfl (atI_intL (by decide) (by omega)) (Item.flat rfl) ?_
 rw[Int.toNat_zero]
 walk_at "vs"
 by_cases he:(rows.getD 0 []).getD 0 0=0
 ·rw[decide_eq_true he]
  walk_at "vs"
  exact⟨_,res_d rfl,rows,signs,rfl,by unfold machO frO;rw[hp,if_pos he];rfl⟩
 ·rw[decide_eq_false he]
  walk_at "vs"
  refine ev_tup ?_
  walk_at "vs"
  exact⟨[.d (.str "front"),.d (.int _)],.cons rfl (.cons rfl .nil),by simp,ret _ _ (by unfold machO frO;rw[hp,if_neg he];rfl)⟩
theorem use_fault{Q:TV→Prop}{X:Exc→Prop}{rows:List (List Int)}{signs:List Int}{a b:TV}(na:NR a)(nb:NR b)(ha:a.data=dL rows)(hb:b.data=dI signs)(hR:Rdd rows signs)(q:Q (.av (.d (dDue (machO rows signs))))):ClR Pre_ft Post_ft NP [] Q X [a,b] :=
 ⟨[.d (dL rows),.d (dI signs)],.cons (.d na ha) (.cons (.d nb hb) .nil),⟨rows,signs,rfl,hR⟩,fun c ⟨r,s,e,ec⟩=>by
  simp only[List.append_nil,List.cons.injEq,AV.d.injEq,and_true] at e
  have e1:=dL_inj e.1
  have e2:=dI_inj e.2
  subst e1 e2 ec
  exact⟨_,Got.own (dDue_flat _),q⟩,fun _ z=>z.elim⟩
theorem fs_ex{f:Nat→WN}{n:Nat}{v:Str×Int}(h:fs f n=some v):∃ k,f k=some v:=by
 unfold fs at h
 obtain⟨k,_,e⟩:=List.exists_of_findSome?_eq_some h
 exact⟨k,e⟩
theorem or_some{a b:WN}{v:Str×Int}(h:a.or b=some v):a=some v∨b=some v:=by
 cases a with
 | none=>exact .inr h
 | some x=>exact .inl h
theorem machO_ok{rows:List (List Int)}{signs:List Int}{wd:Str}{n:Int}(h:machO rows signs=some (wd,n)):PyData.strOk wd=true∧wd ≠ "text" := by
 rcases or_some h with h|h
 ·rcases or_some h with h|h
  ·unfold wantC at h
   split at h
   ·cases h;decide +kernel
   ·split at h
    ·cases h;decide +kernel
    ·cases h
  ·rcases or_some h with h|h
   ·obtain⟨k,h⟩:=fs_ex h
    unfold rowF at h
    split at h
    ·split at h
     ·cases h
     ·cases h;decide +kernel
    ·cases h;decide +kernel
   ·obtain⟨k,h⟩:=fs_ex h
    unfold sgF at h
    split at h
    ·cases h
    ·cases h;decide +kernel
 ·unfold frO at h
  split at h
  ·cases h
  ·cases h;decide +kernel
inductive Due(t:List Nat):Bool→Str→Int→Prop
 | text {i:Nat} (h:Fst t i):Due t true "text" i
 | mach (h:∀ x∈spl 32 t,roomOk x=true) {wd:Str} {n:Int} (g:machO (rowsOf t) (sgnsOf t)=some (wd,n)):Due t false wd n
noncomputable def exO(CT CM:Addr)(b:Bool)(wd:Str)(n:Int):Exc:=if b then exT CT n else exD CM wd n
theorem Fst.one{t:List Nat}{i j:Nat}(h:Fst t i)(g:Fst t j):i=j:=by
 obtain⟨h1,h2,h3⟩:=h
 obtain⟨g1,g2,g3⟩:=g
 rcases Nat.lt_trichotomy i j with z|z|z
 ·have:=g3 i z;rw[h2] at this;cases this
 ·exact z
 ·have:=h3 j z;rw[g2] at this;cases this
theorem Due.rf{t:List Nat}{b:Bool}{wd:Str}{n:Int}{CT CM:Addr}{e:Exc}(h:Due t b wd n)(r:Rf t CT CM e):e=exO CT CM b wd n:=by
 cases h with
 | text h =>
  cases r with
  | text i hi g1 g2=>rw[h.one ⟨hi,g1,g2⟩];rfl
  | mach g _ =>
   obtain⟨h1,h2,_⟩:=h
   rw[g _ (List.getElem_mem h1)] at h2
   cases h2
 | mach h g =>
  cases r with
  | text i hi g1 _=>rw[h _ (List.getElem_mem hi)] at g1;cases g1
  | mach _ g'=>rw[g] at g';cases g';rfl
theorem Due.no{t:List Nat}{b:Bool}{wd:Str}{n:Int}(h:Due t b wd n)(r:∀ x∈spl 32 t,roomOk x=true)(g:machO (rowsOf t) (sgnsOf t)=none):False:=by
 cases h with
 | text h =>
  obtain⟨h1,h2,_⟩:=h
  rw[r _ (List.getElem_mem h1)] at h2
  cases h2
 | mach _ h=>rw[g] at h;cases h
theorem Due.ok{t:List Nat}{b:Bool}{wd:Str}{n:Int}(h:Due t b wd n):∃ ow:PyData.strOk wd=true,decide ((⟨wd,ow⟩:OkS)=⟨"text",by decide +kernel⟩)=b:=by
 cases h with
 | text h=>exact⟨by decide +kernel,decide_eq_true rfl⟩
 | mach _ h=>exact⟨(machO_ok h).1,decide_eq_false fun z=>(machO_ok h).2 (Subtype.mk.inj z)⟩
section
variable{C_WheelError C_NoMachine C_NoText:Addr}
theorem exO_kind(Z:Cs K mg C_WheelError C_NoMachine C_NoText)(b:Bool)(wd:Str)(n:Int):PySem.W.exmOne K (.ref (exO C_NoText C_NoMachine b wd n).cls) (.ref C_WheelError)=some true∧ExcCls K (exO C_NoText C_NoMachine b wd n).cls∧PySem.W.kitOne K (.ref (exO C_NoText C_NoMachine b wd n).cls) (.type "ValueError")=some true∧PySem.W.kitOne K (.ref (exO C_NoText C_NoMachine b wd n).cls) (.ref C_NoText)=some b∧PySem.W.kitOne K (.ref (exO C_NoText C_NoMachine b wd n).cls) (.ref C_NoMachine)=some (!b)∧noLsts ((exO C_NoText C_NoMachine b wd n).fs.map Prod.snd)=true:=by
 cases b with
 | true=>exact⟨Z.mT_We,Z.k_NoText,Z.iT_v,Z.iT_T,Z.iT_M,rfl⟩
 | false=>exact⟨Z.mM_We,Z.k_NoMachine,Z.iM_v,Z.iM_T,Z.iM_M,rfl⟩
noncomputable def S_lk(ds:List PyData)(c:AV):Prop:=∃ (t:List Nat) (b:Bool) (wd:Str) (n:Int),ds=[.str (tw t)]∧Pl 90000 t∧Due t b wd n∧c=.own [.d (.bool true),.d (.bool b),.d (.bool (!b))]
theorem ok_law_kinds(T:Txt K mg)(Z:Cs K mg C_WheelError C_NoMachine C_NoText):Cal P w K mg base (CXE P w) 7 "_law_kinds" ["_law_text_here"] [] (spV K S_lk NX):=by
 have c_read_machine:Cal P w K mg base (CXE P w) 6 "read_machine" ["text"] [] (spR K Pre_rm Post_rm (PX_rm C_NoText C_NoMachine)):=okb_read_machine T Z
 refine val T.x_law_kinds sc_law_kinds (fun ds c ⟨t,b,wd,n,e,_⟩=>by rw[e];rfl) (fun f cdv A outer s H E hr=>?_) [] (by simp)
 refine⟨_,(pss_cons (ps_set (i:=1) sc_law_kinds.nd rfl (Or.inl rfl) (pe_lst pa_nil))
   (pss_cons (ps_tryAs (i:=2) rfl rfl sc_law_kinds.nd rfl rfl rfl Z.c_WheelError
    (fun _ _=>(pss_one (ps_expr (pe_calX (c_read_machine.mono (by decide)) hr rfl (pa_cons (pv 0) pa_nil)))))
    (fun _ _=>(pss_one (ps_set (i:=1) sc_law_kinds.nd rfl (Or.inl rfl) (pe_lst (pa_cons (pe_callB (call_isi3K (K:=K) rfl) rfl T.n_isinstance PyProof.Rows.boot_isinstance (pa_cons (pv 2) (pa_cons (pe_bltn (v:=.ty "ValueError") rfl T.n_ValueError L2.boot_ValueError rfl) pa_nil))) (pa_cons (pe_callB (call_isi3K (K:=K) rfl) rfl T.n_isinstance PyProof.Rows.boot_isinstance (pa_cons (pv 2) (pa_cons (pe_glob (v:=.ref C_NoText) rfl Z.c_NoText rfl) pa_nil))) (pa_cons (pe_callB (call_isi3K (K:=K) rfl) rfl T.n_isinstance PyProof.Rows.boot_isinstance (pa_cons (pv 2) (pa_cons (pe_glob (v:=.ref C_NoMachine) rfl Z.c_NoMachine rfl) pa_nil))) pa_nil))))))))
   (pss_one (ps_ret (pv 1))))),?_⟩
 rintro ds c ⟨t,b,wd,n,rfl,ht,hd,rfl⟩
 show Sv K _ _ _ [some (.d (.str (tw t))),none,none] _
 obtain⟨z1,z2,z3,z4,z5,z6⟩:=exO_kind Z b wd n
 walk_at "vs"
 refine sv_tryAs (X':=fun e ρ=>e=exO C_NoText C_NoMachine b wd n∧ρ=[some (.d (.str (tw t))),some (.own []),none]) (fun F'=>?_) ?_
 ·walk_at "vs"
  exact use_rm ht (fun h g _=>(hd.no h g).elim) fun e r=>⟨hd.rf r,rfl⟩
 rintro e ρ' ⟨rfl,rfl⟩
 refine⟨z1,z6,by simp,?_⟩
 show Sv K _ _ _ [some (.d (.str (tw t))),some (.own []),some (.d (dX (exO C_NoText C_NoMachine b wd n)))] _
 walk_at "vs"
 refine ev_lst ?_
 walk_at "vs"
 refine bi_isiX (e:=exO C_NoText C_NoMachine b wd n) z2 rfl z3 ?_
 walk_at "vs"
 refine ev_ref ?_
 walk_at "vs"
 refine bi_isiX (e:=exO C_NoText C_NoMachine b wd n) z2 rfl z4 ?_
 walk_at "vs"
 refine ev_ref ?_
 walk_at "vs"
 refine bi_isiX (e:=exO C_NoText C_NoMachine b wd n) z2 rfl z5 ?_
 walk_at "vs"
 refine⟨[.d (.bool true),.d (.bool b),.d (.bool (!b))],.cons rfl (.cons rfl (.cons rfl .nil)),by show 3≤1000;decide,?_⟩
 walk_at "v"
 simp only[List.set_cons_succ,List.set_cons_zero]
 refine sv_retO (n:=1) rfl ?_
 exact res_o rfl
theorem use_lk{Q:TV→Prop}{t:List Nat}{b:Bool}{wd:Str}{n:Int}(ht:Pl 90000 t)(hd:Due t b wd n)(q:Q (.av (.own [.d (.bool true),.d (.bool b),.d (.bool (!b))]))):Cl S_lk [] Q [.av (.d (.str (tw t)))]:=call_of (by walk_at "nrs") ⟨t,b,wd,n,rfl,ht,hd,rfl⟩ (Got.own rfl) q
noncomputable def Pre_rf(cs:List AV):Prop:=∃ (t:List Nat) (b:Bool) (wd:Str) (n:Int),cs=[.d (.str (tw t)),.d (.tuple [.str wd,.int n])]∧Pl 90000 t∧Due t b wd n
theorem ok_refused(T:Txt K mg)(Z:Cs K mg C_WheelError C_NoMachine C_NoText):Cal P w K mg base (CXE P w) 8 "_law_refused" ["_law_text_here", "_law_due"] [] (spR K Pre_rf (fun _ c=>c=.d (.bool true)) NP):=by
 have c_read_machine:Cal P w K mg base (CXE P w) 6 "read_machine" ["text"] [] (spR K Pre_rm Post_rm (PX_rm C_NoText C_NoMachine)):=okb_read_machine T Z
 have c_law_kinds:Cal P w K mg base (CXE P w) 7 "_law_kinds" ["_law_text_here"] [] (spV K S_lk NX):=ok_law_kinds T Z
 have c_law_whole:Cal P w K mg base (CXE P w) 1 "_law_whole" ["_law_found"] [] (spV K S_whole NX):=ok_whole T
 refine valR T.x_law_refused sc_law_refused (fun cs ⟨t,b,wd,n,e,_⟩=>by rw[e];rfl) (fun f0 cdv A outer s0 H E hr=>?_) [] (by simp)
 refine⟨_,(pss_cons (ps_set (i:=2) sc_law_refused.nd rfl (Or.inl rfl) pe_non)
   (pss_cons (ps_tryAs2 (i:=3) rfl rfl sc_law_refused.nd rfl rfl rfl Z.c_NoText rfl Z.c_NoMachine
    (fun _ _=>(pss_one (ps_expr (pe_calX (c_read_machine.mono (by decide)) hr rfl (pa_cons (pv 0) pa_nil)))))
    (fun _ _=>(pss_one (ps_set (i:=2) sc_law_refused.nd rfl (Or.inl rfl) (pe_tup (pa_cons pe_str (pa_cons (pe_xfldK (K:=K) rfl (pv 3)) pa_nil))))))
    (fun _ _=>(pss_one (ps_set (i:=2) sc_law_refused.nd rfl (Or.inl rfl) (pe_tup (pa_cons (pe_xfldK (K:=K) rfl (pv 3)) (pa_cons (pe_xfldK (K:=K) rfl (pv 3)) pa_nil)))))))
   (pss_cons (ps_if (PW.pt (pw_or (pt_cmpR (op_neq (K:=K) rfl hr.units) (pe_cal (c_law_kinds.mono (by decide)) hr rfl passE (pa_cons (pv 0) pa_nil)) (pe_lst (pa_cons pe_bl (pa_cons (pe_cmpR (op_equ (K:=K) rfl hr.units) (pe_ix (ix_any (K:=K) rfl hr.units) (pv 1) pe_int (fun _ _=>rfl)) pe_str (nomark _)) (pa_cons (pe_cmpR (op_neq (K:=K) rfl hr.units) (pe_ix (ix_any (K:=K) rfl hr.units) (pv 1) pe_int (fun _ _=>rfl)) pe_str (nomark _)) pa_nil)))) (nomark _)) (pw_or1 (pt_cmpR op_isN (pv 2) pe_non (nomark _)))))
    (pss_one (ps_ret pe_bl))
    pss_nil)
   (pss_one (ps_ret (pe_and (pe_callB (call_isi3K (K:=K) rfl) rfl T.n_isinstance PyProof.Rows.boot_isinstance (pa_cons (pe_ix (ix_any (K:=K) rfl hr.units) (pv 2) pe_int (fun _ _=>rfl)) (pa_cons (pe_bltn (v:=.ty "str") rfl T.n_str PyProof.Rows.boot_str rfl) pa_nil))) (pe_and (pe_cal (c_law_whole.mono (by decide)) hr rfl passE (pa_cons (pe_ix (ix_any (K:=K) rfl hr.units) (pv 2) pe_int (fun _ _=>rfl)) pa_nil)) (pe_one (pe_cmpR (op_equ (K:=K) rfl hr.units) (pv 2) (pv 1) (nomark _)))))))))),?_⟩
 rintro cs ⟨t,b,wd,n,rfl,ht,hd⟩
 show Sv K _ _ _ [some (.d (.str (tw t))),some (.d (.tuple [.str wd,.int n])),none,none] _
 obtain⟨ow,eb⟩:=hd.ok
 obtain⟨z1,z2,z3,z4,z5,z6⟩:=exO_kind Z b wd n
 walk_at "vs"
 refine sv_tryAs2 (X':=fun e ρ=>e=exO C_NoText C_NoMachine b wd n∧ρ=[some (.d (.str (tw t))),some (.d (.tuple [.str wd,.int n])),some (.d .none),none]) (fun F'=>?_) ?_
 ·walk_at "vs"
  exact use_rm ht (fun h g _=>(hd.no h g).elim) fun e r=>⟨hd.rf r,rfl⟩
 rintro e ρ' ⟨rfl,rfl⟩
 refine⟨z6,by simp,?_⟩
 have hk:(PySem.W.exmOne K (.ref (exO C_NoText C_NoMachine b wd n).cls) (.ref C_NoText)=some true∧wd = "text" ∧ exO C_NoText C_NoMachine b wd n=exT C_NoText n)∨(PySem.W.exmOne K (.ref (exO C_NoText C_NoMachine b wd n).cls) (.ref C_NoText)=some false∧PySem.W.exmOne K (.ref (exO C_NoText C_NoMachine b wd n).cls) (.ref C_NoMachine)=some true∧exO C_NoText C_NoMachine b wd n=exD C_NoMachine wd n):=by
  cases hd with
  | text h=>exact .inl ⟨Z.mT_T,rfl,rfl⟩
  | mach _ _=>exact .inr ⟨Z.mM_T,Z.mM_M,rfl⟩
 rcases hk with⟨m1,ew,ee⟩|⟨m1,m2,ee⟩
 ·refine .inl ⟨m1,?_⟩
  rw[ee]
  show Sv K _ _ _ [some (.d (.str (tw t))),some (.d (.tuple [.str wd,.int n])),some (.d .none),some (.d (dX (exT C_NoText n)))] _
  walk_at "vs"
  refine ev_tup ?_
  walk_at "vs"
  refine ev_xfld ?_
  walk_at "vs"
  refine⟨exT C_NoText n,.int n,rfl,Z.eft1,rfl,?_⟩
  walk_at "vs"
  refine⟨[.d (.str wd),.d (.int n)],.cons (by rw[ew];rfl) (.cons rfl .nil),by show 2≤1000;decide,?_⟩
  walk_at "vs"
  simp only[List.set_cons_succ,List.set_cons_zero]
  walk_at "vi"
  refine use_lk ht hd ?_
  walk_at "vi"
  refine ev_lst ?_
  walk_at "vm"
  refine eq_d (f:=dS) (c:=⟨wd,ow⟩) (d:=⟨"text",by decide +kernel⟩) Enc.str rfl rfl ?_
  rw[eb]
  walk_at "vm"
  refine ne_d (f:=dS) (c:=⟨wd,ow⟩) (d:=⟨"text",by decide +kernel⟩) Enc.str rfl rfl ?_
  rw[eb]
  walk_at "vm"
  refine⟨[.d (.bool true),.d (.bool b),.d (.bool (!b))],.cons rfl (.cons rfl (.cons rfl .nil)),by show 3≤1000;decide,?_⟩
  refine ne_d (f:=fun bs:List Bool=>PyData.list (bs.map .bool)) (c:=[true,b,!b]) (d:=[true,b,!b]) Enc.bool.list rfl rfl ?_
  rw[decide_eq_true rfl]
  walk_at "vs"
  refine is_S (by rfl) ?_
  walk_at "vm"
  refine bi_i3 (isi_str rfl ?_)
  walk_at "vm"
  refine use_whole ?_
  walk_at "vm"
  refine eq_d (f:=fun p:OkS×Int=>PyData.tuple [dS p.1,.int p.2]) (c:=(⟨wd,ow⟩,n)) (d:=(⟨wd,ow⟩,n)) (Enc.str.pair Enc.int) rfl rfl ?_
  rw[decide_eq_true rfl]
  exact⟨_,res_d rfl,rfl⟩
 ·refine .inr ⟨m1,m2,?_⟩
  rw[ee]
  show Sv K _ _ _ [some (.d (.str (tw t))),some (.d (.tuple [.str wd,.int n])),some (.d .none),some (.d (dX (exD C_NoMachine wd n)))] _
  walk_at "vs"
  refine ev_tup ?_
  walk_at "vs"
  refine ev_xfld ?_
  walk_at "vs"
  refine⟨exD C_NoMachine wd n,.str wd,rfl,Z.ef1,rfl,?_⟩
  walk_at "vs"
  refine ev_xfld ?_
  walk_at "vs"
  refine⟨exD C_NoMachine wd n,.int n,rfl,Z.ef2,rfl,?_⟩
  walk_at "vs"
  refine⟨[.d (.str wd),.d (.int n)],.cons rfl (.cons rfl .nil),by show 2≤1000;decide,?_⟩
  walk_at "vs"
  simp only[List.set_cons_succ,List.set_cons_zero]
  walk_at "vi"
  refine use_lk ht hd ?_
  walk_at "vi"
  refine ev_lst ?_
  walk_at "vm"
  refine eq_d (f:=dS) (c:=⟨wd,ow⟩) (d:=⟨"text",by decide +kernel⟩) Enc.str rfl rfl ?_
  rw[eb]
  walk_at "vm"
  refine ne_d (f:=dS) (c:=⟨wd,ow⟩) (d:=⟨"text",by decide +kernel⟩) Enc.str rfl rfl ?_
  rw[eb]
  walk_at "vm"
  refine⟨[.d (.bool true),.d (.bool b),.d (.bool (!b))],.cons rfl (.cons rfl (.cons rfl .nil)),by show 3≤1000;decide,?_⟩
  refine ne_d (f:=fun bs:List Bool=>PyData.list (bs.map .bool)) (c:=[true,b,!b]) (d:=[true,b,!b]) Enc.bool.list rfl rfl ?_
  rw[decide_eq_true rfl]
  walk_at "vs"
  refine is_S (by rfl) ?_
  walk_at "vm"
  refine bi_i3 (isi_str rfl ?_)
  walk_at "vm"
  refine use_whole ?_
  walk_at "vm"
  refine eq_d (f:=fun p:OkS×Int=>PyData.tuple [dS p.1,.int p.2]) (c:=(⟨wd,ow⟩,n)) (d:=(⟨wd,ow⟩,n)) (Enc.str.pair Enc.int) rfl rfl ?_
  rw[decide_eq_true rfl]
  exact⟨_,res_d rfl,rfl⟩
end
theorem use_refused{Q:TV→Prop}{X:Exc→Prop}{t:List Nat}{b:Bool}{wd:Str}{n:Int}(ht:Pl 90000 t)(hd:Due t b wd n)(q:Q (.av (.d (.bool true)))):ClR Pre_rf (fun _ c=>c=.d (.bool true)) NP [] Q X [.av (.d (.str (tw t))),.av (.d (.tuple [.str wd,.int n]))] :=
 ⟨[.d (.str (tw t)),.d (.tuple [.str wd,.int n])],.cons (.d NR.av rfl) (.cons (.d NR.av rfl) .nil),⟨t,b,wd,n,rfl,ht,hd⟩,fun c e=>e▸⟨_,Got.own rfl,q⟩,fun _ z=>z.elim⟩
noncomputable abbrev ODD:List Str:=["", " ", "0:0,", ":0", "0:", "00:0", "0:00", "0:0 ", " 0:0", "1:0,100", "0:0,0 1:0 2:0,x"]
noncomputable abbrev ODE:List Str:=["0:0 1:5 :", "0:0" ++ repS ",0" 64,repS "0:0 " 100 ++ "0:0", "0:1 1:0,0 2:0,0,"]
theorem odd_ok:∀ z∈ODD++ODE,z.length≤500∧∀ y∈z.cps.toList,y<128:=by decide +kernel
theorem atI_strs{zs:List Str}{k:Int}(h0:0≤k)(h:k<zs.length):∃ z∈zs,atI (zs.map PyData.str) k=some (.str z):=by
 have hk:k.toNat<zs.length:=by omega
 exact⟨zs[k.toNat],List.getElem_mem hk,atI_of h0 (by rw[List.getElem?_map,List.getElem?_eq_getElem hk];rfl)⟩
noncomputable abbrev SGN:Str := "01234567899,,:: a-"
theorem sgn_at{k:Int}(h:0≤k∧k<18):∃ c,atI SGN.cps.toList k=some c∧c<128:=by
 have H:∀ n,n<18→∃ c,atI SGN.cps.toList ((n:Nat):Int)=some c∧c<128:=by
  intro n hn
  have:∀ n,n<18→(atI SGN.cps.toList ((n:Nat):Int)).isSome=true∧(atI SGN.cps.toList ((n:Nat):Int)).getD 0<128:=by decide +kernel
  obtain⟨h1,h2⟩:=this n hn
  obtain⟨c,hc⟩:=Option.isSome_iff_exists.mp h1
  rw[hc] at h2
  exact⟨c,hc,h2⟩
 obtain⟨n,rfl⟩:=Int.eq_ofNat_of_zero_le h.1
 exact H n (by omega)
noncomputable def Pre_ch(cs:List AV):Prop:=∃ (n:Nat) (t:List Nat) (y d m:Int),cs=[.d (.str (tw t)),.d (.int y),.d (.int d),.d (.int m)]∧Pl n t∧n≤89000
noncomputable def Post_ch(cs:List AV)(c:AV):Prop:=∃ (t:List Nat) (y d m:Int) (t':List Nat),cs=[.d (.str (tw t)),.d (.int y),.d (.int d),.d (.int m)]∧(∀ n,500≤n→Pl n t→Pl (n+1) t')∧c=.d (.str (tw t'))
structure QE(X:L2.Cx)(e:Expr)(t:L2.TE):Prop where
 h:L2.PE X e t
structure QA(X:L2.Cx)(es:List Expr)(t:L2.TA):Prop where
 h:L2.PA X es t
structure QS(X:L2.Cx)(st:Stmt)(t:L2.TS):Prop where
 h:L2.PS X st t
structure QSs(X:L2.Cx)(st:List Stmt)(t:L2.TS):Prop where
 h:L2.PSs X st t
section
variable{X:L2.Cx}{e a b:Expr}{es:List Expr}{te tb:L2.TE}{ta:L2.TA}{pos pos':Pos}{st:Stmt}{sts:List Stmt}{t u:L2.TS}{c:Expr}{aa bb:List Stmt}{tc:L2.TT}{r:L2.R2}{x:Str}{j:Nat}
theorem qe_str:QE X (.Constant (.str x) j pos) (tC (.str x)):=⟨pe_str⟩
theorem qe_int{i:Int}:QE X (.Constant (.int i) j pos) (tC (.int i)):=⟨pe_int⟩
theorem qv(i:Nat)(hN:X.N[i]?=some x:=by rfl)(hv:L2.Vis X.env.scope x:=by first|exact Or.inl rfl|exact Or.inr (Or.inl rfl)|exact Or.inr (Or.inr rfl))(hd:(x == ("__debug__" : Str))=false:=by decide)
  (hcd:(x == ("__classdict__" : Str))=false:=by decide):QE X (.Name x pos) (tVar i):=⟨pv i hN hv hd hcd⟩
theorem qe_op{op:Operator}(ho:L2.OpR X (binaryOp op) r)(ha:QE X a te)(hb:QE X b tb):QE X (.BinOp a op b pos) (tOp r te tb):=⟨pe_op ho ha.h hb.h⟩
theorem qe_ix(hr:L2.IxR X r)(ha:QE X a te)(hb:QE X b tb)(hs:L2.PlainIx b):QE X (.Subscript a b pos) (tOp r te tb):=⟨pe_ix hr ha.h hb.h hs⟩
theorem qa_nil:QA X [] tNil:=⟨pa_nil⟩
theorem qa_cons(h:QE X e te)(r:QA X es ta)(hs:starEach (e::es) X.env=(false,eval e X.env)::starEach es X.env:=by rfl):QA X (e::es) (tCons te ta):=⟨pa_cons h.h r.h hs⟩
theorem qe_lst(h:QA X es ta):QE X (.List es pos) (tLst ta):=⟨pe_lst h.h⟩
theorem qs_set{i:Nat}(hN:X.N.Nodup)(hi:X.N[i]?=some x)(hx:L2.Loc X.env.scope x)(he:QE X e te)(hs:swapsWith e (some (.Name x pos')) pos.line X.env=pure false:=by rfl)(hf:X.fn x=true∨X.env.scope.names.lookup x=some .local:=by first|exact .inl rfl|exact .inr rfl|assumption) :
  QS X (.Assign [.Name x pos'] e pos) (tAsg te (gName i)):=⟨ps_set hN hi hx he.h hs hf⟩
theorem qs_ret(he:QE X e te):QS X (.Return (some e) pos) (tRet te):=⟨ps_ret he.h⟩
theorem qss_cons(h:QS X st t)(r:QSs X sts u):QSs X (st::sts) (tSeq t u):=⟨pss_cons h.h r.h⟩
theorem qss_one(h:QS X st t):QSs X [st] t:=⟨pss_one h.h⟩
theorem ps_ifQ(hc:L2.PT X c tc)(ha:QSs X aa t)(hb:L2.PSs X bb u):L2.PS X (.If c aa bb pos) (tIfS tc t u):=ps_if hc ha.h hb
end
theorem ok_changed(T:Txt K mg):Cal P w K mg base (CXE P w) 1 "_law_changed" ["_law_text_here", "_law_way", "_law_cell", "_law_more"] [] (spR K Pre_ch Post_ch NP):=by
 refine valR T.x_law_changed sc_law_changed (fun cs ⟨n,t,y,d,m,e,_⟩=>by rw[e];rfl) (fun f cdv A outer s H E hr=>?_) [] (by simp)
 refine⟨_,(pss_cons (ps_ifQ (pt_cmpR (op_equ (K:=K) rfl hr.units) (pv 1) pe_int (nomark _))
    (qss_cons (qs_set (i:=4) sc_law_changed.nd rfl (Or.inl rfl) (qe_lst (qa_cons qe_str (qa_cons qe_str (qa_cons qe_str (qa_cons qe_str (qa_cons qe_str (qa_cons qe_str (qa_cons qe_str (qa_cons qe_str (qa_cons qe_str (qa_cons qe_str (qa_cons qe_str qa_nil)))))))))))))
    (qss_cons (qs_set (i:=4) sc_law_changed.nd rfl (Or.inl rfl) (qe_op (op_plus (K:=K) rfl) (qv 4) (qe_lst (qa_cons qe_str (qa_cons (qe_op (op_plus (K:=K) rfl) qe_str (qe_op op_repS qe_str qe_int)) (qa_cons (qe_op (op_plus (K:=K) rfl) (qe_op op_repS qe_str qe_int) qe_str) (qa_cons qe_str qa_nil)))))))
    (qss_one (qs_ret (qe_ix (ix_any (K:=K) rfl hr.units) (qv 4) (qe_op op_mod (qv 2) qe_int) (fun _ _=>rfl))))))
    pss_nil)
   (pss_cons (ps_set (i:=5) sc_law_changed.nd rfl (Or.inl rfl) (pe_op op_mod (pv 2) (pe_op (op_plus (K:=K) rfl) (pe_callB (call_lenAny (K:=K) rfl) rfl T.n_len PySem.boot_len (pa_cons (pv 0) pa_nil)) pe_int)))
   (pss_cons (ps_set (i:=6) sc_law_changed.nd rfl (Or.inl rfl) (pe_ix (ix_any (K:=K) rfl hr.units) pe_str (pe_op op_mod (pv 3) pe_int) (fun _ _=>rfl)))
   (pss_cons (ps_if (pt_cmpR (op_equ (K:=K) rfl hr.units) (pv 1) pe_int (nomark _))
    (pss_one (ps_ret (pe_op (op_plus (K:=K) rfl) (pe_slice (sl_anyS (K:=K) rfl) (pv 0) po_none (po_some (pv 5))) (pe_slice (sl_anyS (K:=K) rfl) (pv 0) (po_some (pe_op (op_plus (K:=K) rfl) (pv 5) pe_int)) po_none))))
    pss_nil)
   (pss_cons (ps_if (pt_cmpR (op_equ (K:=K) rfl hr.units) (pv 1) pe_int (nomark _))
    (pss_one (ps_ret (pe_op (op_plus (K:=K) rfl) (pe_op (op_plus (K:=K) rfl) (pe_slice (sl_anyS (K:=K) rfl) (pv 0) po_none (po_some (pv 5))) (pv 6)) (pe_slice (sl_anyS (K:=K) rfl) (pv 0) (po_some (pv 5)) po_none))))
    pss_nil)
   (pss_one (ps_ret (pe_op (op_plus (K:=K) rfl) (pe_op (op_plus (K:=K) rfl) (pe_slice (sl_anyS (K:=K) rfl) (pv 0) po_none (po_some (pv 5))) (pv 6)) (pe_slice (sl_anyS (K:=K) rfl) (pv 0) (po_some (pe_op (op_plus (K:=K) rfl) (pv 5) pe_int)) po_none))))))))),?_⟩
 rintro cs ⟨n,t,y,d,m,rfl,ht,hn⟩
 have hl:=ht.1
 have hz:(tw t).length=t.length:=tw_len t
 have ret:∀ t':List Nat,(∀ n,500≤n→Pl n t→Pl (n+1) t')→∃ c,Res (.av (.d (.str (tw t')))) c∧Post_ch [.d (.str (tw t)),.d (.int y),.d (.int d),.d (.int m)] c:=fun t' h=>⟨_,res_d rfl,t,y,d,m,t',rfl,h,rfl⟩
 show Sv K _ _ _ [some (.d (.str (tw t))),some (.d (.int y)),some (.d (.int d)),some (.d (.int m)),none,none,none] _
 walk_at "vi"
 refine s_if ?_
 walk_at "vi"
 refine ite2 (fun _=>?_) fun _=>?_
 ·walk_at "vi"
  refine ev_lst ?_
  walk_at "vi"
  refine⟨[.d (.str ""),.d (.str " "),.d (.str "0:0,"),.d (.str ":0"),.d (.str "0:"),.d (.str "00:0"),.d (.str "0:00"),.d (.str "0:0 "),.d (.str " 0:0"),.d (.str "1:0,100"),.d (.str "0:0,0 1:0 2:0,x")],.cons rfl (.cons rfl (.cons rfl (.cons rfl (.cons rfl (.cons rfl (.cons rfl (.cons rfl (.cons rfl (.cons rfl (.cons rfl .nil)))))))))),by show 11≤1000;decide,?_⟩
  refine v_sD (x:=.list (ODD.map .str)) rfl ?_
  walk_at "vi"
  refine ev_lst ?_
  walk_at "vi"
  refine rep_S (z := ",0") rfl rfl ⟨by decide,by decide⟩ ⟨by decide +kernel,by decide +kernel⟩ ?_
  walk_at "vi"
  refine add_s rfl rfl (by decide +kernel) ?_
  walk_at "vi"
  refine rep_S (z := "0:0 ") rfl rfl ⟨by decide,by decide⟩ ⟨by decide +kernel,by decide +kernel⟩ ?_
  walk_at "vi"
  refine add_s rfl rfl (by decide +kernel) ?_
  walk_at "vi"
  refine⟨[.d (.str "0:0 1:5 :"),.d (.str ("0:0" ++ repS ",0" 64)),.d (.str (repS "0:0 " 100 ++ "0:0")),.d (.str "0:1 1:0,0 2:0,0,")],.cons rfl (.cons rfl (.cons rfl (.cons rfl .nil))),by show 4≤1000;decide,?_⟩
  refine cat_L (ds:=ODD.map .str) (es:=ODE.map .str) rfl rfl Kp.d (Kp.flat rfl) (by show 11+4≤1000000;decide) ?_
  refine v_sD (x:=.list ((ODD++ODE).map .str)) (by rw[AV.data,datas_d,List.map_append]) ?_
  walk_at "vi"
  obtain⟨z,hz1,hz2⟩:=atI_strs (zs:=ODD++ODE) (k:=d%15) (by omega) (by show d%15<15;omega)
  obtain⟨o1,o2⟩:=odd_ok z hz1
  refine ix_L rfl hz2 Item.d ?_
  rw[← tw_eta z]
  exact ret _ fun n hn _=>⟨by rw[Array.length_toList];exact Nat.le_trans o1 (by omega),o2⟩
 have hn0:(0:Int)<(t.length:Int)+1:=by omega
 walk_at "vi"
 refine len_S rfl (by omega) ?_
 rw[hz]
 walk_at "vi"
 have a0:0≤d%((t.length:Int)+1):=Int.emod_nonneg _ (by omega)
 have a1:d%((t.length:Int)+1)<(t.length:Int)+1:=Int.emod_lt_of_pos _ hn0
 generalize d%((t.length:Int)+1)=a at a0 a1
 obtain⟨c,hc,hc1⟩:=sgn_at (k:=m%18) ⟨by omega,by omega⟩
 refine ix_S (z:=SGN) rfl (by decide +kernel) hc ?_
 have htk:∀ n,Pl n t→Pl n (t.take a.toNat):=fun n h=>⟨Nat.le_trans (by rw[List.length_take];exact Nat.min_le_right ..) h.1,fun y hy=>h.2 y (List.mem_of_mem_take hy)⟩
 have e1:(t.take a.toNat).length+(t.drop a.toNat).length=t.length:=by rw[← List.length_append,List.take_append_drop]
 have e2:(t.drop (a+1).toNat).length≤(t.drop a.toNat).length:=by rw[List.length_drop,List.length_drop];omega
 have z1:(tw (t.take a.toNat)).length=(t.take a.toNat).length:=tw_len _
 have z2:(tw (t.drop a.toNat)).length=(t.drop a.toNat).length:=tw_len _
 have z3:(tw (t.drop (a+1).toNat)).length=(t.drop (a+1).toNat).length:=tw_len _
 have z4:(tw (t.take a.toNat++[c])).length=(t.take a.toNat).length+1:=by rw[tw_len,List.length_append];rfl
 walk_at "vi"
 refine s_if ?_
 walk_at "vi"
 refine ite2 (fun _=>?_) fun _=>?_
 ·walk_at "vi"
  refine sl_S ?_
  walk_at "vi"
  refine⟨tw t,rfl,NR.av,by omega,?_⟩
  rw[sl_to a0 (by omega)]
  walk_at "vi"
  refine sl_S ?_
  walk_at "vi"
  refine⟨tw t,rfl,NR.av,by omega,?_⟩
  rw[sl_from (by omega)]
  walk_at "vi"
  refine add_s rfl rfl (by omega) ?_
  rw[tw_app]
  exact ret _ fun n _ h=>⟨by rw[List.length_append];have:=h.1;omega,fun y hy=>(List.mem_append.mp hy).elim (fun g=>h.2 y (List.mem_of_mem_take g)) fun g=>h.2 y (List.mem_of_mem_drop g)⟩
 walk_at "vi"
 refine s_if ?_
 walk_at "vi"
 refine ite2 (fun _=>?_) fun _=>?_
 ·walk_at "vi"
  refine sl_S ?_
  walk_at "vi"
  refine⟨tw t,rfl,NR.av,by omega,?_⟩
  rw[sl_to a0 (by omega)]
  walk_at "vi"
  refine add_s (z:=tw [c]) rfl rfl (by show _+1≤_;omega) ?_
  rw[tw_app]
  walk_at "vi"
  refine sl_S ?_
  walk_at "vi"
  refine⟨tw t,rfl,NR.av,by omega,?_⟩
  rw[sl_from a0]
  walk_at "vi"
  refine add_s rfl rfl (by omega) ?_
  rw[tw_app]
  exact ret _ fun n _ h=>⟨by rw[List.length_append,List.length_append];have:=h.1;simp only[List.length_cons,List.length_nil];omega,fun y hy=>(List.mem_append.mp hy).elim (fun g=>(List.mem_append.mp g).elim (fun g=>h.2 y (List.mem_of_mem_take g)) fun g=>by rw[List.mem_singleton.mp g];exact hc1) fun g=>h.2 y (List.mem_of_mem_drop g)⟩
 walk_at "vi"
 refine sl_S ?_
 walk_at "vi"
 refine⟨tw t,rfl,NR.av,by omega,?_⟩
 rw[sl_to a0 (by omega)]
 walk_at "vi"
 refine add_s (z:=tw [c]) rfl rfl (by show _+1≤_;omega) ?_
 rw[tw_app]
 walk_at "vi"
 refine sl_S ?_
 walk_at "vi"
 refine⟨tw t,rfl,NR.av,by omega,?_⟩
 rw[sl_from (by omega)]
 walk_at "vi"
 refine add_s rfl rfl (by omega) ?_
 rw[tw_app]
 exact ret _ fun n _ h=>⟨by rw[List.length_append,List.length_append];have:=h.1;simp only[List.length_cons,List.length_nil];omega,fun y hy=>(List.mem_append.mp hy).elim (fun g=>(List.mem_append.mp g).elim (fun g=>h.2 y (List.mem_of_mem_take g)) fun g=>by rw[List.mem_singleton.mp g];exact hc1) fun g=>h.2 y (List.mem_of_mem_drop g)⟩
theorem Cal.np{P:Program}{w:World}{K:W.Frag}{mg:Str→Option Value}{base:Heap}{CX:CXT}{k:Nat}{x:Str}{ps:List Str}{dvs:List V}{Pre Pre':List AV→Prop}{Post:List AV→AV→Prop}{PX:List AV→Exc→Prop}(c:Cal P w K mg base CX k x ps dvs (spR K Pre Post PX))(h:∀ cs,Pre' cs→Pre cs∧∀ e,¬ PX cs e):Cal P w K mg base CX k x ps dvs (spR K Pre' Post NP) :=
 let ⟨f,fd,ds,h1,h2⟩:=c.ex
 ⟨f,fd,ds,h1.imp (fun vs H Q E ⟨t,as,r,p,q,x⟩=>⟨t,as,r,(h as p).1,q,fun e z=>((h as p).2 e z).elim⟩),h2⟩
noncomputable def Pre_rn(cs:List AV):Prop:=∃ t:List Nat,cs=[.d (.str (tw t))]∧Pl 90000 t∧(∀ x∈spl 32 t,roomOk x=true)∧machO (rowsOf t) (sgnsOf t)=none
theorem use_rn{Q:TV→Prop}{X:Exc→Prop}{t:List Nat}(ht:Pl 90000 t)(h:∀ x∈spl 32 t,roomOk x=true)(g:machO (rowsOf t) (sgnsOf t)=none)(q:Q (.av (.d (dM ⟨rowsOf t,sgnsOf t⟩)))):ClR Pre_rn Post_rm NP [] Q X [.av (.d (.str (tw t)))] :=
 ⟨[.d (.str (tw t))],.cons (.d NR.av rfl) .nil,⟨t,rfl,ht,h,g⟩,fun c ⟨t',e,h1,h2,h3,ec⟩=>by
  simp only[List.append_nil,List.cons.injEq,AV.d.injEq,PyData.str.injEq,and_true] at e
  have e:=tw_inj e
  subst e ec
  exact⟨_,Got.own (dM_flat _),q⟩,fun _ z=>z.elim⟩
theorem use_rd{Q:TV→Prop}{X:Exc→Prop}{t:List Nat}(ht:Pl 90000 t)(q1:∀ i:Nat,Fst t i→Q (.av (.d (.tuple [.str "text",.int i]))))(q2:(∀ x∈spl 32 t,roomOk x=true)→Q (.bor (.tuple [dL (rowsOf t),dI (sgnsOf t)]))):ClR Pre_rd Post_rd NP [] Q X [.av (.d (.str (tw t)))] :=
 ⟨[.d (.str (tw t))],.cons (.d NR.av rfl) .nil,⟨t,rfl,ht⟩,fun c ⟨t',e,h⟩=>by
  simp only[List.append_nil,List.cons.injEq,AV.d.injEq,PyData.str.injEq,and_true] at e
  have e:=tw_inj e
  subst e
  rcases h with⟨i,hi,rfl⟩|⟨h,rfl⟩
  ·exact⟨_,Got.own rfl,q1 i hi⟩
  ·exact⟨_,.inr rfl,q2 h⟩,fun _ z=>z.elim⟩
theorem use_ch{Q:TV→Prop}{X:Exc→Prop}{n:Nat}{t:List Nat}{y d m:Int}(ht:Pl n t)(hn:n≤89000)(q:∀ t':List Nat,(∀ n,500≤n→Pl n t→Pl (n+1) t')→Q (.av (.d (.str (tw t'))))):ClR Pre_ch Post_ch NP [] Q X [.av (.d (.str (tw t))),.av (.d (.int y)),.av (.d (.int d)),.av (.d (.int m))] :=
 ⟨[.d (.str (tw t)),.d (.int y),.d (.int d),.d (.int m)],.cons (.d NR.av rfl) (.cons (.d NR.av rfl) (.cons (.d NR.av rfl) (.cons (.d NR.av rfl) .nil))),⟨n,t,y,d,m,rfl,ht,hn⟩,fun c ⟨t0,y0,d0,m0,t',e,h,ec⟩=>by
  simp only[List.append_nil,List.cons.injEq,AV.d.injEq,PyData.str.injEq,and_true] at e
  have e:=tw_inj e.1
  subst e ec
  exact⟨_,Got.own rfl,q t' h⟩,fun _ z=>z.elim⟩
theorem rdd_of{t:List Nat}(ht:Pl 90000 t)(h:∀ x∈spl 32 t,roomOk x=true):Rdd (rowsOf t) (sgnsOf t):=by
 have hl:(rowsOf t).length=(spl 32 t).length:=List.length_map ..
 have hs:(sgnsOf t).length=(spl 32 t).length:=List.length_map ..
 have hne:=List.length_pos_iff.mpr (spl_ne 32 t)
 have row:∀ k,k<(rowsOf t).length→∃ x∈spl 32 t,(rowsOf t).getD k []=rowOf x:=fun k hk=>by
  have hk':k<(spl 32 t).length:=by omega
  refine⟨(spl 32 t)[k],List.getElem_mem hk',?_⟩
  rw[List.getD_eq_getElem?_getD]
  unfold rowsOf
  rw[List.getElem?_map,List.getElem?_eq_getElem hk']
  rfl
 refine⟨rows_sz ht,by omega,by omega,fun k hk=>?_,fun k hk y hy=>?_,fun k hk=>?_⟩
 ·obtain⟨x,hx,e⟩:=row k hk
  rw[e]
  unfold rowOf
  rw[List.length_map]
  exact List.length_pos_iff.mpr (spl_ne 44 _)
 ·obtain⟨x,hx,e⟩:=row k hk
  rw[e] at hy
  obtain⟨d,r,rfl,hd,hn⟩:=room_inv (h x hx)
  unfold rowOf at hy
  obtain⟨z,hz,rfl⟩:=List.mem_map.mp hy
  exact (vl_ok (hn z hz)).2
 ·have hk':k<(spl 32 t).length:=by omega
  obtain⟨d,r,ex,hd,hn⟩:=room_inv (h _ (List.getElem_mem hk'))
  have e:(sgnsOf t).getD k 0=vl [d]:=by
   rw[List.getD_eq_getElem?_getD]
   unfold sgnsOf
   rw[List.getElem?_map,List.getElem?_eq_getElem hk',ex]
   rfl
  obtain⟨_,s1,s2⟩:=sgn_ok hd
  show 0≤(sgnsOf t).getD k 0∧(sgnsOf t).getD k 0≤9
  rw[e]
  exact⟨s1,s2⟩
theorem sm_of{r l:Int}{M:Mach}(g:Good r l 10 M)(hr:r≤100)(hl:l≤64):Sm M:=by
 have h1:=g.n
 have h2:=g.s
 refine⟨by omega,by omega,fun x hx=>?_,fun x hx=>?_⟩
 ·obtain⟨a,b⟩:=g.row x hx
  exact⟨by omega,fun y hy=>by have:=b y hy;exact⟨this.1,by have:=this.2;omega⟩⟩
 ·have:=g.sg x hx
  exact⟨this.1,by have:=this.2;omega⟩
noncomputable def fTR:OkS ⊕ List (List Int)→PyData
 | .inl z=>dS z
 | .inr rows=>dL rows
theorem encTR:Enc fTR 2:=by
 have hL:Enc dL 2:=Enc.int.list.list
 refine⟨fun a b=>?_,fun a=>?_,fun a=>?_⟩
 ·cases a with
  | inl a =>
   cases b with
   | inl b=>exact (Enc.str.eqv a b).trans (by simp)
   | inr b=>show PyData.eqv (.str a.1) (.list _)=true↔_;simp[PyData.eqv]
  | inr a =>
   cases b with
   | inl b=>show PyData.eqv (.list _) (.str b.1)=true↔_;simp[PyData.eqv]
   | inr b=>exact (hL.eqv a b).trans (by simp)
 ·cases a with
  | inl a=>exact Enc.str.lay a
  | inr a=>exact hL.lay a
 ·cases a with
  | inl a=>exact Nat.le_trans (Enc.str.dep a) (by decide)
  | inr a=>exact hL.dep a
theorem ok_law(T:Txt K mg){f:Addr}{fd:FuncData}(F:FunD K "law" "law" s_law .none f fd):FnOk P w K mg base (CXE P w) 9 f fd ["_law_script"] (sp_lawT K):=by
 obtain⟨C_WheelError,C_NoMachine,C_NoText,Z⟩:=T.cs
 have c_law_spread:Cal P w K mg base (CXE P w) 2 "_law_spread" ["_law_script", "_law_k"] [] (spV K S_spread NX):=ok_spread T
 have c_law_machine:Cal P w K mg base (CXE P w) 2 "_law_machine" ["_law_cell", "_law_rooms", "_law_letters", "_law_most"] [] (spR K Pre_machine Post_machine NP):=ok_machine T
 have c_law_text:Cal P w K mg base (CXE P w) 1 "_law_text" ["_law_made"] [] (spV K S_lx NX):=ok_law_text T
 have c_machine_text:Cal P w K mg base (CXE P w) 2 "machine_text" ["machine"] [] (spV K S_mt NX):=ok_machine_text T
 have c_law_changed:Cal P w K mg base (CXE P w) 1 "_law_changed" ["_law_text_here", "_law_way", "_law_cell", "_law_more"] [] (spR K Pre_ch Post_ch NP):=ok_changed T
 have c_law_read:Cal P w K mg base (CXE P w) 2 "_law_read" ["_law_text_here"] [] (spR K Pre_rd Post_rd NP):=ok_law_read T
 have c_law_fault:Cal P w K mg base (CXE P w) 1 "_law_fault" ["_law_rows", "_law_signs"] [] (spR K Pre_ft Post_ft NP):=ok_fault T
 have c_law_refused:Cal P w K mg base (CXE P w) 8 "_law_refused" ["_law_text_here", "_law_due"] [] (spR K Pre_rf (fun _ c=>c=.d (.bool true)) NP):=ok_refused T Z
 have c_law_frozen:Cal P w K mg base (CXE P w) 1 "_law_frozen" ["_law_made"] [] (spV K S_frozen NX):=ok_frozen T
 have c_law_is_machine:Cal P w K mg base (CXE P w) 2 "_law_is_machine" ["_law_found"] [] (spV K S_is_machine NX):=ok_is_machine T
 have c_read_machine_n:Cal P w K mg base (CXE P w) 6 "read_machine" ["text"] [] (spR K Pre_rn Post_rm NP):=Cal.np (okb_read_machine T Z) fun cs ⟨t,e,ht,h,g⟩=>⟨⟨t,e,ht⟩,fun x ⟨t',e',h'⟩=>by
  rw[e] at e'
  simp only[List.cons.injEq,AV.d.injEq,PyData.str.injEq,and_true] at e'
  have e1:=tw_inj e'
  subst e1
  cases h' with
  | text i hi g1 _=>rw[h _ (List.getElem_mem hi)] at g1;cases g1
  | mach _ g'=>rw[g] at g';cases g'⟩
 refine val_lawT (k:=8) F sc_law rfl fun cdv A outer s H E hr=>?_
 refine⟨_,(pss_cons (ps_set (i:=1) sc_law.nd rfl (Or.inl rfl) (pe_cal (c_law_spread.mono (by decide)) hr rfl passE (pa_cons (pv 0) (pa_cons pe_int pa_nil))))
   (pss_cons (ps_set (i:=2) sc_law.nd rfl (Or.inl rfl) (pe_op (op_plus (K:=K) rfl) pe_int (pe_op op_mod (pe_op op_fdiv (pv 1) pe_int) pe_int)))
   (pss_cons (ps_ifJ (pt_cmpR (op_equ (K:=K) rfl hr.units) (pe_op op_mod (pv 1) pe_int) pe_int (nomark _))
    (pss_one (ps_set (i:=2) sc_law.nd rfl (Or.inl rfl) (pe_op (op_plus (K:=K) rfl) pe_int (pe_op op_mod (pe_op op_fdiv (pv 1) pe_int) pe_int))))
    pss_nil)
   (pss_cons (ps_set (i:=3) sc_law.nd rfl (Or.inl rfl) (pe_cal (c_law_machine.mono (by decide)) hr rfl passE (pa_cons (pe_cal (c_law_spread.mono (by decide)) hr rfl passE (pa_cons (pv 0) (pa_cons pe_int pa_nil))) (pa_cons (pv 2) (pa_cons (pe_op (op_plus (K:=K) rfl) pe_int (pe_op op_mod (pe_cal (c_law_spread.mono (by decide)) hr rfl passE (pa_cons (pv 0) (pa_cons pe_int pa_nil))) pe_int)) (pa_cons pe_int pa_nil))))))
   (pss_cons (ps_set (i:=4) sc_law.nd rfl (Or.inl rfl) (pe_cal (c_law_text.mono (by decide)) hr rfl passE (pa_cons (pv 3) pa_nil)))
   (pss_cons (ps_set (i:=5) sc_law.nd rfl (Or.inl rfl) (pe_cal (c_machine_text.mono (by decide)) hr rfl passE (pa_cons (pe_cal (c_law_frozen.mono (by decide)) hr rfl passE (pa_cons (pv 3) pa_nil)) pa_nil)))
   (pss_cons (ps_if (PW.pt (pw_or (pt_not (pt_val (pe_callB (call_isi2K (K:=K) rfl) rfl T.n_isinstance PyProof.Rows.boot_isinstance (pa_cons (pv 5) (pa_cons (pe_bltn (v:=.ty "str") rfl T.n_str PyProof.Rows.boot_str rfl) pa_nil))))) (pw_or1 (pt_cmpR (op_neq (K:=K) rfl hr.units) (pv 5) (pv 4) (nomark _)))))
    (pss_one (ps_ret pe_bl))
    pss_nil)
   (pss_cons (ps_set (i:=6) sc_law.nd rfl (Or.inl rfl) (pe_op op_mod (pe_cal (c_law_spread.mono (by decide)) hr rfl passE (pa_cons (pv 0) (pa_cons pe_int pa_nil))) pe_int))
   (pss_cons (ps_ifJ (pt_cmpR op_gt (pv 6) pe_int (nomark _))
    (pss_cons (ps_set (i:=4) sc_law.nd rfl (Or.inl rfl) (pe_cal (c_law_changed.mono (by decide)) hr rfl passE (pa_cons (pv 4) (pa_cons (pv 6) (pa_cons (pe_cal (c_law_spread.mono (by decide)) hr rfl passE (pa_cons (pv 0) (pa_cons pe_int pa_nil))) (pa_cons (pe_cal (c_law_spread.mono (by decide)) hr rfl passE (pa_cons (pv 0) (pa_cons pe_int pa_nil))) pa_nil))))))
    (pss_one (ps_ifJ (PW.pt (pw_and (pt_cmpR op_lt (pv 6) pe_int (nomark _)) (pw_and (pt_cmpR op_lt (pe_callB (call_lenAny (K:=K) rfl) rfl T.n_len PySem.boot_len (pa_cons (pv 4) pa_nil)) pe_int (nomark _)) (pw_and1 (pt_cmpR (op_equ (K:=K) rfl hr.units) (pe_op op_mod (pe_op op_fdiv (pe_cal (c_law_spread.mono (by decide)) hr rfl passE (pa_cons (pv 0) (pa_cons pe_int pa_nil))) pe_int) pe_int) pe_int (nomark _))))))
     (pss_one (ps_set (i:=4) sc_law.nd rfl (Or.inl rfl) (pe_cal (c_law_changed.mono (by decide)) hr rfl passE (pa_cons (pv 4) (pa_cons (pe_op (op_plus (K:=K) rfl) pe_int (pe_op op_mod (pe_cal (c_law_spread.mono (by decide)) hr rfl passE (pa_cons (pv 0) (pa_cons pe_int pa_nil))) pe_int)) (pa_cons (pe_cal (c_law_spread.mono (by decide)) hr rfl passE (pa_cons (pv 0) (pa_cons pe_int pa_nil))) (pa_cons (pe_cal (c_law_spread.mono (by decide)) hr rfl passE (pa_cons (pv 0) (pa_cons pe_int pa_nil))) pa_nil)))))))
     pss_nil)))
    pss_nil)
   (pss_cons (ps_set (i:=7) sc_law.nd rfl (Or.inl rfl) (pe_cal (c_law_read.mono (by decide)) hr rfl passE (pa_cons (pv 4) pa_nil)))
   (pss_cons (ps_if (pt_cmpR (op_equ (K:=K) rfl hr.units) (pe_ix (ix_any (K:=K) rfl hr.units) (pv 7) pe_int (fun _ _=>rfl)) pe_str (nomark _))
    (pss_one (ps_ret (pe_cal (c_law_refused.mono (by decide)) hr rfl passE (pa_cons (pv 4) (pa_cons (pv 7) pa_nil)))))
    pss_nil)
   (pss_cons (ps_set (i:=8) sc_law.nd rfl (Or.inl rfl) (pe_cal (c_law_fault.mono (by decide)) hr rfl passE (pa_cons (pe_ix (ix_any (K:=K) rfl hr.units) (pv 7) pe_int (fun _ _=>rfl)) (pa_cons (pe_ix (ix_any (K:=K) rfl hr.units) (pv 7) pe_int (fun _ _=>rfl)) pa_nil))))
   (pss_cons (ps_if (pt_cmpR op_notN (pv 8) pe_non (nomark _))
    (pss_one (ps_ret (pe_cal (c_law_refused.mono (by decide)) hr rfl passE (pa_cons (pv 4) (pa_cons (pv 8) pa_nil)))))
    pss_nil)
   (pss_cons (ps_set (i:=9) sc_law.nd rfl (Or.inl rfl) (pe_cal (c_read_machine_n.mono (by decide)) hr rfl passE (pa_cons (pv 4) pa_nil)))
   (pss_one (ps_ret (pe_and (pe_cal (c_law_is_machine.mono (by decide)) hr rfl passE (pa_cons (pv 9) pa_nil)) (pe_one (pe_cmpR (op_equ (K:=K) rfl hr.units) (pv 9) (pe_cal (c_law_frozen.mono (by decide)) hr rfl passE (pa_cons (pv 7) pa_nil)) (nomark _)))))))))))))))))))),?_⟩
 intro ns hn hbits
 show Sv K _ _ _ [some (.d (dI ns)),none,none,none,none,none,none,none,none,none] _
 walk_at "vi"
 refine use_spread (by decide) ?_
 have hs0:=sprd_range ns 0
 generalize sprd ns 0=c at hs0
 walk_at "vi"
 refine s_ifJ (fun ρ=>∃ r:Int,ρ=[some (.d (dI ns)),some (.d (.int c)),some (.d (.int r)),none,none,none,none,none,none,none]∧1≤r∧r≤100) ?_ ?_
 rotate_left
 ·walk_at "vi"
  refine ite2 (fun _=>?_) fun _=>?_
  ·walk_at "vi"
   exact⟨_,rfl,by omega,by omega⟩
  ·walk_at "vi"
   exact⟨_,rfl,by omega,by omega⟩
 rintro ρ ⟨r,rfl,r0,r1⟩
 walk_at "vi"
 refine use_spread (by decide) ?_
 walk_at "vi"
 refine use_spread (by decide) ?_
 walk_at "vi"
 refine use_machine ⟨r0,r1⟩ (by omega) (by decide) fun M gM=>?_
 have hM:=sm_of gM r1 (by omega)
 have hMn:=hM.n
 refine v_sD (x:=dMl M) ?_ ?_
 ·show PyData.tuple [(oL M.rows).data,(oI M.signs).data]=_
  rw[oL_data,oI_data]
 walk_at "vi"
 refine use_lx NR.av rfl hM ?_
 have ht:=hM.pl
 rw[← tw_eta (mT M)]
 generalize et:(mT M).cps.toList=t at ht
 walk_at "vi"
 refine use_frozen NR.av rfl (by omega) ?_
 walk_at "vi"
 refine use_mt hM ?_
 rw[← tw_eta (mT M),et]
 walk_at "vi"
 refine s_if ?_
 walk_at "vi"
 refine isi_str rfl ?_
 walk_at "vi"
 refine ne_S (w:=t) (x:=t) NR.av NR.av rfl rfl ht ht ?_
 rw[decide_eq_true rfl]
 walk_at "vi"
 refine use_spread (by decide) ?_
 walk_at "vi"
 refine s_ifJ (fun ρ=>∃ t':List Nat,ρ=[some (.d (dI ns)),some (.d (.int c)),some (.d (.int r)),some (.d (dMl M)),some (.d (.str (tw t'))),some (.d (.str (tw t))),some (.d (.int (sprd ns 3%8))),none,none,none]∧Pl 90000 t') ?_ ?_
 rotate_left
 ·walk_at "vi"
  refine ite2 (fun _=>?_) fun _=>?_
  case refine_2=>walk_at "vi";exact⟨t,rfl,ht.mono (by decide)⟩
  walk_at "vi"
  refine use_spread (by decide) ?_
  walk_at "vi"
  refine use_spread (by decide) ?_
  walk_at "vi"
  refine use_ch ht (by decide) fun t1 h1=>?_
  have h1:=h1 _ (by decide) ht
  have h1l:=h1.1
  have hz:(tw t1).length=t1.length:=tw_len t1
  walk_at "vi"
  refine s_ifJ (fun ρ=>∃ t':List Nat,ρ=[some (.d (dI ns)),some (.d (.int c)),some (.d (.int r)),some (.d (dMl M)),some (.d (.str (tw t'))),some (.d (.str (tw t))),some (.d (.int (sprd ns 3%8))),none,none,none]∧Pl 90000 t') (fun ρ h=>h) ?_
  have stay:∃ t':List Nat,[some (.d (dI ns)),some (.d (.int c)),some (.d (.int r)),some (.d (dMl M)),some (.d (.str (tw t1))),some (.d (.str (tw t))),some (.d (.int (sprd ns 3%8))),none,none,none]=[some (.d (dI ns)),some (.d (.int c)),some (.d (.int r)),some (.d (dMl M)),some (.d (.str (tw t'))),some (.d (.str (tw t))),some (AV.d (.int (sprd ns 3%8))),none,none,none]∧Pl 90000 t':=⟨t1,rfl,h1.mono (by decide)⟩
  walk_at "vi"
  refine ite2 (fun _=>?_) fun _=>?_
  case refine_2=>walk_at "vi";exact stay
  walk_at "vi"
  refine len_S rfl (by omega) ?_
  walk_at "vi"
  refine ite2 (fun _=>?_) fun _=>?_
  case refine_2=>walk_at "vi";exact stay
  walk_at "vi"
  refine use_spread (by decide) ?_
  walk_at "vi"
  refine ite2 (fun _=>?_) fun _=>?_
  case refine_2=>walk_at "vi";exact stay
  walk_at "vi"
  refine use_spread (by decide) ?_
  walk_at "vi"
  refine use_spread (by decide) ?_
  walk_at "vi"
  refine use_spread (by decide) ?_
  walk_at "vi"
  refine use_ch h1 (by decide) fun t2 h2=>?_
  have h2:=h2 _ (by decide) h1
  walk_at "vi"
  exact⟨t2,rfl,h2.mono (by decide)⟩
 clear et ht
 rintro ρ ⟨t',rfl,ht⟩
 walk_at "vi"
 refine use_rd ht (fun i hi=>?_) fun hall=>?_
 ·walk_at "vi"
  refine s_if ?_
  walk_at "vi"
  refine eq_d (f:=dS) (c:=⟨"text",by decide +kernel⟩) (d:=⟨"text",by decide +kernel⟩) Enc.str rfl rfl ?_
  rw[decide_eq_true rfl]
  walk_at "vi"
  refine use_refused ht (Due.text hi) ?_
  exact res_d rfl
 have hR:=rdd_of ht hall
 have hz:=hR.z.1
 refine v_sB (by repeat (first|exact NoOwn.nil|refine NoOwn.no ?_|refine NoOwn.d ?_)) ?_
 walk_at "vi"
 refine s_if ?_
 walk_at "vi"
 refine eq_d (f:=fTR) (c:=.inr (rowsOf t')) (d:=.inl ⟨"text",by decide +kernel⟩) encTR rfl rfl ?_
 rw[decide_eq_false (by intro z;cases z)]
 walk_at "vi"
 refine use_fault NR.av NR.av rfl rfl hR ?_
 walk_at "vi"
 cases hm:machO (rowsOf t') (sgnsOf t') with
 | some p =>
  obtain⟨wd,n⟩:=p
  refine s_if ?_
  walk_at "vi"
  refine isnt_S (by rfl) ?_
  walk_at "vi"
  refine use_refused ht (Due.mach hall hm) ?_
  exact res_d rfl
 | none =>
  refine s_if ?_
  walk_at "vi"
  refine isnt_N (by rfl) ?_
  walk_at "vi"
  refine use_rn ht hall hm ?_
  walk_at "vi"
  refine use_is_machine (M:=⟨rowsOf t',sgnsOf t'⟩) (by show (rowsOf t').length≤100000;omega) ?_
  walk_at "vi"
  refine use_frozen (M:=⟨rowsOf t',sgnsOf t'⟩) NR.av rfl (by show (rowsOf t').length≤100000;omega) ?_
  walk_at "vi"
  refine eq_d (f:=dM) (c:=⟨rowsOf t',sgnsOf t'⟩) (d:=⟨rowsOf t',sgnsOf t'⟩) Mach.enc rfl rfl ?_
  rw[decide_eq_true rfl]
  exact res_d rfl
end
noncomputable instance tabs0:Tabs:=⟨ts0⟩
theorem len_0{P:List Value→Prop}(h:P []):∀ us,us.length=0→P us:=fun us e=>(List.eq_nil_of_length_eq_zero e).symm▸h
theorem len_s{P:List Value→Prop}{n:Nat}(h:∀ a us,us.length=n→P (a::us))(us:List Value)(e:us.length=n+1):P us:=by
  cases us with
  | nil=>cases e
  | cons a us=>exact h a us (Nat.succ.inj e)
theorem len_1{P:List Value→Prop}(h:∀ a0,P [a0]):∀ us,us.length=1→P us:=len_s fun a0=>len_0 (P:=fun us=>P (a0::us)) (h a0)
theorem len_2{P:List Value→Prop}(h:∀ a0 a1,P [a0,a1]):∀ us,us.length=2→P us:=len_s fun a0=>len_1 (P:=fun us=>P (a0::us)) (h a0)
theorem len_3{P:List Value→Prop}(h:∀ a0 a1 a2,P [a0,a1,a2]):∀ us,us.length=3→P us:=len_s fun a0=>len_2 (P:=fun us=>P (a0::us)) (h a0)
theorem len_4{P:List Value→Prop}(h:∀ a0 a1 a2 a3,P [a0,a1,a2,a3]):∀ us,us.length=4→P us:=len_s fun a0=>len_3 (P:=fun us=>P (a0::us)) (h a0)
theorem all_mk{l:PySem.W.OpenLaw}{w:World}{K:W.Frag}{h:Heap}{mg:Str→Option Value}{fa:Addr}(X:K.In h)(G:h.Ns mainGlobals mg)(hfa:mg "law" = some (.ref fa))
  {t_MOST_ROOMS:Tok} (g_MOST_ROOMS:PySem.W.nsIn K mainGlobals "MOST_ROOMS" = some (some (.int 100 t_MOST_ROOMS)))
  {t_FEWEST_LETTERS:Tok} (g_FEWEST_LETTERS:PySem.W.nsIn K mainGlobals "FEWEST_LETTERS" = some (some (.int 1 t_FEWEST_LETTERS)))
  {t_MOST_LETTERS:Tok} (g_MOST_LETTERS:PySem.W.nsIn K mainGlobals "MOST_LETTERS" = some (some (.int 64 t_MOST_LETTERS)))
  {t_GREATEST_SIGN:Tok} (g_GREATEST_SIGN:PySem.W.nsIn K mainGlobals "GREATEST_SIGN" = some (some (.int 9 t_GREATEST_SIGN)))
  {t_FIGURES:Tok} (g_FIGURES:PySem.W.nsIn K mainGlobals "FIGURES" = some (some (.str "0123456789" t_FIGURES)))
  {t_MOST_FIGURES:Tok} (g_MOST_FIGURES:PySem.W.nsIn K mainGlobals "MOST_FIGURES" = some (some (.int 2 t_MOST_FIGURES)))
  (z_ValueError:PySem.W.nsIn K mainGlobals "ValueError" = some none)
  (z_all:PySem.W.nsIn K mainGlobals "all" = some none)
  (z_bool:PySem.W.nsIn K mainGlobals "bool" = some none)
  (z_enumerate:PySem.W.nsIn K mainGlobals "enumerate" = some none)
  (z_int:PySem.W.nsIn K mainGlobals "int" = some none)
  (z_isinstance:PySem.W.nsIn K mainGlobals "isinstance" = some none)
  (z_len:PySem.W.nsIn K mainGlobals "len" = some none)
  (z_min:PySem.W.nsIn K mainGlobals "min" = some none)
  (z_range:PySem.W.nsIn K mainGlobals "range" = some none)
  (z_str:PySem.W.nsIn K mainGlobals "str" = some none)
  (z_tuple:PySem.W.nsIn K mainGlobals "tuple" = some none)
  (z_zip:PySem.W.nsIn K mainGlobals "zip" = some none)
  {f0:Addr} {oc0 kV0 dc0 pm0 cd0 ct0:Value} {od0 an0:Option Addr} {sl0:Array (Option Value)}
  (a0:PySem.W.nsIn K mainGlobals "want_counts" = some (some (.ref f0))) (l0:K.lookup f0=some ⟨oc0,od0,.func (PySem.W.fnOf "want_counts" "want_counts" (defArgs s_want_counts) (defBody s_want_counts) (defScope s_want_counts) .none kV0 dc0 pm0 an0 cd0 ct0),sl0⟩) (c0:PySem.W.codeIn K cd0 "want_counts" = true) (k0:PySem.W.keepIn K (.ref f0)=true)
  {f1:Addr} {oc1 kV1 dc1 pm1 cd1 ct1:Value} {od1 an1:Option Addr} {sl1:Array (Option Value)}
  (a1:PySem.W.nsIn K mainGlobals "want_letters" = some (some (.ref f1))) (l1:K.lookup f1=some ⟨oc1,od1,.func (PySem.W.fnOf "want_letters" "want_letters" (defArgs s_want_letters) (defBody s_want_letters) (defScope s_want_letters) .none kV1 dc1 pm1 an1 cd1 ct1),sl1⟩) (c1:PySem.W.codeIn K cd1 "want_letters" = true) (k1:PySem.W.keepIn K (.ref f1)=true)
  {f2:Addr} {oc2 kV2 dc2 pm2 cd2 ct2:Value} {od2 an2:Option Addr} {sl2:Array (Option Value)}
  (a2:PySem.W.nsIn K mainGlobals "want_rooms" = some (some (.ref f2))) (l2:K.lookup f2=some ⟨oc2,od2,.func (PySem.W.fnOf "want_rooms" "want_rooms" (defArgs s_want_rooms) (defBody s_want_rooms) (defScope s_want_rooms) .none kV2 dc2 pm2 an2 cd2 ct2),sl2⟩) (c2:PySem.W.codeIn K cd2 "want_rooms" = true) (k2:PySem.W.keepIn K (.ref f2)=true)
  {f3:Addr} {oc3 kV3 dc3 pm3 cd3 ct3:Value} {od3 an3:Option Addr} {sl3:Array (Option Value)}
  (a3:PySem.W.nsIn K mainGlobals "is_sign" = some (some (.ref f3))) (l3:K.lookup f3=some ⟨oc3,od3,.func (PySem.W.fnOf "is_sign" "is_sign" (defArgs s_is_sign) (defBody s_is_sign) (defScope s_is_sign) .none kV3 dc3 pm3 an3 cd3 ct3),sl3⟩) (c3:PySem.W.codeIn K cd3 "is_sign" = true) (k3:PySem.W.keepIn K (.ref f3)=true)
  {f4:Addr} {oc4 kV4 dc4 pm4 cd4 ct4:Value} {od4 an4:Option Addr} {sl4:Array (Option Value)}
  (a4:PySem.W.nsIn K mainGlobals "want_signs" = some (some (.ref f4))) (l4:K.lookup f4=some ⟨oc4,od4,.func (PySem.W.fnOf "want_signs" "want_signs" (defArgs s_want_signs) (defBody s_want_signs) (defScope s_want_signs) .none kV4 dc4 pm4 an4 cd4 ct4),sl4⟩) (c4:PySem.W.codeIn K cd4 "want_signs" = true) (k4:PySem.W.keepIn K (.ref f4)=true)
  {f5:Addr} {oc5 kV5 dc5 pm5 cd5 ct5:Value} {od5 an5:Option Addr} {sl5:Array (Option Value)}
  (a5:PySem.W.nsIn K mainGlobals "want_parts" = some (some (.ref f5))) (l5:K.lookup f5=some ⟨oc5,od5,.func (PySem.W.fnOf "want_parts" "want_parts" (defArgs s_want_parts) (defBody s_want_parts) (defScope s_want_parts) .none kV5 dc5 pm5 an5 cd5 ct5),sl5⟩) (c5:PySem.W.codeIn K cd5 "want_parts" = true) (k5:PySem.W.keepIn K (.ref f5)=true)
  {f6:Addr} {oc6 kV6 dc6 pm6 cd6 ct6:Value} {od6 an6:Option Addr} {sl6:Array (Option Value)}
  (a6:PySem.W.nsIn K mainGlobals "in_tuples" = some (some (.ref f6))) (l6:K.lookup f6=some ⟨oc6,od6,.func (PySem.W.fnOf "in_tuples" "in_tuples" (defArgs s_in_tuples) (defBody s_in_tuples) (defScope s_in_tuples) .none kV6 dc6 pm6 an6 cd6 ct6),sl6⟩) (c6:PySem.W.codeIn K cd6 "in_tuples" = true) (k6:PySem.W.keepIn K (.ref f6)=true)
  {f7:Addr} {oc7 kV7 dc7 pm7 cd7 ct7:Value} {od7 an7:Option Addr} {sl7:Array (Option Value)}
  (a7:PySem.W.nsIn K mainGlobals "machine_of" = some (some (.ref f7))) (l7:K.lookup f7=some ⟨oc7,od7,.func (PySem.W.fnOf "machine_of" "machine_of" (defArgs s_machine_of) (defBody s_machine_of) (defScope s_machine_of) .none kV7 dc7 pm7 an7 cd7 ct7),sl7⟩) (c7:PySem.W.codeIn K cd7 "machine_of" = true) (k7:PySem.W.keepIn K (.ref f7)=true)
  {f8:Addr} {oc8 kV8 dc8 pm8 cd8 ct8:Value} {od8 an8:Option Addr} {sl8:Array (Option Value)}
  (a8:PySem.W.nsIn K mainGlobals "is_figure" = some (some (.ref f8))) (l8:K.lookup f8=some ⟨oc8,od8,.func (PySem.W.fnOf "is_figure" "is_figure" (defArgs s_is_figure) (defBody s_is_figure) (defScope s_is_figure) .none kV8 dc8 pm8 an8 cd8 ct8),sl8⟩) (c8:PySem.W.codeIn K cd8 "is_figure" = true) (k8:PySem.W.keepIn K (.ref f8)=true)
  {f9:Addr} {oc9 kV9 dc9 pm9 cd9 ct9:Value} {od9 an9:Option Addr} {sl9:Array (Option Value)}
  (a9:PySem.W.nsIn K mainGlobals "is_number" = some (some (.ref f9))) (l9:K.lookup f9=some ⟨oc9,od9,.func (PySem.W.fnOf "is_number" "is_number" (defArgs s_is_number) (defBody s_is_number) (defScope s_is_number) .none kV9 dc9 pm9 an9 cd9 ct9),sl9⟩) (c9:PySem.W.codeIn K cd9 "is_number" = true) (k9:PySem.W.keepIn K (.ref f9)=true)
  {f10:Addr} {oc10 kV10 dc10 pm10 cd10 ct10:Value} {od10 an10:Option Addr} {sl10:Array (Option Value)}
  (a10:PySem.W.nsIn K mainGlobals "room_text" = some (some (.ref f10))) (l10:K.lookup f10=some ⟨oc10,od10,.func (PySem.W.fnOf "room_text" "room_text" (defArgs s_room_text) (defBody s_room_text) (defScope s_room_text) .none kV10 dc10 pm10 an10 cd10 ct10),sl10⟩) (c10:PySem.W.codeIn K cd10 "room_text" = true) (k10:PySem.W.keepIn K (.ref f10)=true)
  {f11:Addr} {oc11 kV11 dc11 pm11 cd11 ct11:Value} {od11 an11:Option Addr} {sl11:Array (Option Value)}
  (a11:PySem.W.nsIn K mainGlobals "machine_text" = some (some (.ref f11))) (l11:K.lookup f11=some ⟨oc11,od11,.func (PySem.W.fnOf "machine_text" "machine_text" (defArgs s_machine_text) (defBody s_machine_text) (defScope s_machine_text) .none kV11 dc11 pm11 an11 cd11 ct11),sl11⟩) (c11:PySem.W.codeIn K cd11 "machine_text" = true) (k11:PySem.W.keepIn K (.ref f11)=true)
  {f12:Addr} {oc12 kV12 dc12 pm12 cd12 ct12:Value} {od12 an12:Option Addr} {sl12:Array (Option Value)}
  (a12:PySem.W.nsIn K mainGlobals "is_room" = some (some (.ref f12))) (l12:K.lookup f12=some ⟨oc12,od12,.func (PySem.W.fnOf "is_room" "is_room" (defArgs s_is_room) (defBody s_is_room) (defScope s_is_room) .none kV12 dc12 pm12 an12 cd12 ct12),sl12⟩) (c12:PySem.W.codeIn K cd12 "is_room" = true) (k12:PySem.W.keepIn K (.ref f12)=true)
  {f13:Addr} {oc13 kV13 dc13 pm13 cd13 ct13:Value} {od13 an13:Option Addr} {sl13:Array (Option Value)}
  (a13:PySem.W.nsIn K mainGlobals "read_row" = some (some (.ref f13))) (l13:K.lookup f13=some ⟨oc13,od13,.func (PySem.W.fnOf "read_row" "read_row" (defArgs s_read_row) (defBody s_read_row) (defScope s_read_row) .none kV13 dc13 pm13 an13 cd13 ct13),sl13⟩) (c13:PySem.W.codeIn K cd13 "read_row" = true) (k13:PySem.W.keepIn K (.ref f13)=true)
  {f14:Addr} {oc14 kV14 dc14 pm14 cd14 ct14:Value} {od14 an14:Option Addr} {sl14:Array (Option Value)}
  (a14:PySem.W.nsIn K mainGlobals "read_sign" = some (some (.ref f14))) (l14:K.lookup f14=some ⟨oc14,od14,.func (PySem.W.fnOf "read_sign" "read_sign" (defArgs s_read_sign) (defBody s_read_sign) (defScope s_read_sign) .none kV14 dc14 pm14 an14 cd14 ct14),sl14⟩) (c14:PySem.W.codeIn K cd14 "read_sign" = true) (k14:PySem.W.keepIn K (.ref f14)=true)
  {f15:Addr} {oc15 kV15 dc15 pm15 cd15 ct15:Value} {od15 an15:Option Addr} {sl15:Array (Option Value)}
  (a15:PySem.W.nsIn K mainGlobals "read_machine" = some (some (.ref f15))) (l15:K.lookup f15=some ⟨oc15,od15,.func (PySem.W.fnOf "read_machine" "read_machine" (defArgs s_read_machine) (defBody s_read_machine) (defScope s_read_machine) .none kV15 dc15 pm15 an15 cd15 ct15),sl15⟩) (c15:PySem.W.codeIn K cd15 "read_machine" = true) (k15:PySem.W.keepIn K (.ref f15)=true)
  {f16:Addr} {oc16 kV16 dc16 pm16 cd16 ct16:Value} {od16 an16:Option Addr} {sl16:Array (Option Value)}
  (a16:PySem.W.nsIn K mainGlobals "_law_cell_at" = some (some (.ref f16))) (l16:K.lookup f16=some ⟨oc16,od16,.func (PySem.W.fnOf "_law_cell_at" "_law_cell_at" (defArgs s_law_cell_at) (defBody s_law_cell_at) (defScope s_law_cell_at) .none kV16 dc16 pm16 an16 cd16 ct16),sl16⟩) (c16:PySem.W.codeIn K cd16 "_law_cell_at" = true) (k16:PySem.W.keepIn K (.ref f16)=true)
  {f17:Addr} {oc17 kV17 dc17 pm17 cd17 ct17:Value} {od17 an17:Option Addr} {sl17:Array (Option Value)}
  (a17:PySem.W.nsIn K mainGlobals "_law_spread" = some (some (.ref f17))) (l17:K.lookup f17=some ⟨oc17,od17,.func (PySem.W.fnOf "_law_spread" "_law_spread" (defArgs s_law_spread) (defBody s_law_spread) (defScope s_law_spread) .none kV17 dc17 pm17 an17 cd17 ct17),sl17⟩) (c17:PySem.W.codeIn K cd17 "_law_spread" = true) (k17:PySem.W.keepIn K (.ref f17)=true)
  {f18:Addr} {oc18 kV18 dc18 pm18 cd18 ct18:Value} {od18 an18:Option Addr} {sl18:Array (Option Value)}
  (a18:PySem.W.nsIn K mainGlobals "_law_whole" = some (some (.ref f18))) (l18:K.lookup f18=some ⟨oc18,od18,.func (PySem.W.fnOf "_law_whole" "_law_whole" (defArgs s_law_whole) (defBody s_law_whole) (defScope s_law_whole) .none kV18 dc18 pm18 an18 cd18 ct18),sl18⟩) (c18:PySem.W.codeIn K cd18 "_law_whole" = true) (k18:PySem.W.keepIn K (.ref f18)=true)
  {f19:Addr} {oc19 kV19 dc19 pm19 cd19 ct19:Value} {od19 an19:Option Addr} {sl19:Array (Option Value)}
  (a19:PySem.W.nsIn K mainGlobals "_law_mix" = some (some (.ref f19))) (l19:K.lookup f19=some ⟨oc19,od19,.func (PySem.W.fnOf "_law_mix" "_law_mix" (defArgs s_law_mix) (defBody s_law_mix) (defScope s_law_mix) .none kV19 dc19 pm19 an19 cd19 ct19),sl19⟩) (c19:PySem.W.codeIn K cd19 "_law_mix" = true) (k19:PySem.W.keepIn K (.ref f19)=true)
  {f20:Addr} {oc20 kV20 dc20 pm20 cd20 ct20:Value} {od20 an20:Option Addr} {sl20:Array (Option Value)}
  (a20:PySem.W.nsIn K mainGlobals "_law_machine" = some (some (.ref f20))) (l20:K.lookup f20=some ⟨oc20,od20,.func (PySem.W.fnOf "_law_machine" "_law_machine" (defArgs s_law_machine) (defBody s_law_machine) (defScope s_law_machine) .none kV20 dc20 pm20 an20 cd20 ct20),sl20⟩) (c20:PySem.W.codeIn K cd20 "_law_machine" = true) (k20:PySem.W.keepIn K (.ref f20)=true)
  {f21:Addr} {oc21 kV21 dc21 pm21 cd21 ct21:Value} {od21 an21:Option Addr} {sl21:Array (Option Value)}
  (a21:PySem.W.nsIn K mainGlobals "_law_is_machine" = some (some (.ref f21))) (l21:K.lookup f21=some ⟨oc21,od21,.func (PySem.W.fnOf "_law_is_machine" "_law_is_machine" (defArgs s_law_is_machine) (defBody s_law_is_machine) (defScope s_law_is_machine) .none kV21 dc21 pm21 an21 cd21 ct21),sl21⟩) (c21:PySem.W.codeIn K cd21 "_law_is_machine" = true) (k21:PySem.W.keepIn K (.ref f21)=true)
  {f22:Addr} {oc22 kV22 dc22 pm22 cd22 ct22:Value} {od22 an22:Option Addr} {sl22:Array (Option Value)}
  (a22:PySem.W.nsIn K mainGlobals "_law_frozen" = some (some (.ref f22))) (l22:K.lookup f22=some ⟨oc22,od22,.func (PySem.W.fnOf "_law_frozen" "_law_frozen" (defArgs s_law_frozen) (defBody s_law_frozen) (defScope s_law_frozen) .none kV22 dc22 pm22 an22 cd22 ct22),sl22⟩) (c22:PySem.W.codeIn K cd22 "_law_frozen" = true) (k22:PySem.W.keepIn K (.ref f22)=true)
  {f23:Addr} {oc23 kV23 dc23 pm23 cd23 ct23:Value} {od23 an23:Option Addr} {sl23:Array (Option Value)}
  (a23:PySem.W.nsIn K mainGlobals "_law_text" = some (some (.ref f23))) (l23:K.lookup f23=some ⟨oc23,od23,.func (PySem.W.fnOf "_law_text" "_law_text" (defArgs s_law_text) (defBody s_law_text) (defScope s_law_text) .none kV23 dc23 pm23 an23 cd23 ct23),sl23⟩) (c23:PySem.W.codeIn K cd23 "_law_text" = true) (k23:PySem.W.keepIn K (.ref f23)=true)
  {f24:Addr} {oc24 kV24 dc24 pm24 cd24 ct24:Value} {od24 an24:Option Addr} {sl24:Array (Option Value)}
  (a24:PySem.W.nsIn K mainGlobals "_law_changed" = some (some (.ref f24))) (l24:K.lookup f24=some ⟨oc24,od24,.func (PySem.W.fnOf "_law_changed" "_law_changed" (defArgs s_law_changed) (defBody s_law_changed) (defScope s_law_changed) .none kV24 dc24 pm24 an24 cd24 ct24),sl24⟩) (c24:PySem.W.codeIn K cd24 "_law_changed" = true) (k24:PySem.W.keepIn K (.ref f24)=true)
  {f25:Addr} {oc25 kV25 dc25 pm25 cd25 ct25:Value} {od25 an25:Option Addr} {sl25:Array (Option Value)}
  (a25:PySem.W.nsIn K mainGlobals "_law_number" = some (some (.ref f25))) (l25:K.lookup f25=some ⟨oc25,od25,.func (PySem.W.fnOf "_law_number" "_law_number" (defArgs s_law_number) (defBody s_law_number) (defScope s_law_number) .none kV25 dc25 pm25 an25 cd25 ct25),sl25⟩) (c25:PySem.W.codeIn K cd25 "_law_number" = true) (k25:PySem.W.keepIn K (.ref f25)=true)
  {f26:Addr} {oc26 kV26 dc26 pm26 cd26 ct26:Value} {od26 an26:Option Addr} {sl26:Array (Option Value)}
  (a26:PySem.W.nsIn K mainGlobals "_law_read" = some (some (.ref f26))) (l26:K.lookup f26=some ⟨oc26,od26,.func (PySem.W.fnOf "_law_read" "_law_read" (defArgs s_law_read) (defBody s_law_read) (defScope s_law_read) .none kV26 dc26 pm26 an26 cd26 ct26),sl26⟩) (c26:PySem.W.codeIn K cd26 "_law_read" = true) (k26:PySem.W.keepIn K (.ref f26)=true)
  {f27:Addr} {oc27 kV27 dc27 pm27 cd27 ct27:Value} {od27 an27:Option Addr} {sl27:Array (Option Value)}
  (a27:PySem.W.nsIn K mainGlobals "_law_fault" = some (some (.ref f27))) (l27:K.lookup f27=some ⟨oc27,od27,.func (PySem.W.fnOf "_law_fault" "_law_fault" (defArgs s_law_fault) (defBody s_law_fault) (defScope s_law_fault) .none kV27 dc27 pm27 an27 cd27 ct27),sl27⟩) (c27:PySem.W.codeIn K cd27 "_law_fault" = true) (k27:PySem.W.keepIn K (.ref f27)=true)
  {f28:Addr} {oc28 kV28 dc28 pm28 cd28 ct28:Value} {od28 an28:Option Addr} {sl28:Array (Option Value)}
  (a28:PySem.W.nsIn K mainGlobals "_law_kinds" = some (some (.ref f28))) (l28:K.lookup f28=some ⟨oc28,od28,.func (PySem.W.fnOf "_law_kinds" "_law_kinds" (defArgs s_law_kinds) (defBody s_law_kinds) (defScope s_law_kinds) .none kV28 dc28 pm28 an28 cd28 ct28),sl28⟩) (c28:PySem.W.codeIn K cd28 "_law_kinds" = true) (k28:PySem.W.keepIn K (.ref f28)=true)
  {f29:Addr} {oc29 kV29 dc29 pm29 cd29 ct29:Value} {od29 an29:Option Addr} {sl29:Array (Option Value)}
  (a29:PySem.W.nsIn K mainGlobals "_law_refused" = some (some (.ref f29))) (l29:K.lookup f29=some ⟨oc29,od29,.func (PySem.W.fnOf "_law_refused" "_law_refused" (defArgs s_law_refused) (defBody s_law_refused) (defScope s_law_refused) .none kV29 dc29 pm29 an29 cd29 ct29),sl29⟩) (c29:PySem.W.codeIn K cd29 "_law_refused" = true) (k29:PySem.W.keepIn K (.ref f29)=true)
  {C_WheelError:Addr} {C_NoMachine:Addr} {C_NoText:Addr}
  (cc_WheelError:PySem.W.nsIn K mainGlobals "WheelError" = some (some (.ref C_WheelError)))
  (cc_NoMachine:PySem.W.nsIn K mainGlobals "NoMachine" = some (some (.ref C_NoMachine)))
  (cc_NoText:PySem.W.nsIn K mainGlobals "NoText" = some (some (.ref C_NoText)))
  {ocI kVI dcI pmI cdI ctI ocIt kVIt dcIt pmIt cdIt ctIt:Value} {odI anI odIt anIt:Option Addr} {slI slIt:Array (Option Value)}
  (hI:excInI K C_NoMachine [.type "ValueError",.type "Exception",.type "BaseException",.type "object"] "ValueError.__new__" 41=true)
  (lI:K.lookup 41=some ⟨ocI,odI,.func (PySem.W.fnOf "__init__" "NoMachine.__init__" (defArgs s_NoMachine_init) (defBody s_NoMachine_init) (defScope s_NoMachine_init) .none kVI dcI pmI anI cdI ctI),slI⟩)
  (cI:PySem.W.codeIn K cdI "NoMachine.__init__" = true)
  (kI:PySem.W.keepIn K (.ref 41)=true)
  (sa:PySem.W.findIn K (.ref C_NoMachine) "__setattr__" = some (some (.builtin "object.__setattr__")))
  (ov:valOver K C_NoMachine=true)
  (tk1:PySem.W.takerIn K C_NoMachine "word" = some none)
  (tk2:PySem.W.takerIn K C_NoMachine "number" = some none)
  (hdI:PySem.W.hasDictIn K C_NoMachine=true)
  (no1:PySem.W.findIn K (.ref C_NoMachine) "word" = some none)
  (no2:PySem.W.findIn K (.ref C_NoMachine) "number" = some none)
  (kk1:PySem.W.findIn K (.ref C_NoMachine) "__getattribute__" = some (some (.builtin "BaseException.__getattribute__")))
  (kk2:PySem.W.findIn K (.ref C_NoMachine) "__getattr__" = some none)
  (kk3:PySem.W.mroIn K C_NoMachine (.type "BaseException")=some true)
  (kk4:PySem.W.mroIn K C_NoMachine (.type "object")=some true)
  (kk5:PySem.W.findIn K (.ref C_NoMachine) "__class__" = some (some (.builtin "object.__class__")))
  (hIt:excInI K C_NoText [.type "ValueError",.type "Exception",.type "BaseException",.type "object"] "ValueError.__new__" 60=true)
  (lIt:K.lookup 60=some ⟨ocIt,odIt,.func (PySem.W.fnOf "__init__" "NoText.__init__" (defArgs s_NoText_init) (defBody s_NoText_init) (defScope s_NoText_init) .none kVIt dcIt pmIt anIt cdIt ctIt),slIt⟩)
  (cIt:PySem.W.codeIn K cdIt "NoText.__init__" = true)
  (kIt:PySem.W.keepIn K (.ref 60)=true)
  (sat:PySem.W.findIn K (.ref C_NoText) "__setattr__" = some (some (.builtin "object.__setattr__")))
  (ovt:valOver K C_NoText=true)
  (tkt1:PySem.W.takerIn K C_NoText "at" = some none)
  (hdtI:PySem.W.hasDictIn K C_NoText=true)
  (not1:PySem.W.findIn K (.ref C_NoText) "at" = some none)
  (kkt1:PySem.W.findIn K (.ref C_NoText) "__getattribute__" = some (some (.builtin "BaseException.__getattribute__")))
  (kkt2:PySem.W.findIn K (.ref C_NoText) "__getattr__" = some none)
  (kkt3:PySem.W.mroIn K C_NoText (.type "BaseException")=some true)
  (kkt4:PySem.W.mroIn K C_NoText (.type "object")=some true)
  (kkt5:PySem.W.findIn K (.ref C_NoText) "__class__" = some (some (.builtin "object.__class__")))
  (kk6:PySem.W.specialIn K (.builtin "object.__class__") "__get__" = some (some (.builtin "getset_descriptor.__get__")))
  (kk7:PySem.W.takesIn K (.builtin "object.__class__")=some true)
  (h_mM_We:PySem.W.exmOne K (.ref C_NoMachine) (.ref C_WheelError)=some true)
  (h_mT_We:PySem.W.exmOne K (.ref C_NoText) (.ref C_WheelError)=some true)
  (h_mT_T:PySem.W.exmOne K (.ref C_NoText) (.ref C_NoText)=some true)
  (h_mM_T:PySem.W.exmOne K (.ref C_NoMachine) (.ref C_NoText)=some false)
  (h_mM_M:PySem.W.exmOne K (.ref C_NoMachine) (.ref C_NoMachine)=some true)
  (h_iT_v:PySem.W.kitOne K (.ref C_NoText) (.type "ValueError")=some true)
  (h_iT_T:PySem.W.kitOne K (.ref C_NoText) (.ref C_NoText)=some true)
  (h_iT_M:PySem.W.kitOne K (.ref C_NoText) (.ref C_NoMachine)=some false)
  (h_iM_v:PySem.W.kitOne K (.ref C_NoMachine) (.type "ValueError")=some true)
  (h_iM_T:PySem.W.kitOne K (.ref C_NoMachine) (.ref C_NoText)=some false)
  (h_iM_M:PySem.W.kitOne K (.ref C_NoMachine) (.ref C_NoMachine)=some true)
  {fL:Addr} {ocL kVL dcL pmL cdL ctL:Value} {odL anL:Option Addr} {slL:Array (Option Value)} (aL:PySem.W.nsIn K mainGlobals "law" = some (some (.ref fL))) (lL:K.lookup fL=some ⟨ocL,odL,.func (PySem.W.fnOf "law" "law" (defArgs s_law) (defBody s_law) (defScope s_law) .none kVL dcL pmL anL cdL ctL),slL⟩) (cL:PySem.W.codeIn K cdL "law" = true) (kL:PySem.W.keepIn K (.ref fL)=true) :
  ∃ fd:FuncData,(∀ (s:Shared) (v:Value),BindsTo s fd ⟨[v],[]⟩ [("_law_script",v)])∧∀ base:Heap,K.In base→base.Ns mainGlobals mg→base.BuiltinsAt mg mainGlobals→FnOk l.prog w K mg base (CXE l.prog w) 9 fa fd ["_law_script"] (sp_lawT K):=by
 have e:=hfa.symm.trans (PySem.W.mg_of X G aL)
 cases e
 have T:Txt K mg:=⟨cst_mk X G g_MOST_ROOMS,
  cst_mk X G g_FEWEST_LETTERS,
  cst_mk X G g_MOST_LETTERS,
  cst_mk X G g_GREATEST_SIGN,
  cstS_mk X G g_FIGURES,
  cst_mk X G g_MOST_FIGURES,
  PySem.W.mg_none_of X G z_ValueError,
  PySem.W.mg_none_of X G z_all,
  PySem.W.mg_none_of X G z_bool,
  PySem.W.mg_none_of X G z_enumerate,
  PySem.W.mg_none_of X G z_int,
  PySem.W.mg_none_of X G z_isinstance,
  PySem.W.mg_none_of X G z_len,
  PySem.W.mg_none_of X G z_min,
  PySem.W.mg_none_of X G z_range,
  PySem.W.mg_none_of X G z_str,
  PySem.W.mg_none_of X G z_tuple,
  PySem.W.mg_none_of X G z_zip,
  tx_mk X G a0 l0 c0 k0 (len_2 fun _ _=>rfl),
  tx_mk X G a1 l1 c1 k1 (len_4 fun _ _ _ _=>rfl),
  tx_mk X G a2 l2 c2 k2 (len_2 fun _ _=>rfl),
  tx_mk X G a3 l3 c3 k3 (len_1 fun _=>rfl),
  tx_mk X G a4 l4 c4 k4 (len_1 fun _=>rfl),
  tx_mk X G a5 l5 c5 k5 (len_4 fun _ _ _ _=>rfl),
  tx_mk X G a6 l6 c6 k6 (len_2 fun _ _=>rfl),
  tx_mk X G a7 l7 c7 k7 (len_2 fun _ _=>rfl),
  tx_mk X G a8 l8 c8 k8 (len_1 fun _=>rfl),
  tx_mk X G a9 l9 c9 k9 (len_2 fun _ _=>rfl),
  tx_mk X G a10 l10 c10 k10 (len_2 fun _ _=>rfl),
  tx_mk X G a11 l11 c11 k11 (len_1 fun _=>rfl),
  tx_mk X G a12 l12 c12 k12 (len_1 fun _=>rfl),
  tx_mk X G a13 l13 c13 k13 (len_1 fun _=>rfl),
  tx_mk X G a14 l14 c14 k14 (len_1 fun _=>rfl),
  tx_mk X G a15 l15 c15 k15 (len_1 fun _=>rfl),
  tx_mk X G a16 l16 c16 k16 (len_2 fun _ _=>rfl),
  tx_mk X G a17 l17 c17 k17 (len_2 fun _ _=>rfl),
  tx_mk X G a18 l18 c18 k18 (len_1 fun _=>rfl),
  tx_mk X G a19 l19 c19 k19 (len_3 fun _ _ _=>rfl),
  tx_mk X G a20 l20 c20 k20 (len_4 fun _ _ _ _=>rfl),
  tx_mk X G a21 l21 c21 k21 (len_1 fun _=>rfl),
  tx_mk X G a22 l22 c22 k22 (len_1 fun _=>rfl),
  tx_mk X G a23 l23 c23 k23 (len_1 fun _=>rfl),
  tx_mk X G a24 l24 c24 k24 (len_4 fun _ _ _ _=>rfl),
  tx_mk X G a25 l25 c25 k25 (len_1 fun _=>rfl),
  tx_mk X G a26 l26 c26 k26 (len_1 fun _=>rfl),
  tx_mk X G a27 l27 c27 k27 (len_2 fun _ _=>rfl),
  tx_mk X G a28 l28 c28 k28 (len_1 fun _=>rfl),
  tx_mk X G a29 l29 c29 k29 (len_2 fun _ _=>rfl),
  ⟨C_WheelError,C_NoMachine,C_NoText,⟨PySem.W.mg_of X G cc_WheelError,PySem.W.mg_of X G cc_NoMachine,PySem.W.mg_of X G cc_NoText,⟨41,_,excI_of hI,⟨⟨ocI,odI,kVI,dcI,pmI,anI,cdI,ctI,slI,rfl,lI,cI⟩,kI⟩,.all fun us hl=>match us,hl with|[_,_,_],_=>rfl⟩,⟨sa,ov,tk1,hdI⟩,⟨sa,ov,tk2,hdI⟩,⟨⟨kk1,kk2,kk3,kk4⟩,hdI,no1⟩,⟨⟨kk1,kk2,kk3,kk4⟩,hdI,no2⟩,⟨⟨kk1,kk2,kk3,kk4⟩,kk5,kk6,kk7⟩,⟨60,_,excI_of hIt,⟨⟨ocIt,odIt,kVIt,dcIt,pmIt,anIt,cdIt,ctIt,slIt,rfl,lIt,cIt⟩,kIt⟩,.all fun us hl=>match us,hl with|[_,_],_=>rfl⟩,⟨sat,ovt,tkt1,hdtI⟩,⟨⟨kkt1,kkt2,kkt3,kkt4⟩,hdtI,not1⟩,⟨⟨kkt1,kkt2,kkt3,kkt4⟩,kkt5,kk6,kk7⟩,h_mM_We,h_mT_We,h_mT_T,h_mM_T,h_mM_M,h_iT_v,h_iT_T,h_iT_M,h_iM_v,h_iM_T,h_iM_M⟩⟩⟩
 exact⟨PySem.W.fnOf "law" "law" (defArgs s_law) (defBody s_law) (defScope s_law) .none kVL dcL pmL anL cdL ctL,fun s v=>.of_eq rfl,fun base _ _ B=>ok_law T ⟨⟨ocL,odL,kVL,dcL,pmL,anL,cdL,ctL,slL,rfl,lL,cL⟩,kL⟩⟩
theorem walk{l:PySem.W.OpenLaw}{q:Program}{loose:List Str}{XP:(Str→Option Value)→Heap→Prop}{YP:World→Heap→Prop}{d:DefRec}{K:Params→W.Frag}(hn:l.most=some 63)(hdf:d.params.defaults=[])
  (hY:∀ (w:World) (h:Heap),YP w h→(K w.params).In h) (hYt:∀ (w:World) (h:Heap),YP w h→∀ p∈ts0,h.get? p.1=some (PySem.W.tabObj #[])) (hK:∀ (w:World) (p:Addr×(Nat→Nat→Str)),p∈ts0→(K w.params).lookup p.1=none∧∃ c,PySem.W.codeHdIn (K w.params) c p.1=true)
  (F:∀ (w:World) (mg:Str→Option Value) (fa:Addr) (h:Heap),(K w.params).In h→h.Ns mainGlobals mg→mg d.name=some (.ref fa) →
   ∃ fd:FuncData,(∀ (s:Shared) (u:Value),BindsTo s fd ⟨[u],[]⟩ [("_law_script",u)])∧∀ base:Heap,(K w.params).In base→base.Ns mainGlobals mg→base.BuiltinsAt mg mainGlobals→FnOk l.prog w (K w.params) mg base (CXE l.prog w) 9 fa fd ["_law_script"] (sp_lawT (K w.params))) :
  PySem.W.WalkO q loose XP YP l.row.toRowW d [] (fun f vs=>PySem.call f vs) :=
 L2.walk_ofT (ts:=ts0) (n:=63) (k:=9) (x := "_law_script") (CX:=fun w=>CXE l.prog w) (sp:=fun w=>sp_lawT (K w.params)) (by decide) hn (by decide) hdf ⟨rfl,by decide,by decide⟩ hY hYt hK F (fun _ _ a ns hl hb hT hS=>⟨hT,a,ns,rfl,hS,hl,hb,fun _ m=>⟨rfl,m⟩⟩) fun _ _ _ _ _ ⟨_,_,_,_,_,_,_,_,_,_,_,_,_,z⟩=>z
end K08
namespace PySem.W.Fast
theorem tw10560186772106888261:True:=⟨⟩
theorem tw7487441763345895079:True:=⟨⟩
theorem tw3009948095216527537:True:=⟨⟩
theorem tw4763924701256322316:True:=⟨⟩
theorem tw4467729810472459826:True:=⟨⟩
theorem tw1222710500343399911:True:=⟨⟩
theorem tw15478987324066168109:True:=⟨⟩
theorem tw1969980237240351227:True:=⟨⟩
theorem tw9461427104150187018:True:=⟨⟩
theorem tw15388925258517290987:True:=⟨⟩
theorem tw6490716442738679820:True:=⟨⟩
theorem tw13355558274124581103:True:=⟨⟩
theorem tw12961846203863074720:True:=⟨⟩
theorem tw4587389958112545488:True:=⟨⟩
theorem tw15095415797261280125:True:=⟨⟩
theorem tw14869563699655471629:True:=⟨⟩
theorem tw1941042628785827309:True:=⟨⟩
theorem tw9201100831648794477:True:=⟨⟩
theorem tw7761971027024496887:True:=⟨⟩
theorem tw5981499097843877282:True:=⟨⟩
theorem tw13309853641861672240:True:=⟨⟩
theorem tw6143341726337154746:True:=⟨⟩
theorem tw17583254558522237002:True:=⟨⟩
theorem tw2806379785792255716:True:=⟨⟩
theorem tw11504300622625324961:True:=⟨⟩
theorem tw3819663419170414817:True:=⟨⟩
theorem tw13165224730740146344:True:=⟨⟩
theorem tw12370410453681200813:True:=⟨⟩
theorem tw13473968383313270096:True:=⟨⟩
theorem tw12458989890764771612:True:=⟨⟩
theorem tw12889565795724705158:True:=⟨⟩
theorem tw190397557999726689:True:=⟨⟩
theorem tw16344597958348856100:True:=⟨⟩
theorem tw14177661356550544979:True:=⟨⟩
theorem tw14175936765754619496:True:=⟨⟩
theorem tw5960225947526226270:True:=⟨⟩
theorem tw12131521473578405588:True:=⟨⟩
theorem tw4602665934223628920:True:=⟨⟩
theorem tw17405083542929598439:True:=⟨⟩
theorem tw7968913878359798347:True:=⟨⟩
theorem tw10675268367134141568:True:=⟨⟩
theorem tw8595421465137435114:True:=⟨⟩
theorem tw5020378329183107417:True:=⟨⟩
theorem tw9437416372181581814:True:=⟨⟩
theorem tw14215118464533359088:True:=⟨⟩
theorem tw3641231025201220829:True:=⟨⟩
theorem tw762632374989321873:True:=⟨⟩
theorem tw17261651500998383431:True:=⟨⟩
theorem tw16630530650371453048:True:=⟨⟩
theorem tw13428884283682139412:True:=⟨⟩
theorem tw6164230968143471757:True:=⟨⟩
theorem tw1284523449278615115:True:=⟨⟩
theorem tw12839728392824879111:True:=⟨⟩
theorem tw4717237613278162786:True:=⟨⟩
theorem tw10068592978261550533:True:=⟨⟩
theorem tw16333358137302394442:True:=⟨⟩
theorem tw16897712441350837408:True:=⟨⟩
theorem tw3141781444218593085:True:=⟨⟩
theorem tw11890836080121731458:True:=⟨⟩
theorem tw5401167947605077254:True:=⟨⟩
theorem tw11476472845869143124:True:=⟨⟩
theorem tw6715054765391406649:True:=⟨⟩
theorem tw7072219651817212132:True:=⟨⟩
theorem tw7780105630781370568:True:=⟨⟩
theorem tw7772778039365923108:True:=⟨⟩
theorem tw17012448360327070741:True:=⟨⟩
theorem tw375273862470222743:True:=⟨⟩
theorem tw17281166025398141368:True:=⟨⟩
theorem tw12785057695138117994:True:=⟨⟩
theorem tw13916581233855571428:True:=⟨⟩
theorem tw3061254376553305548:True:=⟨⟩
theorem tw11000779979842322856:True:=⟨⟩
theorem tw6013929490544401897:True:=⟨⟩
theorem tw4127108402551200328:True:=⟨⟩
theorem tw13117409713557785651:True:=⟨⟩
theorem tw8067060013727417654:True:=⟨⟩
theorem tw15157015164092665645:True:=⟨⟩
theorem tw5944436955611215758:True:=⟨⟩
theorem tw4366873877787850800:True:=⟨⟩
theorem tw9198504154502696273:True:=⟨⟩
theorem tw6699393477083917612:True:=⟨⟩
theorem tw17951170003685596391:True:=⟨⟩
theorem tw5540856409193282030:True:=⟨⟩
theorem tw13603819066031183852:True:=⟨⟩
theorem tw1190266511927844275:True:=⟨⟩
theorem tw12081137249887515957:True:=⟨⟩
theorem tw12224811835870051185:True:=⟨⟩
theorem tw17748026429472003340:True:=⟨⟩
theorem tw2699082120873382958:True:=⟨⟩
theorem tw11355776034649627978:True:=⟨⟩
theorem tw498356198476980827:True:=⟨⟩
theorem tw3241774911593567166:True:=⟨⟩
theorem tw11919051727148789218:True:=⟨⟩
theorem tw13423814820706866742:True:=⟨⟩
theorem tw566853350432536739:True:=⟨⟩
theorem tw16617779471165296310:True:=⟨⟩
theorem tw8632081488241937638:True:=⟨⟩
theorem tw7936534378284269042:True:=⟨⟩
theorem tw15815700732360854698:True:=⟨⟩
theorem tw5518493515892031157:True:=⟨⟩
theorem tw666732036297579288:True:=⟨⟩
theorem tw5734903848560990912:True:=⟨⟩
theorem tw11664496105332542708:True:=⟨⟩
theorem tw12062075429566282201:True:=⟨⟩
theorem tw8305715049298359205:True:=⟨⟩
end PySem.W.Fast
open PySem PySem.W PyProof.Rows
set_option maxRecDepth 100000 in
set_option maxHeartbeats 0 in
theorem PySem.Challenge.cw_figurewheel_k08_machines_written_holds : PySem.Challenge.rw_figurewheel_k08_machines_written.Holds := by
 w_on;o_law;k_head;(case hw=>w_witness2)
 k_fill
 refine K08.walk (l:=PySem.Challenge.rw_figurewheel_k08_machines_written) rfl rfl (fun w h Y=>PySem.W.kIn_of Y) (fun _ _ _ _ hp=>nomatch hp) (fun _ _ hp=>nomatch hp) ?F
 case F =>
  intro w mg fa h KX G hmg
  refine' K08.all_mk KX G hmg ?g_MOST_ROOMS ?g_FEWEST_LETTERS ?g_MOST_LETTERS ?g_GREATEST_SIGN ?g_FIGURES ?g_MOST_FIGURES ?z_ValueError ?z_all ?z_bool ?z_enumerate ?z_int ?z_isinstance ?z_len ?z_min ?z_range ?z_str ?z_tuple ?z_zip ?a0 ?l0 ?c0 ?k0 ?a1 ?l1 ?c1 ?k1 ?a2 ?l2 ?c2 ?k2 ?a3 ?l3 ?c3 ?k3 ?a4 ?l4 ?c4 ?k4 ?a5 ?l5 ?c5 ?k5 ?a6 ?l6 ?c6 ?k6 ?a7 ?l7 ?c7 ?k7 ?a8 ?l8 ?c8 ?k8 ?a9 ?l9 ?c9 ?k9 ?a10 ?l10 ?c10 ?k10 ?a11 ?l11 ?c11 ?k11 ?a12 ?l12 ?c12 ?k12 ?a13 ?l13 ?c13 ?k13 ?a14 ?l14 ?c14 ?k14 ?a15 ?l15 ?c15 ?k15 ?a16 ?l16 ?c16 ?k16 ?a17 ?l17 ?c17 ?k17 ?a18 ?l18 ?c18 ?k18 ?a19 ?l19 ?c19 ?k19 ?a20 ?l20 ?c20 ?k20 ?a21 ?l21 ?c21 ?k21 ?a22 ?l22 ?c22 ?k22 ?a23 ?l23 ?c23 ?k23 ?a24 ?l24 ?c24 ?k24 ?a25 ?l25 ?c25 ?k25 ?a26 ?l26 ?c26 ?k26 ?a27 ?l27 ?c27 ?k27 ?a28 ?l28 ?c28 ?k28 ?a29 ?l29 ?c29 ?k29 ?cc_WheelError ?cc_NoMachine ?cc_NoText ?hI ?lI ?cI ?kI ?sa ?ov ?tk1 ?tk2 ?hdI ?no1 ?no2 ?kk1 ?kk2 ?kk3 ?kk4 ?kk5 ?hIt ?lIt ?cIt ?kIt ?sat ?ovt ?tkt1 ?hdtI ?not1 ?kkt1 ?kkt2 ?kkt3 ?kkt4 ?kkt5 ?kk6 ?kk7 ?h_mM_We ?h_mT_We ?h_mT_T ?h_mM_T ?h_mM_M ?h_iT_v ?h_iT_T ?h_iT_M ?h_iM_v ?h_iM_T ?h_iM_M ?aL ?lL ?cL ?kL
  (case g_MOST_ROOMS|g_FEWEST_LETTERS|g_MOST_LETTERS|g_GREATEST_SIGN|g_FIGURES|g_MOST_FIGURES|z_ValueError|z_all|z_bool|z_enumerate|z_int|z_isinstance|z_len|z_min|z_range|z_str|z_tuple|z_zip|a0|l0|c0|k0|a1|l1|c1|k1|a2|l2|c2|k2|a3|l3|c3|k3|a4|l4|c4|k4|a5|l5|c5|k5|a6|l6|c6|k6|a7|l7|c7|k7|a8|l8|c8|k8|a9|l9|c9|k9|a10|l10|c10|k10|a11|l11|c11|k11|a12|l12|c12|k12|a13|l13|c13|k13|a14|l14|c14|k14|a15|l15|c15|k15|a16|l16|c16|k16|a17|l17|c17|k17|a18|l18|c18|k18|a19|l19|c19|k19|a20|l20|c20|k20|a21|l21|c21|k21|a22|l22|c22|k22|a23|l23|c23|k23|a24|l24|c24|k24|a25|l25|c25|k25|a26|l26|c26|k26|a27|l27|c27|k27|a28|l28|c28|k28|a29|l29|c29|k29|cc_WheelError|cc_NoMachine|cc_NoText =>k_is)
  (case hI=>kernel_rfl)
  (case lI|cI|kI|sa =>k_is)
  (case ov=>kernel_rfl)
  (case tk1|tk2|hdI|no1|no2|kk1|kk2|kk3|kk4|kk5 =>k_is)
  (case hIt=>kernel_rfl)
  (case lIt|cIt|kIt|sat =>k_is)
  (case ovt=>kernel_rfl)
  (case tkt1|hdtI|not1|kkt1|kkt2|kkt3|kkt4|kkt5|kk6|kk7 =>k_is)
  (case h_mM_We=>kts_exm)
  (case h_mT_We=>kts_exm)
  (case h_mT_T=>kts_exm)
  (case h_mM_T=>kts_exm)
  (case h_mM_M=>kts_exm)
  (case h_iT_v=>kit_is)
  (case h_iT_T=>kit_is)
  (case h_iT_M=>kit_is)
  (case h_iM_v=>kit_is)
  (case h_iM_T=>kit_is)
  (case h_iM_M=>kit_is)
  (case aL|lL|cL|kL =>k_is)
end
