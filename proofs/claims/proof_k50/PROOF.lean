import PyProof.Rows.All
import Wide.All
import OpenK.AllK
import Wide.FinOn
import PyProof.EqAt
import PyProof.EqKinds
import PyProof.TupleCall
import PyProof.ExcBaseAll.ValueError
import PyProof.ExcArgsOwn
import PyProof.ExcInit
import PyProof.InstStoreFacts
import Lean
import PySem.Challenge.RW_figurewheel_k50_leaves_told
set_option linter.all false
set_option Elab.async false
set_option maxRecDepth 100000
set_option maxHeartbeats 4000000
set_option bootstrap.genMatcherCode false
namespace L2
open PySem PySem.Spec PyProof.Rows
noncomputable abbrev Key:=Sum Int Str
noncomputable def keyIs:Key→Value→Bool
 | .inl k,v=>Value.isInt k v
 | .inr x,v=>Value.isStrOf x v
noncomputable def keyH(w:World):Key→Int
 | .inl k=>hashInt k
 | .inr x=>hashStr w x
theorem keyIs_shape:∀ {k:Key} {v:Value},keyIs k v=true→(∃ i t,k=Sum.inl i∧v=Value.int i t)∨(∃ x t,k=Sum.inr x∧v=Value.str x t)
 | .inl i,v,h=>by
  obtain⟨t,e⟩:=Value.isInt_shape (k:=i) (v:=v) h
  exact .inl ⟨i,t,rfl,e⟩
 | .inr x,v,h=>by
  obtain⟨t,e⟩:=Value.isStrOf_shape (x:=x) (v:=v) h
  exact .inr ⟨x,t,rfl,e⟩
theorem keyIs_int(i:Int)(t:Tok):keyIs (.inl i) (.int i t)=true:=by simp[keyIs,Value.isInt]
theorem keyIs_str(x:Str)(t:Tok):keyIs (.inr x) (.str x t)=true:=by simp[keyIs,Value.isStrOf]
theorem key_ll(a b:Int):decide ((Sum.inl a:Key)=Sum.inl b)=(a == b):=by
 by_cases e:a=b
 ·subst e;simp
 ·have h:¬ (Sum.inl a:Key)=Sum.inl b:=fun q=>e (Sum.inl.inj q)
  rw[decide_eq_false h]
  exact (beq_eq_false_iff_ne.mpr e).symm
theorem key_rr(a b:Str):decide ((Sum.inr a:Key)=Sum.inr b)=decide (a=b):=by
 by_cases e:a=b
 ·subst e;simp
 ·have h:¬ (Sum.inr a:Key)=Sum.inr b:=fun q=>e (Sum.inr.inj q)
  rw[decide_eq_false h,decide_eq_false e]
theorem key_lr(a:Int)(b:Str):decide ((Sum.inl a:Key)=Sum.inr b)=false:=decide_eq_false (fun q=>nomatch q)
theorem key_rl(a:Str)(b:Int):decide ((Sum.inr a:Key)=Sum.inl b)=false:=decide_eq_false (fun q=>nomatch q)
noncomputable def mixKind(prog:Program)(w:World):PySem.KeyKind prog w Key where
 is:=keyIs
 hash:=keyH w
 inj:=fun v a b ha hb=>by
  rcases keyIs_shape ha with⟨i,t,rfl,rfl⟩|⟨x,t,rfl,rfl⟩
  ·rcases keyIs_shape hb with⟨j,u,rfl,e⟩|⟨y,u,rfl,e⟩
   ·injection e with e1 _;rw[e1]
   ·exact nomatch e
  ·rcases keyIs_shape hb with⟨j,u,rfl,e⟩|⟨y,u,rfl,e⟩
   ·exact nomatch e
   ·injection e with e1 _;rw[e1]
 byValue:=fun k v h=>by
  rcases keyIs_shape h with⟨i,t,rfl,rfl⟩|⟨x,t,rfl,rfl⟩<;>rfl
 pyHash:=fun hv h=>by
  rcases keyIs_shape hv with⟨i,t,rfl,rfl⟩|⟨x,t,rfl,rfl⟩
  ·exact wpAny_pyHash_int h
  ·exact wpAny_pyHash_str h
 eqBool:=fun hu hv h=>by
  rcases keyIs_shape hu with⟨i,t,rfl,rfl⟩|⟨x,t,rfl,rfl⟩
  ·rcases keyIs_shape hv with⟨j,u,rfl,rfl⟩|⟨y,u,rfl,rfl⟩
   ·rw[key_ll] at h;exact wpAny_eqBool_int h
   ·rw[key_lr] at h;exact SeqAt.EqAt.int_str i t y u _ _ _ _ h
  ·rcases keyIs_shape hv with⟨j,u,rfl,rfl⟩|⟨y,u,rfl,rfl⟩
   ·rw[key_rl] at h;exact SeqAt.EqAt.str_int x t j u _ _ _ _ h
   ·rw[key_rr] at h;exact wpAny_eqBool_str h
 «strs»:=fun k x t v h=>by
  rcases keyIs_shape h with⟨i,u,rfl,e⟩|⟨y,u,rfl,e⟩
  ·exact nomatch e
  ·injection e with e1 _
   subst e1
   cases v<;>rfl
theorem mixKind_int(prog:Program)(w:World)(i:Int)(t:Tok):(mixKind prog w).is (.inl i) (.int i t)=true:=keyIs_int i t
theorem mixKind_str(prog:Program)(w:World)(x:Str)(t:Tok):(mixKind prog w).is (.inr x) (.str x t)=true:=keyIs_str x t
end L2
namespace PySem
section
variable{prog:Program}{w:World}{KT:Type}[DecidableEq KT](kd:KeyKind prog w KT)
noncomputable def PairAt(h:Heap)(z:KT×List KT)(a:Addr):Prop :=
 ∃ (ob:Obj) (its:Array Value) (c:Nat) (u:Value) (b:Addr),h.get? a=some ob∧ob.cls=.type "tuple" ∧ ob.data=.seq its c∧its.toList=[u,.ref b]∧kd.is z.1 u=true∧IsTupleKey kd h z.2 b
noncomputable def pairHash(z:KT×List KT):Int:=reduceHash (Builtin.Tuple.tupleHashOf [kd.hash z.1,tupleKeyHash kd z.2])
variable{kd}
theorem PairAt.tp{s:Shared}{z:KT×List KT}{a:Addr}(x:PairAt kd s.heap z a):s.TypeIs (.ref a) "tuple" :=
 let ⟨ob,_,_,_,_,e,hc,_⟩:=x;⟨ob,e,hc⟩
theorem PairAt.one{h:Heap}{a:Addr}{y z:KT×List KT}(hy:PairAt kd h y a)(hz:PairAt kd h z a):y=z:=by
 obtain⟨o1,i1,c1,u1,b1,e1,_,d1,l1,f1,g1⟩:=hy
 obtain⟨o2,i2,c2,u2,b2,e2,_,d2,l2,f2,g2⟩:=hz
 rw[e1] at e2
 cases e2
 rw[d1] at d2
 cases d2
 rw[l1] at l2
 cases l2
 exact Prod.ext (kd.inj _ _ _ f1 f2) (g1.inj g2)
theorem PairAt.stay{h h':Heap}{z:KT×List KT}{a d:Addr}{ob:Obj}{es ep}(x:PairAt kd h z a)(hd:h.get? d=some ob)(hx:ob.data=.dict es ep)(hs:Heap.SameBut d h h'):PairAt kd h' z a:=by
 obtain⟨o1,i1,c1,u1,b1,e1,k1,d1,l1,f1,g1⟩:=x
 have ne:a≠d:=fun q=>by
  subst q
  rw[e1] at hd
  cases hd
  rw[d1] at hx
  cases hx
 exact⟨o1,i1,c1,u1,b1,(hs.2 a ne).trans e1,k1,d1,l1,f1,g1.keeps hd hx hs⟩
variable{A:Around}{E:Value→Shared→Prop}{s:Shared}
theorem pair_hash{z:KT×List KT}{a:Addr}{Q:Int→Shared→Prop}(hv:A.units<cLine∧A.in1.units<cLine)(hz:PairAt kd s.heap z a)(q:Q (pairHash kd z) { s with toks:=s.toks+(z.2.length+3) }) :
  wpAny (model prog w) A (pyHash (.ref a)) Q E s:=by
 have tp:=hz.tp
 obtain⟨ob,its,c,u,b,e1,_,d1,l1,f1,g1⟩:=hz
 unfold pyHash
 unfold pyHashByItsType
 refine wpAny_bind (wpAny_cRoomFor_or (.inr hv.1) ?_)
 refine wpAny_bind (wpAny_specialOf tp F.slot_tuple_hash.lookup ?_)
 show wpAny _ A (if (some (Value.builtin "tuple.__hash__") == some Value.none)=true then _ else _) Q E s
 rw[if_neg (by rw[beq_builtin_none];exact Bool.false_ne_true)]
 refine wpAny_bind (wpAny_specialOf tp F.slot_tuple_hash.lookup ?_)
 show wpAny _ A (callSpecialIfBoundUnlessNone? (.ref a) "__hash__" _ >>= _) Q E s
 refine wpAny_bind (wpAny_callSpecialIfBoundUnlessNone?_slot tp F.slot_tuple_hash (wpAny_call_entry F.slot_tuple_hash tp F.entry_tuple_hash ?_ (F.args_tuple_hash_1 _)))
 show wpAny _ _ (Builtin.Tuple.tupleItemsOf (.ref a) >>= _) _ _ s
 refine wpAny_bind (wpAny_tupleItemsOf e1 d1 ?_)
 refine wpAny_bind ?_
 rw[← Array.forIn_toList,l1]
 refine wpAny_forIn_list _
  (fun rest (acc:Array Int) s'=>(rest=[u,.ref b]∧acc.toList=[]∧s'=s)∨(rest=[.ref b]∧acc.toList=[kd.hash z.1]∧s'={ s with toks:=s.toks+1 })∨(rest=[]∧acc.toList=[kd.hash z.1,tupleKeyHash kd z.2]∧s'={ s with toks:=s.toks+(z.2.length+2) }))
  _ ?_ ?_ _ _ (.inl ⟨rfl,rfl,rfl⟩)
 ·rintro x rest acc s' (⟨r1,r2,rfl⟩|⟨r1,r2,rfl⟩|⟨r1,_⟩)
  ·cases r1
   refine wpAny_bind (kd.pyHash f1 ?_)
   first
    | exact wpAny_pure (.inr (.inl ⟨rfl,by simp[r2],rfl⟩))
    | exact wpAny_bind (wpAny_pure (wpAny_pure (.inr (.inl ⟨rfl,by simp[r2],rfl⟩))))
  ·cases r1
   refine wpAny_bind (wpAny_pyHash_tuple hv.2 g1 ?_)
   first
    | exact wpAny_pure (.inr (.inr ⟨rfl,by simp[r2],by simp;omega⟩))
    | exact wpAny_bind (wpAny_pure (wpAny_pure (.inr (.inr ⟨rfl,by simp[r2],by simp;omega⟩))))
  ·cases r1
 ·rintro acc s' (⟨r1,_⟩|⟨r1,_⟩|⟨_,r2,rfl⟩)
  ·cases r1
  ·cases r1
  show wpAny _ _ (retInt (Builtin.Tuple.tupleHashOf acc.toList)) _ _ _
  rw[r2]
  refine wpAny_ret_mkInt ?_
  unfold pairHash reduceHash at q
  generalize Builtin.Tuple.tupleHashOf [kd.hash z.1,tupleKeyHash kd z.2]=hh at q
  show wpAny _ A (if (decide (-(2:Int) ^ 63≤hh) && decide (hh<2 ^ 63))=true then _ else _) Q E _
  split at q<;>rename_i hr
  ·rw[if_pos hr]
   exact wpAny_pure (by simpa [Nat.add_assoc] using q)
  ·rw[if_neg hr]
   exact wpAny_bind (wpAny_rule (wpAny_pure (by simpa [Nat.add_assoc] using q)))
theorem pair_eq_tree{y z:KT×List KT}{a b:Addr}{R:Fin→Shared→Prop}(hu:A.units<cLine)(hy:PairAt kd s.heap y a)(hz:PairAt kd s.heap z b)(q:R (.done (.ret (.bool (decide (y=z))))) s) :
  wpAny (model prog w) A (Builtin.«tuple.__eq__» ⟨[.ref a,.ref b],[]⟩) R E s:=by
 have tb:=hz.tp
 obtain⟨o1,i1,c1,u1,b1,e1,k1,d1,l1,f1,g1⟩:=hy
 obtain⟨o2,i2,c2,u2,b2,e2,k2,d2,l2,f2,g2⟩:=hz
 show wpAny _ A (isInstance (.ref b) (.type "tuple") >>= _) _ _ s
 refine wpAny_bind (wpAny_isInstance tb isSubtype_tuple_tuple ?_)
 simp only[Bool.not_true,Bool.false_eq_true,if_false]
 refine wpAny_bind (wpAny_tupleItemsOf e1 d1 ?_)
 refine wpAny_bind (wpAny_tupleItemsOf e2 d2 ?_)
 have zz:(i1.size == i2.size)=true:=by
  have a1:=congrArg List.length l1
  have a2:=congrArg List.length l2
  rw[Array.length_toList] at a1 a2
  rw[a1,a2];rfl
 refine wpAny_bind ?_
 rw[l1,l2]
 refine wpAny_forIn_list _
  (fun rest r s'=>r.1=none∧s'=s∧(rest=[(u1,u2),(.ref b1,.ref b2)]∨(rest=[(.ref b1,.ref b2)]∧y.1=z.1)∨(rest=[]∧y=z)))
  _ ?_ ?_ _ _ ⟨rfl,rfl,.inl rfl⟩
 ·rintro x rest r s' ⟨hr,rfl,r1|⟨r1,ey⟩|⟨r1,_⟩⟩
  ·cases r1
   refine wpAny_bind (kd.eqBool (a:=y.1) (b:=z.1) f1 f2 ?_)
   by_cases hk:y.1=z.1
   ·rw[decide_eq_true hk]
    simp only[Bool.not_true,Bool.false_eq_true,if_false]
    exact wpAny_pure ⟨rfl,rfl,.inr (.inl ⟨by trivial,hk⟩)⟩
   ·rw[decide_eq_false hk]
    simp only[Bool.not_false,if_true]
    rw[decide_eq_false (fun e=>hk (by rw[e]))] at q
    exact wpAny_bind (wpAny_pure (wpAny_pure (wpAny_pure q)))
  ·cases r1
   refine wpAny_bind (wpAny_eqBool_tuple hu g1 g2 ?_)
   by_cases hk:y.2=z.2
   ·rw[decide_eq_true hk]
    simp only[Bool.not_true,Bool.false_eq_true,if_false]
    exact wpAny_pure ⟨rfl,rfl,.inr (.inr ⟨by trivial,Prod.ext ey hk⟩)⟩
   ·rw[decide_eq_false hk]
    simp only[Bool.not_false,if_true]
    rw[decide_eq_false (fun e=>hk (by rw[e]))] at q
    exact wpAny_bind (wpAny_pure (wpAny_pure (wpAny_pure q)))
  ·cases r1
 ·rintro⟨r1,r2⟩ s' ⟨hr,rfl,z1|⟨z1,_⟩|⟨_,ey⟩⟩
  ·cases z1
  ·cases z1
  simp only at hr
  subst hr
  refine wpAny_pure ?_
  show R (.done (.ret (.bool (i1.size == i2.size)))) s'
  rw[zz]
  rw[decide_eq_true ey] at q
  exact q
theorem pair_eq{y z:KT×List KT}{a b:Addr}{Q:Bool→Shared→Prop}(hv:A.units<cLine∧A.in1.units<cLine)(hy:PairAt kd s.heap y a)(hz:PairAt kd s.heap z b)(q:Q (decide (y=z)) s) :
  wpAny (model prog w) A (eqBool (.ref a) (.ref b)) Q E s:=by
 unfold eqBool
 try with_reducible refine wpAny_holding ?_
 show wpAny _ A (if (Value.ref a == Value.ref b)=true then _ else _) Q E s
 by_cases ab:(Value.ref a == Value.ref b)=true
 ·rw[if_pos ab]
  have e:a=b:=by have:=eq_of_beq ab;injection this
  subst e
  have e2:=hy.one hz
  subst e2
  exact wpAny_bind (wpAny_rule (wpAny_pure (by simpa using q)))
 ·rw[if_neg ab]
  exact wpAny_bind (wpAny_richCompare_same_room (op:=.Eq) hy.tp hz.tp F.slot_tuple_eq (wpAny_call_entry F.slot_tuple_eq hy.tp F.entry_tuple_eq (pair_eq_tree hv.2 hy hz ⟨_,rfl,(fun e=>nomatch e),wpAny_truthy_bool q⟩) (F.args_tuple_eq_2 _ _)) hv.1)
theorem quiet_flat{ks:List KT}{a:Addr}{m:Nat}{Q:Bool→Shared→Prop}(hk:IsTupleKey kd s.heap ks a)(q:Q true s):wpAny (model prog w) A (eqIsQuiet (m+1) (.ref a)) Q E s:=by
 have tp:=hk.typeIs
 obtain⟨o1,i1,c1,e1,_,d1,g1⟩:=hk
 unfold eqIsQuiet
 refine wpAny_bind (wpAny_specialOf tp F.slot_tuple_eq.lookup ?_)
 show wpAny _ A (isInstance (.ref a) (.type "tuple") >>= _) _ _ s
 refine wpAny_bind (wpAny_isInstance tp isSubtype_tuple_tuple ?_)
 simp only[Bool.not_true,Bool.false_eq_true,if_false]
 refine wpAny_bind (wpAny_seqItems e1 d1 ?_)
 refine wpAny_bind ?_
 show wpAny _ A (forIn i1 _ _) _ _ s
 rw[← Array.forIn_toList]
 refine wpAny_forIn_list _ (fun rest r s'=>r.1=none∧s'=s∧∀ v∈rest,carriedByValue v=true) _ ?_ ?_ _ _ ⟨rfl,rfl,g1.byValue⟩
 ·rintro x rest r s' ⟨hr,rfl,al⟩
  rw[eqIsQuiet_byValue _ (al x (.head _))]
  refine wpAny_bind (wpAny_pure ?_)
  simp only[Bool.not_true,Bool.false_eq_true,if_false]
  exact wpAny_pure ⟨rfl,rfl,fun v hv=>al v (.tail _ hv)⟩
 ·rintro⟨r1,r2⟩ s' ⟨hr,rfl,_⟩
  simp only at hr
  subst hr
  exact wpAny_pure q
theorem pair_quiet{z:KT×List KT}{a:Addr}{Q:Bool→Shared→Prop}(hz:PairAt kd s.heap z a)(q:Q true s):wpAny (model prog w) A (eqIsQuiet 8 (.ref a)) Q E s:=by
 have tp:=hz.tp
 obtain⟨o1,i1,c1,u1,b1,e1,_,d1,l1,f1,g1⟩:=hz
 unfold eqIsQuiet
 refine wpAny_bind (wpAny_specialOf tp F.slot_tuple_eq.lookup ?_)
 show wpAny _ A (isInstance (.ref a) (.type "tuple") >>= _) _ _ s
 refine wpAny_bind (wpAny_isInstance tp isSubtype_tuple_tuple ?_)
 simp only[Bool.not_true,Bool.false_eq_true,if_false]
 refine wpAny_bind (wpAny_seqItems e1 d1 ?_)
 refine wpAny_bind ?_
 show wpAny _ A (forIn i1 _ _) _ _ s
 rw[← Array.forIn_toList,l1]
 refine wpAny_forIn_list _ (fun rest r s'=>r.1=none∧s'=s∧(rest=[u1,.ref b1]∨rest=[.ref b1]∨rest=[])) _ ?_ ?_ _ _ ⟨rfl,rfl,.inl rfl⟩
 ·rintro x rest r s' ⟨hr,rfl,r1|r1|r1⟩
  ·cases r1
   rw[eqIsQuiet_byValue _ (kd.byValue _ _ f1)]
   refine wpAny_bind (wpAny_pure ?_)
   simp only[Bool.not_true,Bool.false_eq_true,if_false]
   refine wpAny_pure ⟨rfl,rfl,?_⟩
   exact .inr (.inl (by trivial))
  ·cases r1
   refine wpAny_bind (quiet_flat g1 ?_)
   simp only[Bool.not_true,Bool.false_eq_true,if_false]
   refine wpAny_pure ⟨rfl,rfl,?_⟩
   exact .inr (.inr (by trivial))
  ·cases r1
 ·rintro⟨r1,r2⟩ s' ⟨hr,rfl,_⟩
  simp only at hr
  subst hr
  exact wpAny_pure q
end
noncomputable def pairKind{prog:Program}{w:World}{KT:Type}[DecidableEq KT](kd:KeyKind prog w KT):HeapKind prog w (KT×List KT) where
 is:=PairAt kd
 hash:=pairHash kd
 draws:=fun z=>z.2.length+3
 room:=fun A=>A.units<cLine∧A.in1.units<cLine
 inj:=PairAt.one
 keeps:=PairAt.stay
 pyHash:=pair_hash
 eqBool:=pair_eq
 quiet:=pair_quiet
end PySem
namespace L2
open PySem PySem.Spec PyProof.Rows
inductive V where
 | non|bl (b:Bool)|int (i:Int)|str (x:Str)|byt (b:Array UInt8)|flt (b:UInt64)|ref (a:Addr)|ty (n:String)
 deriving DecidableEq
noncomputable def RelV:V→Value→Prop
 | .non,u=>u=Value.none
 | .bl b,u=>u=Value.bool b
 | .int i,u=>∃ t,u=Value.int i t
 | .str x,u=>∃ t,u=Value.str x t
 | .byt b,u=>∃ t,u=Value.bytes b t
 | .flt b,u=>∃ t,u=Value.float b t
 | .ref a,u=>u=Value.ref a
 | .ty n,u=>u=Value.type n
noncomputable abbrev Vals:List V→List Value→Prop:=Paired RelV
theorem Vals.length{xs:List V}{us:List Value}(r:Vals xs us):xs.length=us.length:=Paired.length r
theorem Vals.get:∀ {xs:List V} {us:List Value} {i:Nat} {x:V},Vals xs us→xs[i]?=some x→∃ u,us[i]?=some u∧RelV x u
 | _,_,_,_,.nil,e=>by simp at e
 | _,_,0,_,.cons r _,e=>by simp at e;subst e;exact⟨_,rfl,r⟩
 | _,_,i+1,x,.cons _ t,e=>by
  obtain⟨u,h1,h2⟩:=Vals.get (i:=i) (x:=x) t (by simpa using e)
  exact⟨u,by simpa using h1,h2⟩
theorem Vals.append:∀ {xs ys:List V} {us ws:List Value},Vals xs us→Vals ys ws→Vals (xs++ys) (us++ws)
 | _,_,_,_,.nil,s=>s
 | _,_,_,_,.cons r t,s=>.cons r (Vals.append t s)
theorem Vals.take:∀ {xs:List V} {us:List Value} (n:Nat),Vals xs us→Vals (xs.take n) (us.take n)
 | _,_,0,_=>.nil
 | _,_,_+1,.nil=>.nil
 | _,_,n+1,.cons r t=>.cons r (Vals.take n t)
theorem Vals.drop:∀ {xs:List V} {us:List Value} (n:Nat),Vals xs us→Vals (xs.drop n) (us.drop n)
 | _,_,0,r=>r
 | _,_,_+1,.nil=>.nil
 | _,_,n+1,.cons _ t=>Vals.drop n t
noncomputable def RelO:Option V→Option Value→Prop
 | some v,some u=>RelV v u
 | none,none=>True
 | _,_=>False
noncomputable def KV{κ:Type}:List (κ×V)→List (κ×Value)→Prop:=Paired fun (p:κ×V) (q:κ×Value)=>p.1=q.1∧RelV p.2 q.2
noncomputable def kV:Key→V
 | .inl i=>.int i
 | .inr x=>.str x
inductive HO where
 | lst (xs:List V)
 | tup (xs:List V)
 | dK (kvs:List (Key×V))|dT (kvs:List (List Key×V))
 | dN (kvs:List ((Key×List Key)×V))
 | set (S:Int→Bool) (n:Nat)
 | ins (C dx:Addr) (fs:List (Str×V))
 | own (x:Addr)
 | xd (fs:List (Str×V))
 | met (f x:Addr)
 | rng (lo hi:Int)
 | frz (o:Obj) (u:HO)
 | tbl (ps:Array Value)
 | tbq (q:Nat→Nat→Str)
 | ext (φ:Heap→Prop)
noncomputable abbrev Hp:=Addr→Option HO
noncomputable def CodeO(o:Obj)(q:Str):Prop:=∃ vs t,o.data=.fields vs∧vs[1]?=some (.str q t)
noncomputable def upd(H:Hp)(a:Addr)(o:HO):Hp:=fun b=>if b=a then some o else H b
theorem upd_same{H:Hp}{a:Addr}{o:HO}:upd H a o a=some o:=by unfold upd;rw[if_pos rfl]
theorem upd_ne{H:Hp}{a b:Addr}{o:HO}(h:b≠a):upd H a o b=H b:=by unfold upd;rw[if_neg h]
theorem upd_upd{H:Hp}{a:Addr}{o u:HO}:upd (upd H a o) a u=upd H a u:=by
 funext b;unfold upd;split<;>rfl
theorem ne_of_none{H:Hp}{a b:Addr}{o:HO}(h:H a=some o)(h':H b=none):a≠b:=by
 intro e;subst e;rw[h] at h';cases h'
section
variable(P:Program)(w:World)
noncomputable def ObjOk(H:Hp)(h:Heap)(a:Addr):HO→Prop
 | .lst xs=>xs.length≤sizeLine∧∃ (its:List Value) (n:Nat),Vals xs its∧h.get? a=some { cls:=.type "list",data:=.seq its.toArray n }
 | .tup xs=>xs.length≤sizeLine∧∃ its:List Value,Vals xs its∧IsTup h a its.toArray
 | .dK kvs=>kvs.length≤sizeLine∧(a == sysModules)=false∧∃ vs,KV kvs vs∧h.DictOf (mixKind P w) a vs
 | .dT kvs=>kvs.length≤sizeLine∧(a == sysModules)=false∧∃ xs:List (List Key×Addr×Value),
   Paired (fun (p:List Key×V) (q:List Key×Addr×Value)=>p.1=q.1∧H q.2.1=some (.tup (p.1.map kV))∧RelV p.2 q.2.2) kvs xs ∧
   ∃ o es ep,h.get? a=some o∧o.ExactDict∧o.data=.dict es ep∧es.toList=xs.map (entryOfKey (tupleKind (mixKind P w)))∧(xs.map (·.1)).Nodup
 | .dN kvs=>kvs.length≤sizeLine∧(a == sysModules)=false∧∃ xs:List ((Key×List Key)×Addr×Value),
   Paired (fun (p:(Key×List Key)×V) (q:(Key×List Key)×Addr×Value)=>p.1=q.1∧(∃ b,H q.2.1=some (.tup [kV p.1.1,.ref b])∧H b=some (.tup (p.1.2.map kV)))∧RelV p.2 q.2.2) kvs xs ∧
   ∃ o es ep,h.get? a=some o∧o.ExactDict∧o.data=.dict es ep∧es.toList=xs.map (entryOfKey (pairKind (mixKind P w)))∧(xs.map (·.1)).Nodup
 | .set S n=>h.SetOf (intKind P w) a S n
 | .ins C dx fs=>H dx=some (.own a)∧fs.length≤1000∧dx≠a∧h.get? a=some (PySem.W.instObj C dx) ∧
   ∃ mA,h.Ns1 dx mA∧(∀ f,RelO (fs.lookup f) (mA f))∧PySem.Within mA (fs.map (·.1))
 | .own _=>∃ o,h.get? a=some o
 | .xd fs=>∃ mA,h.Ns1 a mA∧∀ f,RelO (fs.lookup f) (mA f)
 | .rng lo hi=>∃ t u v,h.get? a=some { cls:=.type "range",data:=.fields #[.int lo t,.int hi u,.int 1 v] }
 | .frz o u=>h.get? a=some o∧ObjOk H h a u
 | .tbl ps=>h.get? a=some { cls:=.none,data:=.fields ps }
 | .tbq q=>∃ ps,h.get? a=some { cls:=.none,data:=.fields ps }∧TriplesOk ps.toList∧∀ pos cv,codeAmong pos ps.toList=some cv→∃ c o,cv=.ref c∧H c=some (.frz o (.own a))∧CodeO o (q pos.line pos.col)
 | .met f x=>h.get? a=some (PySem.W.methodObj (.ref f) (.ref x))
 | .ext φ=>φ h∧(∃ o,h.get? a=some o)∧∀ h1 h2:Heap,φ h1→(∀ o,h1.get? a=some o→h2.get? a=some o)→φ h2
noncomputable def HOk(H:Hp)(h:Heap):Prop:=∀ a o,H a=some o→ObjOk P w H h a o
end
section
variable{P:Program}{w:World}{H H':Hp}{h h':Heap}{a:Addr}{o:HO}
theorem ObjOk.lt(x:ObjOk P w H h a o):a<h.objs.size:=by
 cases o with
 | lst xs=>obtain⟨_,_,_,_,e⟩:=x;exact Heap.lt_size e
 | tup xs=>obtain⟨_,_,_,p⟩:=x;exact p.lt
 | dK kvs=>obtain⟨_,_,_,_,o,_,_,e,_⟩:=x;exact Heap.lt_size e
 | dT kvs=>obtain⟨_,_,_,_,o,_,_,e,_⟩:=x;exact Heap.lt_size e
 | dN kvs=>obtain⟨_,_,_,_,o,_,_,e,_⟩:=x;exact Heap.lt_size e
 | set S n=>obtain⟨o,_,_,_,e,_⟩:=x;exact Heap.lt_size e
 | ins C dx fs=>obtain⟨_,_,_,e,_⟩:=x;exact Heap.lt_size e
 | own y=>obtain⟨_,e⟩:=x;exact Heap.lt_size e
 | xd fs=>obtain⟨_,⟨_,_,_,e,_⟩,_⟩:=x;exact Heap.lt_size e
 | rng lo hi=>obtain⟨_,_,_,e⟩:=x;exact Heap.lt_size e
 | frz ob u=>obtain⟨e,_⟩:=x;exact Heap.lt_size e
 | tbl ps=>exact Heap.lt_size (show h.get? a=some _ from x)
 | tbq q=>obtain⟨_,e,_⟩:=x;exact Heap.lt_size e
 | met f y=>exact Heap.lt_size (show h.get? a=some _ from x)
 | ext φ=>obtain⟨_,⟨_,e⟩,_⟩:=x;exact Heap.lt_size e
theorem Paired.mapP{α β:Type}{F G:α→β→Prop}:∀ {l₁:List α} {l₂:List β},Paired F l₁ l₂→(∀ a b,F a b→G a b)→Paired G l₁ l₂
 | _,_,.nil,_=>.nil
 | _,_,.cons r t,f=>.cons (f _ _ r) (Paired.mapP t f)
theorem ObjOk.stay(x:ObjOk P w H h a o)(k:∀ b u,(b=a∨H b=some (.own a))→h.get? b=some u→h'.get? b=some u)
  (ho:∀ b,H b=some (.own a)→H' b=some (.own a)) (ht:∀ b xs,H b=some (.tup xs)→H' b=some (.tup xs))
  (hf:∀ b o,H b=some (.frz o (.own a))→H' b=some (.frz o (.own a)):=by first|exact fun _ _ q=>q|(intro b o q;rw[upd_ne (ne_of_none q (by assumption))];exact q)):ObjOk P w H' h' a o:=by
 induction o with
 | lst xs=>obtain⟨z,its,n,r,e⟩:=x;exact⟨z,its,n,r,k _ _ (.inl rfl) e⟩
 | tup xs=>obtain⟨z,its,r,ob,e,c⟩:=x;exact⟨z,its,r,ob,k _ _ (.inl rfl) e,c⟩
 | dK kvs=>obtain⟨z,y,vs,r,ob,es,ep,e,c⟩:=x;exact⟨z,y,vs,r,ob,es,ep,k _ _ (.inl rfl) e,c⟩
 | dT kvs =>
  obtain⟨z,y,xs,r,ob,es,ep,e,c⟩:=x
  exact⟨z,y,xs,Paired.mapP r fun p q z=>⟨z.1,ht _ _ z.2.1,z.2.2⟩,ob,es,ep,k _ _ (.inl rfl) e,c⟩
 | dN kvs =>
  obtain⟨z,y,xs,r,ob,es,ep,e,c⟩:=x
  exact⟨z,y,xs,Paired.mapP r fun p q z=>⟨z.1,let ⟨b,z1,z2⟩:=z.2.1;⟨b,ht _ _ z1,ht _ _ z2⟩,z.2.2⟩,ob,es,ep,k _ _ (.inl rfl) e,c⟩
 | set S n=>obtain⟨ob,es,ep,t,e,c⟩:=x;exact⟨ob,es,ep,t,k _ _ (.inl rfl) e,c⟩
 | ins C dx fs =>
  obtain⟨d,z,ne,e,mA,⟨od,es,ep,e2,c⟩,r⟩:=x
  exact⟨ho _ d,z,ne,k _ _ (.inl rfl) e,mA,⟨od,es,ep,k _ _ (.inr d) e2,c⟩,r⟩
 | own y=>obtain⟨ob,e⟩:=x;exact⟨ob,k _ _ (.inl rfl) e⟩
 | xd fs=>obtain⟨mA,⟨od,es,ep,e,c⟩,r⟩:=x;exact⟨mA,⟨od,es,ep,k _ _ (.inl rfl) e,c⟩,r⟩
 | rng lo hi=>obtain⟨t,u,v,e⟩:=x;exact⟨t,u,v,k _ _ (.inl rfl) e⟩
 | frz ob u ih=>obtain⟨e,q⟩:=x;exact⟨k _ _ (.inl rfl) e,ih q⟩
 | tbq q =>
  obtain⟨ps,e,t,r⟩:=x
  exact⟨ps,k _ _ (.inl rfl) e,t,fun pos cv z=>let ⟨c,o,e1,e2,e3⟩:=r pos cv z;⟨c,o,e1,hf _ _ e2,e3⟩⟩
 | tbl ps =>
  have e:h.get? a=some { cls:=.none,data:=.fields ps }:=x
  show h'.get? a=some { cls:=.none,data:=.fields ps }
  exact k a _ (.inl rfl) e
 | met f y =>
  have e:h.get? a=some (PySem.W.methodObj (.ref f) (.ref y)):=x
  show h'.get? a=some (PySem.W.methodObj (.ref f) (.ref y))
  exact k a _ (.inl rfl) e
 | ext φ=>obtain⟨p,⟨o,e⟩,st⟩:=x;exact⟨st _ _ p fun o q=>k _ _ (.inl rfl) q,⟨o,k _ _ (.inl rfl) e⟩,st⟩
theorem HOk.lt(x:HOk P w H h)(e:H a=some o):a<h.objs.size:=(x a o e).lt
theorem HOk.fresh(x:HOk P w H h)(e:h.objs.size≤a):H a=none:=by
 cases q:H a with
 | none=>rfl
 | some u=>exact absurd (Nat.lt_of_lt_of_le (x.lt q) e) (Nat.lt_irrefl _)
theorem HOk.kept(x:HOk P w H h)(k:∀ b u,h.get? b=some u→h'.get? b=some u):HOk P w H h':=fun a o e =>
 (x a o e).stay (fun b u _ q=>k b u q) (fun _ q=>q) fun _ _ q=>q
theorem HOk.laid(x:HOk P w H h)(k:∀ b u,h.get? b=some u→h'.get? b=some u)(hp:h.objs.size≤a)(new:ObjOk P w (upd H a o) h' a o):HOk P w (upd H a o) h':=fun b u e=>by
 have hn:=x.fresh hp
 by_cases hb:b=a
 ·subst hb;rw[upd_same] at e;cases e;exact new
 ·rw[upd_ne hb] at e
  exact (x b u e).stay (fun c v _ q=>k c v q) (fun c q=>by rw[upd_ne (ne_of_none q hn)];exact q) fun c xs q=>by rw[upd_ne (ne_of_none q hn)];exact q
end
noncomputable def Rd(H:Hp)(a:Addr)(u:HO):Prop:=H a=some u∨∃ o,H a=some (.frz o u)
theorem Rd.ok{P:Program}{w:World}{H:Hp}{h:Heap}{a:Addr}{u:HO}(r:Rd H a u)(x:HOk P w H h):ObjOk P w H h a u:=by
 rcases r with r|⟨o,r⟩
 ·exact x a u r
 ·obtain⟨_,q⟩:=x a _ r
  exact q
noncomputable def Mut:Option HO→Prop
 | some (.lst _)=>True
 | some (.dK _)=>True
 | some (.dT _)=>True
 | some (.dN _)=>True
 | some (.set _ _)=>True
 | some (.ins _ _ _)=>True
 | some (.ext _)=>True
 | _=>False
section
variable{P:Program}{w:World}{H:Hp}{h h':Heap}{x e:Addr}{o':HO}
theorem HOk.write(ok:HOk P w H h)(mu:Mut (H x))(he:e=x∨H e=some (.own x))(k:∀ b u,b≠e→h.get? b=some u→h'.get? b=some u)(heo:∃ u,h'.get? e=some u)
  (new:ObjOk P w (upd H x o') h' x o'):HOk P w (upd H x o') h':=fun b u q=>by
 have nown:∀ c y,H c=some (.own y)→c≠x:=fun c y r z=>by subst z;rw[r] at mu;exact mu
 have ntup:∀ c xs,H c=some (.tup xs)→c≠x:=fun c xs r z=>by subst z;rw[r] at mu;exact mu
 by_cases hb:b=x
 ·subst hb;rw[upd_same] at q;cases q;exact new
 ·rw[upd_ne hb] at q
  by_cases hbe:b=e
  ·have q':H b=some (.own x):=by
    rcases he with z|z
    ·exact absurd (hbe.trans z) hb
    ·rw[hbe];exact z
   rw[q] at q';cases q'
   obtain⟨v,hv⟩:=heo
   exact⟨v,by rw[hbe];exact hv⟩
  ·refine (ok b u q).stay (fun c v hc r=>k c v ?_ r) (fun c r=>by rw[upd_ne (nown c b r)];exact r) (fun c xs r=>by rw[upd_ne (ntup c xs r)];exact r) (fun c o r=>by rw[upd_ne (fun z=>by subst z;rw[r] at mu;exact mu)];exact r)
   rcases hc with rfl|hc
   ·exact hbe
   ·rintro rfl
    rcases he with z|z
    ·exact nown c b hc z
    ·rw[hc] at z;cases z;exact hb rfl
end
structure Un(fs ex:List Addr)(H H':Hp)(h h':Heap):Prop where
 keep:∀ b o,h.get? b=some o→H b=none→b∉fs→b∉ex→h'.get? b=some o
 slot:∀ b o,h.get? b=some o→H b=none→b∈fs→b∉ex→∃ sl,h'.get? b=some { o with slots:=sl }
 free:∀ b o,h.get? b=some o→H b=none→b∉ex→H' b=none
 there:∀ b o,h.get? b=some o→b∉ex→∃ o',h'.get? b=some o'
 tups:∀ b xs,H b=some (.tup xs)→H' b=some (.tup xs)
 frzs:∀ b o u,H b=some (.frz o u)→H' b=some (.frz o u)
 tbls:∀ b ps,H b=some (.tbl ps)→∃ more,H' b=some (.tbl (ps++more))
section
variable{fs fs' ex ex':List Addr}{H H1 H2:Hp}{h h1 h2 h':Heap}{a x e:Addr}{o:HO}
theorem Un.any(u:Un fs ex H H1 h h1){b:Addr}{ob:Obj}(q:h.get? b=some ob)(n:H b=none)(hx:b∉ex):∃ sl,h1.get? b=some { ob with slots:=sl }:=by
 by_cases hb:b∈fs
 ·exact u.slot b ob q n hb hx
 ·exact⟨ob.slots,u.keep b ob q n hb hx⟩
theorem Un.kept(k:∀ b u,h.get? b=some u→h'.get? b=some u):Un fs ex H H h h' :=
 ⟨fun b ob q _ _ _=>k b ob q,fun b ob q _ _ _=>⟨ob.slots,k b ob q⟩,fun _ _ _ n _=>n,fun b ob q _=>⟨ob,k b ob q⟩,fun _ _ q=>q,fun _ _ _ q=>q,fun _ ps q=>⟨#[],by rw[q];simp⟩⟩
theorem Un.refl:Un fs ex H H h h:=Un.kept fun _ _ q=>q
theorem Un.laid(k:∀ b u,h.get? b=some u→h'.get? b=some u)(hp:h.objs.size≤a)(hn:H a=none):Un fs ex H (upd H a o) h h' where
 keep:=fun b u q _ _ _=>k b u q
 slot:=fun b u q _ _ _=>⟨u.slots,k b u q⟩
 free:=fun b u q n _=>by rw[upd_ne (Nat.ne_of_lt (Nat.lt_of_lt_of_le (Heap.lt_size q) hp))];exact n
 there:=fun b u q _=>⟨u,k b u q⟩
 tups:=fun b xs q=>by rw[upd_ne (ne_of_none q hn)];exact q
 frzs:=fun b u xs q=>by rw[upd_ne (ne_of_none q hn)];exact q
 tbls:=fun b ps q=>⟨#[],by rw[upd_ne (ne_of_none q hn),q];simp⟩
theorem Un.write(mu:Mut (H x))(he:e=x∨H e=some (.own x))(k:∀ b u,b≠e→h.get? b=some u→h'.get? b=some u)(heo:∃ u,h'.get? e=some u):Un fs ex H (upd H x o) h h':=by
 have hx:∀ b,H b=none→b≠x:=fun b n z=>by subst z;rw[n] at mu;exact mu
 have hb:∀ b,H b=none→b≠e:=fun b n z=>by
  subst z
  rcases he with r|r
  ·exact hx b n r
  ·rw[n] at r;cases r
 have hm:∀ b u,H b=some u→¬ Mut (some u)→b≠x:=fun b u q nm z=>by subst z;rw[q] at mu;exact nm mu
 refine⟨fun b u q n _ _=>k b u (hb b n) q,fun b u q n _ _=>⟨u.slots,k b u (hb b n) q⟩,fun b u q n _=>by rw[upd_ne (hx b n)];exact n,fun b u q _=>?_,
  fun b xs q=>by rw[upd_ne (hm b _ q fun z=>z)];exact q,fun b u xs q=>by rw[upd_ne (hm b _ q fun z=>z)];exact q,fun b ps q=>⟨#[],by rw[upd_ne (hm b _ q fun z=>z),q];simp⟩⟩
 by_cases hbe:b=e
 ·subst hbe;exact heo
 ·exact⟨u,k b u hbe q⟩
end
noncomputable def trk(h:Heap)(H:Hp):List Addr:=(List.range h.objs.size).filter fun a=>(H a).isSome
noncomputable def hidT(h:Heap)(H:Hp):Heap:=PySem.W.hideAll h (trk h H)
theorem hidT_size(h:Heap)(H:Hp):(hidT h H).objs.size=h.objs.size:=PySem.W.hideAll_size _ _
theorem hidT_get{h:Heap}{H:Hp}{b:Addr}{o:Obj}(e:h.get? b=some o)(n:H b=none):(hidT h H).get? b=some o :=
 PySem.W.hideAll_get _ e fun hm=>by
  have q:(H b).isSome=true:=(List.mem_filter.mp hm).2
  rw[n] at q;simp at q
theorem of_hidT{h:Heap}{H:Hp}{b:Addr}{o:Obj}(e:(hidT h H).get? b=some o):h.get? b=some o∧H b=none:=by
 have e':h.get? b=some o:=PySem.W.of_hideAll (trk h H) e
 refine⟨e',?_⟩
 cases q:H b with
 | none=>rfl
 | some x =>
  have hm:b∈trk h H:=List.mem_filter.mpr ⟨List.mem_range.mpr (Heap.lt_size e'),by simp[q]⟩
  have z:(hidT h H).get? b=none:=PySem.W.hideAll_none (trk h H) hm
  rw[z] at e;cases e
end L2
namespace L2
open PySem PySem.Spec PyProof.Rows
structure Mod(K:W.Frag)(mg:Str→Option Value)(base:Heap):Prop where
 kin:K.In base
 glob:base.Ns mainGlobals mg
 blt:∃ mb,base.Ns builtinsNs mb∧∀ x:Str,x ≠ "__name__" → mb x=bootBuiltins x
 nolimit:base.NoLimit
structure Cx where
 prog:Program
 w:World
 K:W.Frag
 mg:Str→Option Value
 base:Heap
 A:Around
 N:List Str
 s₀:Shared
 H₀:Hp
 env:Env
 outer:List Env
 stack:List Env
 ex:List Addr
 fn:Str→Bool
 calm:Bool
 pn:List (Addr×Obj)
 xe:Value→Shared→Prop
noncomputable def frs(l:List Env):List Addr:=l.filterMap (·.frame)
noncomputable abbrev Cx.fs(X:Cx):List Addr:=frs X.outer
noncomputable def Vis(sc:Scope)(x:Str):Prop:=sc.names.lookup x=some .local∨sc.names.lookup x=some .cell∨sc.names.lookup x=some .free
noncomputable def Loc(sc:Scope)(x:Str):Prop:=sc.names.lookup x=some .local∨sc.names.lookup x=some .cell
noncomputable def Look(env:Env)(h:Heap)(m:Str→Option Value)(x:Str)(u:Value):Prop :=
 (env.kindOf x=some .local∧m x=some u)∨((env.kindOf x=some .cell∨env.kindOf x=some .free)∧∃ c,env.cells.lookup x=some c∧h.IsCell c (some u))
structure Cx.Ok(X:Cx):Prop where
 mod:Mod X.K X.mg X.base
 kind:X.env.scope.kind=.function
 glob:X.env.globals=mainGlobals
 blt:X.env.builtins=builtinsNs
 above:X.s₀.heap.objs.size≤X.env.locals
 inj:∀ x y c,X.env.cells.lookup x=some c→X.env.cells.lookup y=some c→x=y
 has:∀ x,(X.env.kindOf x=some .cell∨X.env.kindOf x=some .free)→∃ c,X.env.cells.lookup x=some c
 cab:∀ x c,X.fn x=true→X.env.cells.lookup x=some c→X.s₀.heap.objs.size≤c
 hd:X.calm=true→X.A.handled=none
 frames:X.A.frames=some X.stack
 stk:X.stack=X.outer∨(X.stack=X.env::X.outer∧X.env.frame=some X.env.locals)
 exf:∀ b∈X.ex,b≠X.env.locals∧∀ x c,X.env.cells.lookup x=some c→c≠b
 bs:∀ b o,X.base.get? b=some o→X.s₀.heap.get? b=some o∧X.H₀ b=none
 bsz:X.base.objs.size≤X.s₀.heap.objs.size
 noex:∀ b o,X.base.get? b=some o→b∉X.ex
 exfs:∀ b∈X.ex,b∉X.fs
 funs:X.s₀.heap.FunFrames X.base X.outer
 frf:∀ b∈X.fs,X.H₀ b=none
structure Inv(X:Cx)(pins:List (Addr×Obj))(σ:List (Option V))(H:Hp)(s:Shared):Prop where
 ok:X.Ok
 os:s.os=X.s₀.os
 bare:AllBare s.gens
 base:Un X.fs X.ex X.H₀ H X.s₀.heap s.heap
 loc:∃ m,s.heap.Ns X.env.locals m∧∀ (i:Nat) (x:Str) (v:V),X.N[i]?=some x→σ[i]?=some (some v)→Vis X.env.scope x→∃ u,RelV v u∧Look X.env s.heap m x u
 cell:∀ x c,X.env.cells.lookup x=some c→∃ v,s.heap.IsCell c v
 free:H X.env.locals=none
 freeC:∀ x c,X.env.cells.lookup x=some c→H c=none
 pin:∀ p∈X.pn++pins,s.heap.get? p.1=some p.2∧H p.1=none∧p.1≠X.env.locals∧p.1∉X.fs∧∀ v,p.2.data≠.cell v
 hok:HOk X.prog X.w H s.heap
 len:σ.length=X.N.length
section
variable{X:Cx}{pins:List (Addr×Obj)}{σ:List (Option V)}{H H':Hp}{s:Shared}{h':Heap}
theorem Cx.Ok.nofr(ok:X.Ok){b:Addr}{o:Obj}(e:X.base.get? b=some o):b∉X.fs:=fun hb=>by
 have:=(ok.funs.mem hb).1
 rw[e] at this;cases this
theorem Inv.bs(I:Inv X pins σ H s):∀ b o,X.base.get? b=some o→s.heap.get? b=some o∧H b=none:=fun b o e =>
 ⟨I.base.keep b o (I.ok.bs b o e).1 (I.ok.bs b o e).2 (I.ok.nofr e) (I.ok.noex b o e),I.base.free b o (I.ok.bs b o e).1 (I.ok.bs b o e).2 (I.ok.noex b o e)⟩
theorem Inv.bk(I:Inv X pins σ H s):∀ b o,X.base.get? b=some o→s.heap.get? b=some o:=fun b o e=>(I.bs b o e).1
theorem Inv.mod(I:Inv X pins σ H s):Mod X.K X.mg X.base:=I.ok.mod
theorem Inv.kIn(I:Inv X pins σ H s):X.K.In s.heap:=I.ok.mod.kin.keeps I.bk
theorem Inv.lt(I:Inv X pins σ H s):X.env.locals<s.heap.objs.size:=let ⟨_,hn,_⟩:=I.loc;hn.lt
theorem Inv.sz(I:Inv X pins σ H s):X.s₀.heap.objs.size≤s.heap.objs.size:=Nat.le_trans I.ok.above (Nat.le_of_lt I.lt)
theorem Inv.nofs(I:Inv X pins σ H s){a:Addr}(h:s.heap.objs.size≤a):a∉X.fs:=fun hb=>by
 obtain⟨_,o,ho,_⟩:=I.ok.funs.mem hb
 exact absurd (Nat.lt_of_lt_of_le (Heap.lt_size ho) (Nat.le_trans I.sz h)) (Nat.lt_irrefl _)
theorem Inv.cne(I:Inv X pins σ H s):∀ x c,X.env.cells.lookup x=some c→c≠X.env.locals:=fun x c e z=>by
 obtain⟨v,o,ho,hd⟩:=I.cell x c e
 obtain⟨m,⟨o',es,ep,ho',hd',_⟩,_⟩:=I.loc
 rw[z,ho'] at ho;cases ho;rw[hd'] at hd;cases hd
theorem Inv.funs(I:Inv X pins σ H s):s.heap.FunFrames X.base X.outer:=by
 have all:∀ (l:List Env),(∀ b∈frs l,b∈X.fs)→X.s₀.heap.FunFrames X.base l→s.heap.FunFrames X.base l:=by
  intro l
  induction l with
  | nil=>intro _ _;trivial
  | cons env r ih =>
   intro hs hl
   obtain⟨hk,⟨L,o,hf,hn,ho,hd⟩,hr⟩:=hl
   have hL:L∈X.fs:=hs L (by unfold frs;rw[List.filterMap_cons,hf];exact List.mem_cons_self)
   obtain⟨sl,e⟩:=I.base.slot L o ho (I.ok.frf L hL) hL fun z=>I.ok.exfs L z hL
   exact⟨hk,⟨L,_,hf,hn,e,hd⟩,ih (fun b hb=>hs b (by unfold frs;rw[List.filterMap_cons,hf];exact List.mem_cons_of_mem _ hb)) hr⟩
 exact all X.outer (fun _ hb=>hb) I.ok.funs
theorem Inv.stack(I:Inv X pins σ H s):s.heap.FunFrames X.base X.stack:=by
 rcases I.ok.stk with e|⟨e,hf⟩
 ·rw[e];exact I.funs
 ·rw[e]
  obtain⟨m,hn,_⟩:=I.loc
  refine .cons (by rw[I.ok.kind];decide) hf hn ?_ I.funs
  exact Heap.get?_none_of_le (Nat.le_trans I.ok.bsz I.ok.above)
theorem Inv.stkSub(I:Inv X pins σ H s):∀ b∈frs X.stack,b∈X.env.locals::X.fs:=fun b hb=>by
 rcases I.ok.stk with e|⟨e,hf⟩
 ·rw[e] at hb;exact List.mem_cons_of_mem _ hb
 ·rw[e] at hb
  unfold frs at hb
  rw[List.filterMap_cons,hf] at hb
  exact hb
theorem Inv.stkFree(I:Inv X pins σ H s):∀ b∈frs X.stack,H b=none:=fun b hb=>by
 rcases List.mem_cons.mp (I.stkSub b hb) with e|hb
 ·rw[e];exact I.free
 ·obtain⟨_,o,ho,_⟩:=I.ok.funs.mem hb
  exact I.base.free b o ho (I.ok.frf b hb) fun z=>I.ok.exfs b z hb
theorem Inv.step{g':Array GenState}{t':Nat}{d':Drawn}{ch:List Addr}(I:Inv X pins σ H s)
  (hch:∀ b∈ch,(b∈X.ex∨X.s₀.heap.objs.size≤b)∧b≠X.env.locals∧(∀ x c,X.env.cells.lookup x=some c→c≠b)∧∀ p∈X.pn++pins,p.1≠b)
  (keep:∀ b o,b≠X.env.locals→b∉X.fs→b∉ch→s.heap.get? b=some o→H b=none→h'.get? b=some o)
  (slot:∀ b o,b≠X.env.locals→b∈X.fs→b∉ch→s.heap.get? b=some o→H b=none→∃ sl,h'.get? b=some { o with slots:=sl }) (free:∀ b o,b∉ch→s.heap.get? b=some o→H b=none→H' b=none)
  (there:∀ b o,b∉ch→s.heap.get? b=some o→∃ o',h'.get? b=some o')
  (tups:∀ b xs,H b=some (.tup xs)→H' b=some (.tup xs)) (frzs:∀ b o u,H b=some (.frz o u)→H' b=some (.frz o u)) (tbls:∀ b ps,H b=some (.tbl ps)→∃ more,H' b=some (.tbl (ps++more)))
  (ns:∀ m,s.heap.Ns X.env.locals m→h'.Ns X.env.locals m) (hok:HOk X.prog X.w H' h') (hg:AllBare g') :
  Inv X pins σ H' { s with heap:=h',gens:=g',drawn:=d',toks:=t' }:=by
 have neL:∀ b o,X.s₀.heap.get? b=some o→b≠X.env.locals:=fun b o e=>Nat.ne_of_lt (Nat.lt_of_lt_of_le (Heap.lt_size e) I.ok.above)
 have neC:∀ b o,X.s₀.heap.get? b=some o→b∉X.ex→b∉ch:=fun b o e hx hb=>by
  rcases (hch b hb).1 with z|z
  ·exact hx z
  ·exact absurd (Nat.lt_of_lt_of_le (Heap.lt_size e) z) (Nat.lt_irrefl _)
 have cellK:∀ x c,X.env.cells.lookup x=some c→∀ v,s.heap.IsCell c v→h'.IsCell c v:=fun x c e v ⟨o,ho,hd⟩=>by
  have nch:c∉ch:=fun z=>(hch c z).2.2.1 x c e rfl
  by_cases hc:c∈X.fs
  ·obtain⟨sl,q⟩:=slot c o (I.cne x c e) hc nch ho (I.freeC x c e)
   exact⟨_,q,hd⟩
  ·exact⟨o,keep c o (I.cne x c e) hc nch ho (I.freeC x c e),hd⟩
 refine⟨I.ok,I.os,hg,⟨fun b o e n hb hx=>?_,fun b o e n hb hx=>?_,fun b o e n hx=>?_,fun b o e hx=>?_,fun b xs e=>tups b xs (I.base.tups b xs e),fun b o xs e=>frzs b o xs (I.base.frzs b o xs e),fun b ps e=>?_⟩,?_,fun x c e=>?_,?_,fun x c e=>?_,fun p hp=>?_,hok,I.len⟩
 ·exact keep b o (neL b o e) hb (neC b o e hx) (I.base.keep b o e n hb hx) (I.base.free b o e n hx)
 ·obtain⟨sl,e1⟩:=I.base.slot b o e n hb hx
  obtain⟨sl',e2⟩:=slot b _ (neL b o e) hb (neC b o e hx) e1 (I.base.free b o e n hx)
  exact⟨sl',e2⟩
 ·obtain⟨o',e1⟩:=I.base.there b o e hx
  exact free b o' (neC b o e hx) e1 (I.base.free b o e n hx)
 ·obtain⟨o',e1⟩:=I.base.there b o e hx
  exact there b o' (neC b o e hx) e1
 ·obtain⟨m1,e1⟩:=I.base.tbls b ps e
  obtain⟨m2,e2⟩:=tbls b _ e1
  exact⟨m1++m2,by rw[e2,Array.append_assoc]⟩
 ·obtain⟨m,hn,hl⟩:=I.loc
  refine⟨m,ns m hn,fun i x v e1 e2 e3=>?_⟩
  obtain⟨u,r,l⟩:=hl i x v e1 e2 e3
  refine⟨u,r,?_⟩
  rcases l with l|⟨k,c,e,z⟩
  ·exact .inl l
  ·exact .inr ⟨k,c,e,cellK x c e _ z⟩
 ·obtain⟨v,z⟩:=I.cell x c e
  exact⟨v,cellK x c e v z⟩
 ·obtain⟨m,⟨o,_,_,ho,_⟩,_⟩:=I.loc
  exact free _ o (fun z=>(hch _ z).2.1 rfl) ho I.free
 ·obtain⟨v,o,ho,hd⟩:=I.cell x c e
  exact free c o (fun z=>(hch c z).2.2.1 x c e rfl) ho (I.freeC x c e)
 ·obtain⟨e,n,ne,nf,d⟩:=I.pin p hp
  have nch:p.1∉ch:=fun z=>(hch p.1 z).2.2.2 p hp rfl
  exact⟨keep p.1 p.2 ne nf nch e n,free p.1 p.2 nch e n,ne,nf,d⟩
theorem Inv.un{t':Nat}(I:Inv X pins σ H s)(u:Un X.fs [] H H' s.heap h')(hok:HOk X.prog X.w H' h'):Inv X pins σ H' { s with heap:=h',toks:=t' }:=by
 obtain⟨m,⟨o,es,ep,ho,r⟩,_⟩:=id I.loc
 obtain⟨sl,hL⟩:=u.any ho I.free (by simp)
 exact I.step (g':=s.gens) (d':=s.drawn) (ch:=[]) (fun _ z=>nomatch z) (fun b o _ hb _ e n=>u.keep b o e n hb (by simp)) (fun b o _ hb _ e n=>u.slot b o e n hb (by simp)) (fun b o _ e n=>u.free b o e n (by simp)) (fun b o _ e=>u.there b o e (by simp)) u.tups u.frzs u.tbls (fun m' hm=>by
  obtain⟨o',es',ep',ho',r'⟩:=hm
  rw[ho] at ho';cases ho'
  exact⟨_,es',ep',hL,r'⟩) hok I.bare
theorem Inv.call{g':Array GenState}{t':Nat}{d':Drawn}{ch:List Addr}(I:Inv X pins σ H s)(u:Un (frs X.stack) ch H H' s.heap h')(hok:HOk X.prog X.w H' h')(hg:AllBare g')
  (hch:∀ b∈ch,(b∈X.ex∨X.s₀.heap.objs.size≤b)∧b≠X.env.locals∧(∀ x c,X.env.cells.lookup x=some c→c≠b)∧∀ p∈X.pn++pins,p.1≠b) :
  Inv X pins σ H' { s with heap:=h',gens:=g',drawn:=d',toks:=t' }:=by
 obtain⟨m,⟨o,es,ep,ho,r⟩,_⟩:=id I.loc
 obtain⟨sl,hL⟩:=u.any ho I.free fun z=>(hch _ z).2.1 rfl
 exact I.step (ch:=ch) hch (fun b o hL hb hc e n=>u.keep b o e n (fun z=>(List.mem_cons.mp (I.stkSub b z)).elim hL hb) hc) (fun b o _ _ hc e n=>u.any e n hc) (fun b o hc e n=>u.free b o e n hc) (fun b o hc e=>u.there b o e hc) u.tups u.frzs u.tbls (fun m' hm=>by
  obtain⟨o',es',ep',ho',r'⟩:=hm
  rw[ho] at ho';cases ho'
  exact⟨_,es',ep',hL,r'⟩) hok hg
theorem Inv.turned{t':Nat}{it:Addr}(I:Inv X pins σ H s)(k:∀ b o,b≠it→s.heap.get? b=some o→h'.get? b=some o)(hn:H it=none)(hL:it≠X.env.locals)
  (h1:it∈X.ex∨X.s₀.heap.objs.size≤it) (h2:∀ x c,X.env.cells.lookup x=some c→c≠it) (h3:∀ p∈X.pn++pins,p.1≠it):Inv X pins σ H { s with heap:=h',toks:=t' }:=by
 have nit:∀ b u,H b=some u→b≠it:=fun b u e z=>by rw[z,hn] at e;cases e
 refine I.step (g':=s.gens) (d':=s.drawn) (ch:=[it]) (fun b hb=>?_) (fun b o _ _ hc e _=>k b o (fun z=>hc (by simp[z])) e) (fun b o _ _ hc e _=>⟨o.slots,k b o (fun z=>hc (by simp[z])) e⟩) (fun _ _ _ _ n=>n)
  (fun b o hc e=>⟨o,k b o (fun z=>hc (by simp[z])) e⟩) (fun _ _ e=>e) (fun _ _ _ e=>e) (fun b ps e=>⟨#[],by rw[e];simp⟩) (fun m hm=>?_) (fun b u e=>?_) I.bare
 ·have e:b=it:=by simpa using hb
  subst e
  exact⟨h1,hL,h2,h3⟩
 ·obtain⟨o,es,ep,ho,r⟩:=hm
  exact⟨o,es,ep,k _ o (Ne.symm hL) ho,r⟩
 ·refine (I.hok b u e).stay (fun c v hc q=>k c v ?_ q) (fun _ q=>q) fun _ _ q=>q
  rcases hc with z|z
  ·rw[z];exact nit b u e
  ·exact nit c _ z
theorem Inv.tok(I:Inv X pins σ H s)(t:Nat):Inv X pins σ H { s with toks:=t }:=I.un (h':=s.heap) (t':=t) Un.refl I.hok
theorem Inv.kept{t':Nat}(I:Inv X pins σ H s)(k:∀ b u,s.heap.get? b=some u→h'.get? b=some u):Inv X pins σ H { s with heap:=h',toks:=t' }:=I.un (Un.kept k) (I.hok.kept k)
theorem Inv.laid{a:Addr}{o:HO}{t':Nat}(I:Inv X pins σ H s)(k:∀ b u,s.heap.get? b=some u→h'.get? b=some u)(hp:s.heap.objs.size≤a)(new:ObjOk X.prog X.w (upd H a o) h' a o) :
  Inv X pins σ (upd H a o) { s with heap:=h',toks:=t' }:=I.un (Un.laid k hp (I.hok.fresh hp)) (I.hok.laid k hp new)
theorem Inv.write{x e:Addr}{o:HO}{t':Nat}(I:Inv X pins σ H s)(mu:Mut (H x))(he:e=x∨H e=some (.own x))(k:∀ b u,b≠e→s.heap.get? b=some u→h'.get? b=some u)(heo:∃ u,h'.get? e=some u)
  (new:ObjOk X.prog X.w (upd H x o) h' x o):Inv X pins σ (upd H x o) { s with heap:=h',toks:=t' }:=I.un (Un.write mu he k heo) (I.hok.write mu he k heo new)
theorem Inv.pins_of{pins':List (Addr×Obj)}(I:Inv X pins σ H s)(h:∀ p∈pins',s.heap.get? p.1=some p.2∧H p.1=none∧p.1≠X.env.locals∧p.1∉X.fs∧∀ v,p.2.data≠.cell v):Inv X pins' σ H s :=
 ⟨I.ok,I.os,I.bare,I.base,I.loc,I.cell,I.free,I.freeC,fun p hp=>(List.mem_append.mp hp).elim (fun z=>I.pin p (List.mem_append_left _ z)) (h p),I.hok,I.len⟩
theorem nodup_ix{N:List Str}(hN:N.Nodup){i j:Nat}{x:Str}(a:N[i]?=some x)(b:N[j]?=some x):i=j:=by
 obtain⟨h1,e1⟩:=List.getElem?_eq_some_iff.mp a
 obtain⟨h2,e2⟩:=List.getElem?_eq_some_iff.mp b
 exact (List.getElem_inj hN).mp (e1.trans e2.symm)
theorem store_ok2{M:Model}{A:Around}{E:Value→Shared→Prop}{i:Nat}{x:Str}{v:V}{u:Value}{Q:Unit→Shared→Prop}(I:Inv X pins σ H s)(hN:X.N.Nodup)(hi:X.N[i]?=some x)(hx:Loc X.env.scope x)(r:RelV v u)
  (h:∀ s',Inv X pins (σ.set i (some v)) H s'→(∃ a,Heap.SameBut a s.heap s'.heap∧(a=X.env.locals∨X.env.cells.lookup x=some a))→Q () s') (hf:X.fn x=true∨X.env.scope.names.lookup x=some .local:=by first|exact .inl rfl|exact .inr rfl|assumption):wpAny M A (storeName X.env x u) Q E s:=by
 obtain⟨m,hn,hl⟩:=id I.loc
 have hcls:(X.env.scope.kind == .class || (X.env.scope.kind == .module && X.env.locals != X.env.globals))=false:=by rw[I.ok.kind];rfl
 have hiσ:i<σ.length:=by rw[I.len];exact (List.getElem?_eq_some_iff.mp hi).1
 have cne:=I.cne
 have tracked:∀ {a:Addr} {h':Heap},(∃ o,s.heap.get? a=some o∧H a=none)→Heap.SameBut a s.heap h'→HOk X.prog X.w H h':=fun {a h'} ha hs b ob e=>by
  obtain⟨_,_,hfree⟩:=ha
  refine (I.hok b ob e).stay (fun c w' hc q=>(hs.2 c ?_).trans q) (fun _ q=>q) fun _ _ q=>q
  rintro rfl
  rcases hc with rfl|hc
  ·rw[hfree] at e;cases e
  ·rw[hfree] at hc;cases hc
 rcases hx with hk|hk
 ·refine wpAny_storeName_local hk hn (fun h' hn' hs=>?_) hcls
  obtain⟨oL,_,_,hoL,_⟩:=id hn
  refine h _ ⟨I.ok,I.os,I.bare,⟨fun b o e n hb hx=>?_,fun b o e n hb hx=>?_,I.base.free,fun b o e hx=>?_,I.base.tups,I.base.frzs,I.base.tbls⟩,⟨_,hn',fun j y v' e1 e2 e3=>?_⟩,fun y c e=>?_,I.free,I.freeC,fun p hp=>?_,tracked ⟨oL,hoL,I.free⟩ hs,by simpa using I.len⟩ ⟨_,hs,.inl rfl⟩
  ·exact (hs.2 b (Nat.ne_of_lt (Nat.lt_of_lt_of_le (Heap.lt_size e) I.ok.above))).trans (I.base.keep b o e n hb hx)
  ·obtain⟨sl,e1⟩:=I.base.slot b o e n hb hx
   exact⟨sl,(hs.2 b (Nat.ne_of_lt (Nat.lt_of_lt_of_le (Heap.lt_size e) I.ok.above))).trans e1⟩
  ·obtain⟨o',e1⟩:=I.base.there b o e hx
   exact⟨o',(hs.2 b (Nat.ne_of_lt (Nat.lt_of_lt_of_le (Heap.lt_size e) I.ok.above))).trans e1⟩
  ·by_cases hj:j=i
   ·subst hj
    rw[hi] at e1;cases e1
    rw[List.getElem?_set_self hiσ] at e2
    cases e2
    exact⟨u,r,.inl ⟨hk,by simp⟩⟩
   ·rw[List.getElem?_set_ne (Ne.symm hj)] at e2
    obtain⟨u',r',q⟩:=hl j y v' e1 e2 e3
    refine⟨u',r',?_⟩
    rcases q with⟨k,e⟩|⟨k,c,e,z⟩
    ·refine .inl ⟨k,?_⟩
     have:y≠x:=fun e=>hj (nodup_ix hN e1 (e▸hi))
     simp[this,e]
    ·exact .inr ⟨k,c,e,z.sameBut hs (cne y c e)⟩
  ·obtain⟨w',z⟩:=I.cell y c e
   exact⟨w',z.sameBut hs (cne y c e)⟩
  ·obtain⟨e,n,ne,nf,d⟩:=I.pin p hp
   exact⟨(hs.2 p.1 ne).trans e,n,ne,nf,d⟩
 ·have hfn:X.fn x=true:=by
   rcases hf with z|z
   ·exact z
   ·rw[z] at hk;cases hk
  obtain⟨c,hc⟩:=I.ok.has x (.inl hk)
  obtain⟨w',z⟩:=I.cell x c hc
  refine wpAny_storeName_cell I.ok.kind hk hc z (fun h' hc' hs=>?_)
  obtain⟨oc,hoc,hocd⟩:=id z
  refine h { s with heap:=h' } ⟨I.ok,I.os,I.bare,⟨fun b o e n hb hx=>?_,fun b o e n hb hx=>?_,I.base.free,fun b o e hx=>?_,I.base.tups,I.base.frzs,I.base.tbls⟩,⟨m,hn.sameBut hs (Ne.symm (cne x c hc)),fun j y v' e1 e2 e3=>?_⟩,fun y c' e=>?_,I.free,I.freeC,fun p hp=>?_,tracked ⟨oc,hoc,I.freeC x c hc⟩ hs,by simpa using I.len⟩ ⟨c,hs,.inr hc⟩
  ·exact (hs.2 b (Nat.ne_of_lt (Nat.lt_of_lt_of_le (Heap.lt_size e) (I.ok.cab x c hfn hc)))).trans (I.base.keep b o e n hb hx)
  ·obtain⟨sl,e1⟩:=I.base.slot b o e n hb hx
   exact⟨sl,(hs.2 b (Nat.ne_of_lt (Nat.lt_of_lt_of_le (Heap.lt_size e) (I.ok.cab x c hfn hc)))).trans e1⟩
  ·obtain⟨o',e1⟩:=I.base.there b o e hx
   exact⟨o',(hs.2 b (Nat.ne_of_lt (Nat.lt_of_lt_of_le (Heap.lt_size e) (I.ok.cab x c hfn hc)))).trans e1⟩
  ·by_cases hj:j=i
   ·subst hj
    rw[hi] at e1;cases e1
    rw[List.getElem?_set_self hiσ] at e2
    cases e2
    exact⟨u,r,.inr ⟨.inl hk,c,hc,hc'⟩⟩
   ·rw[List.getElem?_set_ne (Ne.symm hj)] at e2
    obtain⟨u',r',q⟩:=hl j y v' e1 e2 e3
    refine⟨u',r',?_⟩
    rcases q with q|⟨k,c',e,z'⟩
    ·exact .inl q
    ·refine .inr ⟨k,c',e,z'.sameBut hs ?_⟩
     rintro rfl
     exact hj (nodup_ix hN e1 (I.ok.inj _ _ _ e hc▸hi))
  ·by_cases hcc:c'=c
   ·subst hcc;exact⟨_,hc'⟩
   ·obtain⟨w2,z2⟩:=I.cell y c' e
    exact⟨w2,z2.sameBut hs hcc⟩
  ·obtain⟨e,n,ne,nf,d⟩:=I.pin p hp
   refine⟨(hs.2 p.1 ?_).trans e,n,ne,nf,d⟩
   intro q
   rw[q,hoc] at e
   have q':oc=p.2:=Option.some.inj e
   exact d w' (by rw[← q'];exact hocd)
theorem store_ok{M:Model}{A:Around}{E:Value→Shared→Prop}{i:Nat}{x:Str}{v:V}{u:Value}{Q:Unit→Shared→Prop}(I:Inv X pins σ H s)(hN:X.N.Nodup)(hi:X.N[i]?=some x)(hx:Loc X.env.scope x)(r:RelV v u)
  (h:∀ s',Inv X pins (σ.set i (some v)) H s'→Q () s') (hf:X.fn x=true∨X.env.scope.names.lookup x=some .local:=by first|exact .inl rfl|exact .inr rfl|assumption):wpAny M A (storeName X.env x u) Q E s :=
 store_ok2 I hN hi hx r (fun s' I' _=>h s' I') hf
theorem Inv.call'{s':Shared}{ch:List Addr}(I:Inv X pins σ H s)(ho:s'.os=s.os)(u:Un (frs X.stack) ch H H' s.heap s'.heap)(hok:HOk X.prog X.w H' s'.heap)(hg:AllBare s'.gens)
  (hch:∀ b∈ch,(b∈X.ex∨X.s₀.heap.objs.size≤b)∧b≠X.env.locals∧(∀ x c,X.env.cells.lookup x=some c→c≠b)∧∀ p∈X.pn++pins,p.1≠b):Inv X pins σ H' s':=by
 obtain⟨h',g',d',t',o'⟩:=s'
 have e:o'=s.os:=ho
 subst e
 exact I.call (g':=g') (t':=t') (d':=d') u hok hg hch
end
noncomputable abbrev XK:=Value→Option Addr→Hp→Prop
noncomputable abbrev St:=List (Option V)
noncomputable abbrev VK:=V→Hp→Prop
noncomputable abbrev TE:=St→Hp→VK→Prop
noncomputable abbrev TT:=St→Hp→(Bool→Hp→Prop)→Prop
noncomputable abbrev TA:=St→Hp→(List V→Hp→Prop)→Prop
structure Ends where
 nx:St→Hp→Prop
 rt:VK
 bk:St→Hp→Prop:=fun _ _=>False
 ct:St→Hp→Prop:=fun _ _=>False
noncomputable abbrev TS:=Ends→St→Hp→Prop
noncomputable def EP(X:Cx)(pins:List (Addr×Obj))(σ:St)(Q:VK)(u:Value)(s':Shared):Prop:=∃ v H',Inv X pins σ H' s'∧RelV v u∧Q v H'
noncomputable def TP(X:Cx)(pins:List (Addr×Obj))(σ:St)(Q:Bool→Hp→Prop)(b:Bool)(s':Shared):Prop:=∃ H',Inv X pins σ H' s'∧Q b H'
noncomputable def AP(X:Cx)(pins:List (Addr×Obj))(σ:St)(Q:List V→Hp→Prop)(us:List Value)(s':Shared):Prop:=∃ vs H',Inv X pins σ H' s'∧Vals vs us∧Q vs H'
noncomputable def SP(X:Cx)(pins:List (Addr×Obj))(D:Ends)(f:Flow)(s':Shared):Prop :=
 match f with
 | .next=>∃ σ' H',Inv X pins σ' H' s'∧D.nx σ' H'
 | .brk=>∃ σ' H',Inv X pins σ' H' s'∧D.bk σ' H'
 | .cont=>∃ σ' H',Inv X pins σ' H' s'∧D.ct σ' H'
 | .ret u=>∃ v σ' H',Inv X pins σ' H' s'∧RelV v u∧D.rt v H'
noncomputable def PE(X:Cx)(e:Expr)(t:TE):Prop :=
 ∀ (pins:List (Addr×Obj)) (s:Shared) (σ:St) (H:Hp) (Q:VK),Inv X pins σ H s→t σ H Q→wpAny (model X.prog X.w) X.A (eval e X.env) (EP X pins σ Q) X.xe s
noncomputable def PT(X:Cx)(e:Expr)(t:TT):Prop :=
 ∀ (pins:List (Addr×Obj)) (s:Shared) (σ:St) (H:Hp) (Q:Bool→Hp→Prop),Inv X pins σ H s→t σ H Q→wpAny (model X.prog X.w) X.A (isTrue e X.env (eval e X.env)) (TP X pins σ Q) X.xe s
noncomputable def PW(X:Cx)(e:Expr)(t:TT):Prop :=
 ∀ (whole:Sem Value) (pins:List (Addr×Obj)) (s:Shared) (σ:St) (H:Hp) (Q:Bool→Hp→Prop),Inv X pins σ H s→t σ H Q→wpAny (model X.prog X.w) X.A (isTrue e X.env whole) (TP X pins σ Q) X.xe s
theorem PW.pt{X:Cx}{e:Expr}{t:TT}(h:PW X e t):PT X e t:=h _
noncomputable def PA(X:Cx)(es:List Expr)(t:TA):Prop :=
 ∀ (pos:Pos) (pins:List (Addr×Obj)) (s:Shared) (σ:St) (H:Hp) (Q:List V→Hp→Prop),Inv X pins σ H s→t σ H Q→wpAny (model X.prog X.w) X.A (spliced (backTo pos (starEach es X.env))) (AP X pins σ Q) X.xe s
noncomputable def PS(X:Cx)(st:Stmt)(t:TS):Prop :=
 ∀ (pins:List (Addr×Obj)) (s:Shared) (σ:St) (H:Hp) (D:Ends),Inv X pins σ H s→t D σ H→wpAny (model X.prog X.w) X.A (exec st X.env) (SP X pins D) X.xe s
noncomputable def PSs(X:Cx)(st:List Stmt)(t:TS):Prop :=
 ∀ (pins:List (Addr×Obj)) (s:Shared) (σ:St) (H:Hp) (D:Ends),Inv X pins σ H s→t D σ H→wpAny (model X.prog X.w) X.A (execs st X.env) (SP X pins D) X.xe s
theorem thn{α:Type}{t:Sem α}{Q Q':α→Shared→Prop}{M:Model}{A:Around}{E:Value→Shared→Prop}{s:Shared}(h:wpAny M A t Q E s)(hQ:∀ a s,Q a s→Q' a s):wpAny M A t Q' E s:=wpAny_mono h hQ fun _ _ x=>x
end L2
namespace L2
open PySem PySem.Spec PyProof.Rows
section
variable{X:Cx}
noncomputable def tVar(i:Nat):TE:=fun σ H Q=>∃ v,σ[i]?=some (some v)∧Q v H
noncomputable def tC(v:V):TE:=fun _ H Q=>Q v H
theorem pe_var{i:Nat}{x:Str}{pos:Pos}(hN:X.N[i]?=some x)(hv:Vis X.env.scope x)(hd:(x == ("__debug__" : Str))=false:=by decide)(hcd:(x == ("__classdict__" : Str))=false:=by decide):PE X (.Name x pos) (tVar i):=by
 intro pins s σ H Q I h
 obtain⟨v,e,h⟩:=h
 obtain⟨m,hn,hl⟩:=I.loc
 obtain⟨u,r,l⟩:=hl i x v hN e hv
 have fin:EP X pins σ Q u s:=⟨v,H,I,r,h⟩
 rcases l with⟨hk,hm⟩|⟨hk,c,hc,hcell⟩
 ·exact wpAny_Name (wpAny_loadName_local I.ok.kind hk hn hm fin) hd
 ·rcases hk with hk|hk
  ·exact wpAny_Name (wpAny_loadName_cell I.ok.kind hk hc hcell fin) hd
  ·exact wpAny_Name (wpAny_loadName_free I.ok.kind hk hc hcell fin hcd) hd
theorem pe_int{i j pos}:PE X (.Constant (.int i) j pos) (tC (.int i)):=fun _ _ _ H _ I h=>wpAny_Constant_int ⟨.int i,H,I.tok _,⟨_,rfl⟩,h⟩
theorem pe_bl{b j pos}:PE X (.Constant (.bool b) j pos) (tC (.bl b)):=fun _ _ _ H _ I h=>Constant_bool ⟨.bl b,H,I,rfl,h⟩
theorem pe_str{x j pos}:PE X (.Constant (.str x) j pos) (tC (.str x)):=fun _ _ _ H _ I h=>Calls.Constant_str ⟨.str x,H,I.tok _,⟨_,rfl⟩,h⟩
noncomputable def Gl(X:Cx)(x:Str):Prop:=X.env.kindOf x=some .globalImplicit
theorem ld_glob{E:Value→Shared→Prop}{pins:List (Addr×Obj)}{s:Shared}{σ:St}{H:Hp}{x:Str}{u:Value}{pos:Pos}{Q:Value→Shared→Prop}(I:Inv X pins σ H s)(hg:Gl X x)(hm:X.mg x=some u)(h:Q u s)
  (hd:(x == ("__debug__" : Str))=false:=by decide):wpAny (model X.prog X.w) X.A (eval (.Name x pos) X.env) Q E s :=
 Calls.Name_function_global I.ok.kind hg (Calls.loadGlobal_global (by rw[I.ok.glob];exact I.mod.glob.keeps I.bk) hm h) hd
theorem ld_blt{E:Value→Shared→Prop}{pins:List (Addr×Obj)}{s:Shared}{σ:St}{H:Hp}{x:Str}{u:Value}{pos:Pos}{Q:Value→Shared→Prop}(I:Inv X pins σ H s)(hg:Gl X x)(hm:X.mg x=none)(hv:bootBuiltins x=some u)(h:Q u s)
  (hn:x ≠ "__name__" := by decide) (hd:(x == ("__debug__" : Str))=false:=by decide):wpAny (model X.prog X.w) X.A (eval (.Name x pos) X.env) Q E s:=by
 obtain⟨mb,h1,h2⟩:=I.mod.blt
 exact Calls.Name_function_global I.ok.kind hg (Calls.loadGlobal_builtin (by rw[I.ok.glob];exact I.mod.glob.keeps I.bk) hm (by rw[I.ok.blt];exact h1.keeps I.bk) ((h2 x hn).trans hv) h) hd
theorem pe_glob{x:Str}{v:V}{u:Value}{pos:Pos}(hg:Gl X x)(hm:X.mg x=some u)(r:RelV v u)(hd:(x == ("__debug__" : Str))=false:=by decide):PE X (.Name x pos) (tC v) :=
 fun _ _ _ H _ I h=>ld_glob I hg hm ⟨v,H,I,r,h⟩ hd
theorem pe_bltn{x:Str}{v:V}{u:Value}{pos:Pos}(hg:Gl X x)(hm:X.mg x=none)(hv:bootBuiltins x=some u)(r:RelV v u)(hn:x ≠ "__name__" := by decide)(hd:(x == ("__debug__" : Str))=false:=by decide):PE X (.Name x pos) (tC v) :=
 fun _ _ _ H _ I h=>ld_blt I hg hm hv ⟨v,H,I,r,h⟩ hn hd
variable{a b:Expr}{ta tb:TE}{pos:Pos}
noncomputable def tB(t:TE):TT:=fun σ H Q=>t σ H fun x H1=>∃ c,x=.bl c∧Q c H1
theorem pt_val{e:Expr}{t:TE}(h:PE X e t)(he:∀ whole,isTrue e X.env whole=(do let v ← whole;standAt e.pos;holding [v] (truthy v)):=by intro _;rfl):PT X e (tB t):=by
 intro pins s σ H Q I hw
 refine isTrue_plain (thn (h pins s σ H _ I hw) fun v s1 ⟨x,H1,I1,r1,q1⟩=>?_) (he _)
 obtain⟨d,rfl,q⟩:=q1
 cases r1
 exact wpAny_truthy_bool ⟨H1,I1,q⟩
variable{tA tB':TT}{rest:List Expr}
noncomputable def tOr(t u:TT):TT:=fun σ H Q=>t σ H fun c H1=>if c=true then Q true H1 else u σ H1 Q
noncomputable def tNot(t:TT):TT:=fun σ H Q=>t σ H fun c H1=>Q (!c) H1
theorem pw_or1(ha:PT X a tA):PW X (.BoolOp .Or [a] pos) tA:=by
 intro wh pins s σ H Q I h
 refine isTrue_or (thn (ha pins s σ H Q I h) fun c s1 e=>?_)
 cases c with
 | false=>exact isTrue_or_nil e
 | true=>exact e
theorem pw_or(ha:PT X a tA)(hb:PW X (.BoolOp .Or (b::rest) pos) tB'):PW X (.BoolOp .Or (a::b::rest) pos) (tOr tA tB'):=by
 intro wh pins s σ H Q I h
 refine isTrue_or (thn (ha pins s σ H _ I h) fun c s1 ⟨H1,I1,q1⟩=>?_)
 cases c with
 | true=>exact⟨H1,I1,q1⟩
 | false=>exact hb wh pins s1 σ H1 Q I1 q1
theorem pt_not(ha:PT X a tA):PT X (.UnaryOp .Not a pos) (tNot tA):=by
 intro pins s σ H Q I h
 exact isTrue_not (ha pins s σ H (fun c H1=>Q (!c) H1) I h)
noncomputable def tAndV(ta tb:TE):TE:=fun σ H Q=>ta σ H fun x H1=>∃ c,x=.bl c∧if c=true then tb σ H1 Q else Q (.bl false) H1
noncomputable def tNotV(ta:TE):TE:=fun σ H Q=>ta σ H fun x H1=>∃ c,x=.bl c∧Q (.bl (!c)) H1
theorem pe_one{op}{t:TE}(h:PE X a t):PE X (.BoolOp op [a] pos) t:=fun pins s σ H Q I hw=>BoolOp_one (h pins s σ H Q I hw)
theorem pe_and(ha:PE X a ta)(hb:PE X (.BoolOp .And (b::rest) pos) tb):PE X (.BoolOp .And (a::b::rest) pos) (tAndV ta tb):=by
 intro pins s σ H Q I h
 refine BoolOp_and (thn (ha pins s σ H _ I h) fun v s1 ⟨x,H1,I1,r1,q1⟩=>?_)
 obtain⟨c,rfl,q1⟩:=q1
 cases r1
 refine wpAny_truthy_bool ?_
 cases c with
 | true=>exact hb pins s1 σ H1 Q I1 q1
 | false=>exact⟨.bl false,H1,I1,rfl,q1⟩
theorem pe_not(ha:PE X a ta):PE X (.UnaryOp .Not a pos) (tNotV ta):=by
 intro pins s σ H Q I h
 refine UnaryOp_ (thn (ha pins s σ H _ I h) fun v s1 ⟨x,H1,I1,r1,q1⟩=>?_)
 obtain⟨c,rfl,q1⟩:=q1
 cases r1
 exact not_of (wpAny_truthy_bool ⟨.bl (!c),H1,I1,rfl,q1⟩)
end
end L2
namespace L2
open PySem PySem.Spec PyProof.Rows
noncomputable def SqL(K:W.Frag)(H:Hp)(a:Addr)(xs:List V):Prop :=
 Rd H a (.lst xs) ∨
  ∃ (o:Obj) (its:Array Value) (n:Nat),K.lookup a=some o∧o.cls=.type "list" ∧ o.dict=none∧o.data=.seq its n∧its.size≤sizeLine∧Vals xs its.toList
noncomputable def SqT(K:W.Frag)(H:Hp)(a:Addr)(xs:List V):Prop :=
 Rd H a (.tup xs) ∨
  ∃ (o:Obj) (its:Array Value) (n:Nat),K.lookup a=some o∧o.cls=.type "tuple" ∧ o.data=.seq its n∧its.size≤sizeLine∧Vals xs its.toList
noncomputable def absV:Value→Option V
 | .none=>some .non
 | .bool b=>some (.bl b)
 | .int i _=>some (.int i)
 | .str x _=>some (.str x)
 | .bytes b _=>some (.byt b)
 | .float b _=>some (.flt b)
 | .ref a=>some (.ref a)
 | .type n=>some (.ty n)
 | _=>none
theorem RelV.abs{x:V}{u:Value}(r:RelV x u):absV u=some x:=by
 cases x with
 | non=>cases r;rfl
 | bl _=>cases r;rfl
 | int _=>obtain⟨t,rfl⟩:=r;rfl
 | str _=>obtain⟨t,rfl⟩:=r;rfl
 | byt _=>obtain⟨t,rfl⟩:=r;rfl
 | flt _=>obtain⟨t,rfl⟩:=r;rfl
 | ref _=>cases r;rfl
 | ty _=>cases r;rfl
theorem RelV.inj{x y:V}{u:Value}(r:RelV x u)(q:RelV y u):x=y:=Option.some.inj (r.abs.symm.trans q.abs)
theorem Vals.inj:∀ {xs ys:List V} {us:List Value},Vals xs us→Vals ys us→xs=ys
 | _,_,_,.nil,.nil=>rfl
 | _,_,_,.cons r t,.cons r' t'=>by rw[r.inj r',Vals.inj t t']
section
variable{X:Cx}{pins:List (Addr×Obj)}{σ:St}{H:Hp}{s:Shared}{a:Addr}{xs ys:List V}
theorem SqL.of{K:W.Frag}(h:H a=some (.lst xs)):SqL K H a xs:=.inl (.inl h)
theorem SqT.of{K:W.Frag}(h:H a=some (.tup xs)):SqT K H a xs:=.inl (.inl h)
theorem Inv.list(I:Inv X pins σ H s)(h:SqL X.K H a xs):∃ its:List Value,Vals xs its∧PlainL s.heap a its.toArray∧xs.length≤sizeLine:=by
 rcases h with h|⟨o,its,n,hk,hc,hd,hs,hz,r⟩
 ·obtain⟨z,its,n,r,e⟩:=h.ok I.hok
  exact⟨its,r,⟨_,n,e,rfl,rfl,rfl⟩,z⟩
 ·refine⟨its.toList,r,⟨o,n,I.kIn a o hk,hc,hd,by simpa using hs⟩,?_⟩
  have e:=r.length
  simp only[Array.length_toList] at e
  omega
theorem Inv.tuple(I:Inv X pins σ H s)(h:SqT X.K H a xs):∃ its:List Value,Vals xs its∧IsTup s.heap a its.toArray∧xs.length≤sizeLine:=by
 rcases h with h|⟨o,its,n,hk,hc,hs,hz,r⟩
 ·obtain⟨z,its,r,p⟩:=h.ok I.hok
  exact⟨its,r,p,z⟩
 ·refine⟨its.toList,r,⟨o,I.kIn a o hk,hc,n,by simpa using hs⟩,?_⟩
  have e:=r.length
  simp only[Array.length_toList] at e
  omega
theorem Inv.list_inj(I:Inv X pins σ H s)(h:SqL X.K H a xs)(h':SqL X.K H a ys):xs=ys:=by
 obtain⟨its,r,⟨o,n,e,_,_,d⟩,_⟩:=I.list h
 obtain⟨its',r',⟨o',n',e',_,_,d'⟩,_⟩:=I.list h'
 rw[e] at e';cases e'
 rw[d] at d'
 injection d' with d1 _
 have:its=its':=by simpa using congrArg Array.toList d1
 subst this
 exact r.inj r'
theorem Inv.tuple_inj(I:Inv X pins σ H s)(h:SqT X.K H a xs)(h':SqT X.K H a ys):xs=ys:=by
 obtain⟨its,r,⟨o,e,_,n,d⟩,_⟩:=I.tuple h
 obtain⟨its',r',⟨o',e',_,n',d'⟩,_⟩:=I.tuple h'
 rw[e] at e';cases e'
 rw[d] at d'
 injection d' with d1 _
 have:its=its':=by simpa using congrArg Array.toList d1
 subst this
 exact r.inj r'
end
noncomputable abbrev Cx.wish(X:Cx)(E:Value→Shared→Prop):Cx:={ X with xe:=E }
noncomputable abbrev Cx.nox(X:Cx):Cx:=X.wish fun _ _=>False
theorem Cx.Ok.wish{X:Cx}(ok:X.Ok)(E:Value→Shared→Prop):(X.wish E).Ok :=
 ⟨ok.mod,ok.kind,ok.glob,ok.blt,ok.above,ok.inj,ok.has,ok.cab,ok.hd,ok.frames,ok.stk,ok.exf,ok.bs,ok.bsz,ok.noex,ok.exfs,ok.funs,ok.frf⟩
theorem Cx.Ok.unwish{X:Cx}{E:Value→Shared→Prop}(ok:(X.wish E).Ok):X.Ok :=
 ⟨ok.mod,ok.kind,ok.glob,ok.blt,ok.above,ok.inj,ok.has,ok.cab,ok.hd,ok.frames,ok.stk,ok.exf,ok.bs,ok.bsz,ok.noex,ok.exfs,ok.funs,ok.frf⟩
section
variable{X:Cx}{pins:List (Addr×Obj)}{σ:St}{H:Hp}{s:Shared}{E:Value→Shared→Prop}
theorem Inv.wish(I:Inv X pins σ H s)(E:Value→Shared→Prop):Inv (X.wish E) pins σ H s:=⟨I.ok.wish E,I.os,I.bare,I.base,I.loc,I.cell,I.free,I.freeC,I.pin,I.hok,I.len⟩
theorem Inv.unwish(I:Inv (X.wish E) pins σ H s):Inv X pins σ H s:=⟨I.ok.unwish,I.os,I.bare,I.base,I.loc,I.cell,I.free,I.freeC,I.pin,I.hok,I.len⟩
theorem SP.unwish{D:Ends}{f:Flow}{s':Shared}(h:SP (X.wish E) pins D f s'):SP X pins D f s':=by
 cases f with
 | next=>obtain⟨σ',H',I,q⟩:=h;exact⟨σ',H',I.unwish,q⟩
 | brk=>obtain⟨σ',H',I,q⟩:=h;exact⟨σ',H',I.unwish,q⟩
 | cont=>obtain⟨σ',H',I,q⟩:=h;exact⟨σ',H',I.unwish,q⟩
 | ret u=>obtain⟨v,σ',H',I,r,q⟩:=h;exact⟨v,σ',H',I.unwish,r,q⟩
theorem PSs.nox{st:List Stmt}{t:TS}(h:PSs X.nox st t):PSs X st t:=fun pins s σ H D I hw =>
 wpAny_mono (h pins s σ H D (I.wish _) hw) (fun _ _ q=>q.unwish) fun _ _ z=>False.elim z
end
section
variable{X:Cx}{st:Stmt}{rest:List Stmt}{t u:TS}{e:Expr}{te:TE}{pos:Pos}
noncomputable def tNext:TS:=fun D σ H=>D.nx σ H
noncomputable def tSeq(t u:TS):TS:=fun D σ H=>t { D with nx:=u D } σ H
theorem pss_nil:PSs X [] tNext:=fun _ _ σ H _ I h=>wpAny_execs_nil ⟨σ,H,I,h⟩
theorem pss_cons(h1:PS X st t)(h2:PSs X rest u):PSs X (st::rest) (tSeq t u):=by
 intro pins s σ H D I h
 refine wpAny_execs_cons (thn (h1 pins s σ H { D with nx:=u D } I h) fun f s1 q=>?_)
 cases f with
 | next =>
  obtain⟨σ',H',I',q⟩:=q
  exact h2 pins s1 σ' H' D I' q
 | ret v=>exact q
 | brk=>exact q
 | cont=>exact q
theorem pss_one(h1:PS X st t):PSs X [st] t:=by
 intro pins s σ H D I h
 refine wpAny_execs_cons (thn (h1 pins s σ H D I h) fun f s1 q=>?_)
 cases f with
 | next=>exact wpAny_execs_nil q
 | ret v=>exact q
 | brk=>exact q
 | cont=>exact q
theorem Inv.quiet{pins:List (Addr×Obj)}{σ:St}{H:Hp}{s:Shared}(I:Inv X pins σ H s):interactive X.env=false:=by simp[interactive,I.ok.kind]
noncomputable def tDrop(te:TE):TS:=fun D σ H=>te σ H fun _ H1=>D.nx σ H1
theorem ps_expr(he:PE X e te)(hs:swapsWith e none pos.line X.env=pure false:=by rfl):PS X (.Expr e pos) (tDrop te):=by
 intro pins s σ H D I h
 exact wpAny_Expr_any (thn (he pins s σ H _ I h) fun v s1 ⟨x,H1,I1,r1,q1⟩=>⟨σ,H1,I1,q1⟩) I.quiet hs
noncomputable def tRet(te:TE):TS:=fun D σ H=>te σ H D.rt
theorem ps_ret(he:PE X e te):PS X (.Return (some e) pos) (tRet te):=by
 intro pins s σ H D I h
 exact wpAny_Return_some (thn (he pins s σ H _ I h) fun v s1 ⟨x,H1,I1,r1,q1⟩=>⟨x,σ,H1,I1,r1,q1⟩)
noncomputable def tIfS(c:TT)(t u:TS):TS:=fun D σ H=>c σ H fun b H1=>if b=true then t D σ H1 else u D σ H1
theorem ps_if{c:Expr}{a b:List Stmt}{tc:TT}(hc:PT X c tc)(ha:PSs X a t)(hb:PSs X b u):PS X (.If c a b pos) (tIfS tc t u):=by
 intro pins s σ H D I h
 refine wpAny_If (thn (hc pins s σ H _ I h) fun d s1 ⟨H1,I1,q1⟩=>?_)
 cases d with
 | true=>exact ha pins s1 σ H1 D I1 q1
 | false=>exact hb pins s1 σ H1 D I1 q1
end
noncomputable abbrev TG:=V→St→Hp→(St→Hp→Prop)→Prop
noncomputable def PG(X:Cx)(target:Expr)(t:TG):Prop :=
 ∀ (pins:List (Addr×Obj)) (s:Shared) (σ:St) (H:Hp) (v:V) (u:Value) (Q:St→Hp→Prop),Inv X pins σ H s→RelV v u→t v σ H Q →
  wpAny (model X.prog X.w) X.A (assign target X.env u) (fun _ s'=>∃ σ' H',Inv X pins σ' H' s'∧Q σ' H') X.xe s
section
variable{X:Cx}{pos:Pos}
noncomputable def gName(i:Nat):TG:=fun v σ H Q=>Q (σ.set i (some v)) H
theorem pg_name{i:Nat}{x:Str}(hN:X.N.Nodup)(hi:X.N[i]?=some x)(hx:Loc X.env.scope x)(hf:X.fn x=true∨X.env.scope.names.lookup x=some .local:=by first|exact .inl rfl|exact .inr rfl|assumption):PG X (.Name x pos) (gName i):=by
 intro pins s σ H v u Q I r h
 exact wpAny_assign_Name (store_ok I hN hi hx r (fun s' I'=>⟨_,H,I',h⟩) hf)
noncomputable def tAsg(te:TE)(g:TG):TS:=fun D σ H=>te σ H fun x H1=>g x σ H1 D.nx
theorem ps_set{i:Nat}{x:Str}{e:Expr}{te:TE}{pos':Pos}(hN:X.N.Nodup)(hi:X.N[i]?=some x)(hx:Loc X.env.scope x)(he:PE X e te)(hs:swapsWith e (some (.Name x pos')) pos.line X.env=pure false:=by rfl)(hf:X.fn x=true∨X.env.scope.names.lookup x=some .local:=by first|exact .inl rfl|exact .inr rfl|assumption) :
  PS X (.Assign [.Name x pos'] e pos) (tAsg te (gName i)):=by
 intro pins s σ H D I h
 refine wpAny_Assign_Name (thn (he pins s σ H _ I h) fun v s1 ⟨y,H1,I1,r1,q1⟩=>?_) hs
 exact store_ok I1 hN hi hx r1 (fun s2 I2=>⟨_,H1,I2,q1⟩) hf
end
section
variable{X:Cx}{pos:Pos}
end
structure It where
 go:Nat→Hp→Prop
 yld:Nat→Hp→V→Hp→Prop
 stop:Nat→Hp→Prop
noncomputable def FpOk(X:Cx)(pins:List (Addr×Obj))(H:Hp)(b:Addr):Prop :=
 H b=none∧b≠X.env.locals∧b∉X.fs∧(b∈X.ex∨X.s₀.heap.objs.size≤b)∧(∀ x c,X.env.cells.lookup x=some c→c≠b)∧∀ p∈X.pn++pins,p.1≠b
theorem Inv.fpOk{X:Cx}{pins:List (Addr×Obj)}{σ:St}{H H':Hp}{s:Shared}{b:Addr}(I:Inv X pins σ H s)(hb:s.heap.objs.size≤b)(hn:H' b=none):FpOk X pins H' b:=by
 refine⟨hn,Nat.ne_of_gt (Nat.lt_of_lt_of_le I.lt hb),I.nofs hb,.inr (Nat.le_trans I.sz hb),fun x c e z=>?_,fun p hp z=>?_⟩
 ·obtain⟨v,q⟩:=I.cell x c e
  exact absurd (Nat.lt_of_lt_of_le q.lt (by rw[z];exact hb)) (Nat.lt_irrefl _)
 ·exact absurd (Nat.lt_of_lt_of_le (Heap.lt_size (I.pin p hp).1) (by rw[z];exact hb)) (Nat.lt_irrefl _)
structure Turn(P:Program)(w:World)(K:W.Frag)(tg:Expr)(J:It)(fp:List Addr)(it:Addr)(tn:Nat→Heap→Prop):Prop where
 mem:it∈fp
 obj:∀ i h,tn i h→∀ b∈fp,∃ o,h.get? b=some o∧∀ v,o.data≠.cell v
 keep:∀ i h h',tn i h→(∀ b∈fp,∀ o,h.get? b=some o→h'.get? b=some o)→tn i h'
 item:∀ (X:Cx),X.prog=P→X.w=w→X.K=K→X.calm=true→∀ (i:Nat) (pins:List (Addr×Obj)) (s:Shared) (σ:St) (H:Hp) (E:Value→Shared→Prop),Inv X pins σ H s→(∀ b∈fp,FpOk X pins H b)→tn i s.heap→J.go i H →
  wpAny (model P w) X.A (pyNext (.ref it)) (fun r s1=>∃ u,r=some u ∧
   wpAny (model P w) X.A (letOwnedTupleGo tg (.ref it) u) (fun _ s2=>∃ x H',Inv X pins σ H' s2∧RelV x u∧J.yld i H x H'∧tn (i+1) s2.heap∧∀ b∈fp,H' b=none) E s1) E s
 done:∀ (X:Cx),X.prog=P→X.w=w→X.K=K→X.calm=true→∀ (i:Nat) (pins:List (Addr×Obj)) (s:Shared) (σ:St) (H:Hp) (E:Value→Shared→Prop),Inv X pins σ H s→(∀ b∈fp,FpOk X pins H b)→tn i s.heap→J.stop i H →
  wpAny (model P w) X.A (pyNext (.ref it)) (fun r s1=>r=none∧Inv X pins σ H s1) E s
 self:∀ (A:Around) (i:Nat) (s:Shared) (Q:Value→Shared→Prop) (E:Value→Shared→Prop),tn i s.heap→Q (.ref it) s→wpAny (model P w) A (pyIter (.ref it)) Q E s
noncomputable abbrev TI:=St→Hp→(It→Hp→Prop)→Prop
noncomputable def PIE(X:Cx)(pins:List (Addr×Obj))(σ:St)(tg:Expr)(R:It→Hp→Prop)(itv:Value)(s2:Shared):Prop :=
 ∃ (it:Addr) (fp:List Addr) (tn:Nat→Heap→Prop) (J:It) (H':Hp),itv=.ref it∧Inv X pins σ H' s2∧Turn X.prog X.w X.K tg J fp it tn∧tn 0 s2.heap∧(∀ b∈fp,FpOk X pins H' b)∧R J H'
noncomputable def PI(X:Cx)(tg iter:Expr)(wi:TI):Prop :=
 ∀ (pins:List (Addr×Obj)) (s:Shared) (σ:St) (H:Hp) (R:It→Hp→Prop),Inv X pins σ H s→wi σ H R →
  wpAny (model X.prog X.w) X.A (eval iter X.env) (fun v s1=>wpAny (model X.prog X.w) X.A (pyIter v) (PIE X pins σ tg R) X.xe s1) X.xe s
theorem go_of{M:Model}{A:Around}{E:Value→Shared→Prop}{s:Shared}{tg:Expr}{it:Addr}{u:Value}{o:Obj}{n:String}{vs:Array Value}{Q:Unit→Shared→Prop}(ho:s.heap.get? it=some o)(hc:o.cls=.type n)(hd:o.data=.fields vs)
    (hn:["enumerate", "zip", "dict_itemiterator", "dict_reverseitemiterator", "odict_iterator", "itertools.zip_longest", "itertools.pairwise"].contains n=false) (hQ:Q () s):wpAny M A (letOwnedTupleGo tg (.ref it) u) Q E s:=by
  unfold letOwnedTupleGo
  cases tg<;>first
    | exact wpAny_pure hQ
    | (cases u<;>first
        | exact wpAny_pure hQ
        | (refine wpAny_bind (wpAny_load ho ?_)
           rw[hc,hd]
           show wpAny M A (if (["enumerate", "zip", "dict_itemiterator", "dict_reverseitemiterator", "odict_iterator", "itertools.zip_longest", "itertools.pairwise"].contains n && vs[0]? == some (rawInt _))=true then _ else _) Q E s
           rw[if_neg (by intro h;rw[hn,Bool.false_and] at h;cases h)]
           exact wpAny_pure hQ))
noncomputable def Itl(K:W.Frag)(a:Addr):It :=
 ⟨fun i H=>∃ xs x,SqL K H a xs∧xs[i]?=some x,fun i H x H'=>H'=H∧∀ xs,SqL K H a xs→xs[i]?=some x,fun i H=>∃ xs,SqL K H a xs∧xs.length≤i⟩
noncomputable def Itt(K:W.Frag)(a:Addr):It :=
 ⟨fun i H=>∃ xs x,SqT K H a xs∧xs[i]?=some x,fun i H x H'=>H'=H∧∀ xs,SqT K H a xs→xs[i]?=some x,fun i H=>∃ xs,SqT K H a xs∧xs.length≤i⟩
noncomputable def Itr(lo:Int)(n:Nat):It:=⟨fun i _=>i<n,fun i H x H'=>H'=H∧x=.int (lo+i),fun i _=>n≤i⟩
theorem turn_list{P:Program}{w:World}{K:W.Frag}{tg:Expr}(a it:Addr):Turn P w K tg (Itl K a) [it] it (fun i h=>h.IsListIter it a i) where
 mem:=by simp
 obj:=fun i h st b hb=>by
  have e:b=it:=by simpa using hb
  subst e
  obtain⟨o,e,c,d⟩:=st
  exact⟨o,e,fun v z=>by rw[d] at z;cases z⟩
 keep:=fun i h h' st k=>st.at fun o e=>k it (by simp) o e
 item:=by
  intro X hP hw hK hc i pins s σ H E I hf st hg
  subst hP hw hK
  obtain⟨xs,x,hq,hx⟩:=hg
  obtain⟨its,rv,p,hz⟩:=I.list hq
  obtain⟨u,hu,ru⟩:=rv.get hx
  obtain⟨f0,f1,f2,f3,f4,f5⟩:=hf it (by simp)
  refine wpAny_pyNext_list_item st p.isList (x:=u) (by simpa using hu) fun h' st' sb=>?_
  have I1:Inv X pins σ H { s with heap:=h' }:=I.turned (t':=s.toks) (fun b o hb e=>(sb.2 b hb).trans e) f0 f1 f3 f4 f5
  obtain⟨o,e,c,d⟩:=id st'
  exact⟨u,rfl,go_of (s:={ s with heap:=h' }) e c d (by decide) ⟨x,H,I1,ru,⟨rfl,fun ys hy=>by rw[I.list_inj hy hq];exact hx⟩,st',fun b hb=>(hf b hb).1⟩⟩
 done:=by
  intro X hP hw hK hc i pins s σ H E I hf st hg
  subst hP hw hK
  obtain⟨xs,hq,hx⟩:=hg
  obtain⟨its,rv,p,hz⟩:=I.list hq
  obtain⟨f0,f1,f2,f3,f4,f5⟩:=hf it (by simp)
  have hl:=rv.length
  exact wpAny_pyNext_list_end (I.ok.hd hc) st p.isList (by simp;omega) fun h' eb=>⟨rfl,I.turned (t':=s.toks) (fun b o hb e=>eb b o hb e) f0 f1 f3 f4 f5⟩
 self:=fun _ _ _ _ _ st h=>wpAny_pyIter_listiter st h
theorem turn_tuple{P:Program}{w:World}{K:W.Frag}{tg:Expr}(a it:Addr):Turn P w K tg (Itt K a) [it] it (fun i h=>h.IsTupleIter it a i) where
 mem:=by simp
 obj:=fun i h st b hb=>by
  have e:b=it:=by simpa using hb
  subst e
  obtain⟨o,e,c,d⟩:=st
  exact⟨o,e,fun v z=>by rw[d] at z;cases z⟩
 keep:=fun i h h' st k=>st.at fun o e=>k it (by simp) o e
 item:=by
  intro X hP hw hK hc i pins s σ H E I hf st hg
  subst hP hw hK
  obtain⟨xs,x,hq,hx⟩:=hg
  obtain⟨its,rv,p,hz⟩:=I.tuple hq
  obtain⟨u,hu,ru⟩:=rv.get hx
  obtain⟨f0,f1,f2,f3,f4,f5⟩:=hf it (by simp)
  refine wpAny_pyNext_tuple_item st (show s.heap.IsTuple a its.toArray from p) (x:=u) (by simpa using hu) fun h' st' sb=>?_
  have I1:Inv X pins σ H { s with heap:=h' }:=I.turned (t':=s.toks) (fun b o hb e=>(sb.2 b hb).trans e) f0 f1 f3 f4 f5
  obtain⟨o,e,c,d⟩:=id st'
  exact⟨u,rfl,go_of (s:={ s with heap:=h' }) e c d (by decide) ⟨x,H,I1,ru,⟨rfl,fun ys hy=>by rw[I.tuple_inj hy hq];exact hx⟩,st',fun b hb=>(hf b hb).1⟩⟩
 done:=by
  intro X hP hw hK hc i pins s σ H E I hf st hg
  subst hP hw hK
  obtain⟨xs,hq,hx⟩:=hg
  obtain⟨its,rv,p,hz⟩:=I.tuple hq
  obtain⟨f0,f1,f2,f3,f4,f5⟩:=hf it (by simp)
  have hl:=rv.length
  exact wpAny_pyNext_tuple_end (I.ok.hd hc) st (show s.heap.IsTuple a its.toArray from p) (by simp;omega) fun h' eb=>⟨rfl,I.turned (t':=s.toks) (fun b o hb e=>eb b o hb e) f0 f1 f3 f4 f5⟩
 self:=fun _ _ _ _ _ st h=>wpAny_pyIter_tupleiter st h
theorem turn_range{P:Program}{w:World}{K:W.Frag}{tg:Expr}(it:Addr)(lo:Int)(n:Nat):Turn P w K tg (Itr lo n) [it] it (fun i h=>IsRangeIter h it (lo+(i:Nat)*1) ((n:Int)-(i:Nat)) 1) where
 mem:=by simp
 obj:=fun i h st b hb=>by
  have e:b=it:=by simpa using hb
  subst e
  exact⟨_,st,fun v z=>by
   have z':Data.fields _=Data.cell v:=z
   cases z'⟩
 keep:=fun i h h' st k=>k it (by simp) _ st
 item:=by
  intro X hP hw hK hc i pins s σ H E I hf st hg
  subst hP hw hK
  obtain⟨f0,f1,f2,f3,f4,f5⟩:=hf it (by simp)
  have W:=Walks.range (prog:=X.prog) (w:=X.w) (I.ok.hd hc) it lo 1 n
  refine W.item i s _ _ hg st fun v h' tk hv st' kk=>?_
  obtain⟨t,rfl⟩:=hv
  have I1:Inv X pins σ H { s with heap:=h',toks:=tk }:=I.turned (fun b o hb e=>kk b o (by simpa using hb) e) f0 f1 f3 f4 f5
  refine⟨_,rfl,go_of (s:={ s with heap:=h',toks:=tk }) (n := "range_iterator") st' rfl rfl (by decide) ⟨.int (lo+i),H,I1,⟨t,?_⟩,⟨rfl,rfl⟩,st',fun b hb=>(hf b hb).1⟩⟩
  rw[Int.mul_one]
 done:=by
  intro X hP hw hK hc i pins s σ H E I hf st hg
  subst hP hw hK
  obtain⟨f0,f1,f2,f3,f4,f5⟩:=hf it (by simp)
  exact wpAny_pyNext_range_end (I.ok.hd hc) st (by have:n≤i:=hg;omega) fun h' eb=>⟨rfl,I.turned (t':=s.toks) (fun b o hb e=>eb b o hb e) f0 f1 f3 f4 f5⟩
 self:=fun _ _ _ _ _ st h=>wpAny_pyIter_rangeiter st h
end L2
namespace L2
open PySem PySem.Spec PyProof.Rows
section
variable{X:Cx}{tg:Expr}
theorem range_it{pins:List (Addr×Obj)}{σ:St}{H:Hp}{s:Shared}{R:It→Hp→Prop}{E:Value→Shared→Prop}{lo hi:Int}{t u v:Tok}{tk:Nat}(I:Inv X pins σ H s)(h1:-(2 ^ 62)≤lo)(h2:lo<2 ^ 62)(h3:-(2 ^ 62)≤hi)(h4:hi<2 ^ 62)
  (q:R (Itr lo (hi-lo).toNat) H):wpAny (model X.prog X.w) X.A (pyIter (.ref s.heap.objs.size)) (PIE X pins σ tg R) E { s with heap:=s.heap.push { cls:=.type "range",data:=.fields #[.int lo t,.int hi u,.int 1 v] },toks:=tk }:=by
 refine wpAny_pyIter_range (IsRange.new ..) (small_one h1 h2 h3 h4) ?_
 have I1:Inv X pins σ H { s with heap:=s.heap.push { cls:=.type "range",data:=.fields #[.int lo t,.int hi u,.int 1 v] },toks:=tk }:=I.kept fun b o e=>Heap.get?_push_of_some _ e
 refine⟨(s.heap.push { cls:=.type "range",data:=.fields #[.int lo t,.int hi u,.int 1 v] }).objs.size,[(s.heap.push { cls:=.type "range",data:=.fields #[.int lo t,.int hi u,.int 1 v] }).objs.size],_,_,H,rfl,
  I1.kept (t':=tk) fun b o e=>Heap.get?_push_of_some _ e,turn_range _ lo (hi-lo).toNat,?_,fun b hb=>?_,q⟩
 ·have e1:lo+((0:Nat):Int)*1=lo:=by simp
  have e2:(((hi-lo).toNat:Nat):Int)-((0:Nat):Int)=Builtin.Range.rangeSize lo hi 1:=by rw[rangeSize_one];split<;>omega
  show IsRangeIter _ _ (lo+((0:Nat):Int)*1) ((((hi-lo).toNat:Nat):Int)-((0:Nat):Int)) 1
  rw[e1,e2]
  exact Heap.get?_push_size _ rfl
 ·have e:b=(s.heap.push { cls:=.type "range",data:=.fields #[.int lo t,.int hi u,.int 1 v] }).objs.size:=by simpa using hb
  subst e
  exact I1.fpOk (Nat.le_refl _) (I1.hok.fresh (Nat.le_refl _))
noncomputable def iRng1(ta:TA):TI:=fun σ H R=>ta σ H fun vs H1=>∃ j:Int,vs=[.int j]∧-(2 ^ 62)≤j∧j<2 ^ 62∧R (Itr 0 j.toNat) H1
theorem pi_range1{a:Expr}{ta:TA}{p pos:Pos}(hg:Gl X "range")(hm:X.mg "range" = none)(ha:PA X [a] ta)(hs:starEach [a] X.env=[(false,eval a X.env)]:=by rfl):PI X tg (.Call (.Name "range" p) [a] [] pos) (iRng1 ta):=by
 intro pins s σ H R I h
 refine Call_ (ld_blt I hg hm boot_range (PyProof.Rows.callWith_type1 (thn (ha pos pins s σ H _ I h) fun us s1 ⟨vs,H1,I1,r1,q1⟩=>?_) hs rfl))
 obtain⟨j,e,q1,q2,q⟩:=q1
 subst e
 cases r1 with
 | cons r rr =>
  cases rr
  obtain⟨t,rfl⟩:=r
  exact call_range_1 (range_it I1 (by omega) (by omega) q1 q2 (by simpa using q))
noncomputable def tFor(wi:TI)(g:TG)(tb:TS):TS:=fun D σ H=>wi σ H fun J H1=>∃ W:Nat→Nat→St→Hp→Prop,(∃ m,W 0 m σ H1)∧∀ i m σ H,W i m σ H →
 (J.stop i H∧D.nx σ H)∨(J.go i H∧∃ N:St→Hp→Prop,(∀ σ' H',N σ' H'→∃ m',m' < m∧W (i+1) m' σ' H')∧∀ x H',J.yld i H x H'→g x σ H' fun σ2 H2=>tb { D with nx:=N,ct:=N,bk:=D.nx } σ2 H2)
noncomputable def pinsAt(fp:List Addr)(h:Heap):List (Addr×Obj):=fp.filterMap fun b=>(h.get? b).map fun o=>(b,o)
theorem mem_pinsAt{fp:List Addr}{h:Heap}{b:Addr}{o:Obj}(hb:b∈fp)(e:h.get? b=some o):(b,o)∈pinsAt fp h:=List.mem_filterMap.mpr ⟨b,hb,by rw[e];rfl⟩
theorem of_pinsAt{fp:List Addr}{h:Heap}{p:Addr×Obj}(hp:p∈pinsAt fp h):p.1∈fp∧h.get? p.1=some p.2:=by
 obtain⟨b,hb,e⟩:=List.mem_filterMap.mp hp
 cases q:h.get? b with
 | none=>rw[q] at e;cases e
 | some o =>
  rw[q] at e
  have e':(b,o)=p:=Option.some.inj e
  subst e'
  exact⟨hb,q⟩
theorem Inv.pinned{pins:List (Addr×Obj)}{σ:St}{H:Hp}{s:Shared}{fp:List Addr}(I:Inv X pins σ H s)(hf:∀ b∈fp,FpOk X pins H b)(ho:∀ b∈fp,∃ o,s.heap.get? b=some o∧∀ v,o.data≠.cell v):Inv X (pins++pinsAt fp s.heap) σ H s :=
 I.pins_of fun p hp=>(List.mem_append.mp hp).elim (fun z=>I.pin p (List.mem_append_right _ z)) fun z=>by
  obtain⟨hb,e⟩:=of_pinsAt z
  obtain⟨f0,f1,f2,_⟩:=hf p.1 hb
  obtain⟨o,e',d⟩:=ho p.1 hb
  rw[e] at e';cases e'
  exact⟨e,f0,f1,f2,d⟩
theorem Inv.unpinned{pins pl:List (Addr×Obj)}{σ:St}{H:Hp}{s:Shared}(I:Inv X (pins++pl) σ H s):Inv X pins σ H s:=I.pins_of fun p hp=>I.pin p (List.mem_append_right _ (List.mem_append_left _ hp))
theorem ps_for{iter:Expr}{body:List Stmt}{wi:TI}{g:TG}{tb:TS}{pos:Pos}(hp:PassesOwn (model X.prog X.w) X.A X.env X.xe)(hc:X.calm=true)(hi:PI X tg iter wi)(hg:PG X tg g)(hb:PSs X body tb)
  (hs:∀ x,foldedSetIterable iter X.env x=pure x:=by intro _;rfl):PS X (.For tg iter body [] pos) (tFor wi g tb):=by
 intro pins s σ H D I h
 refine wpAny_For (thn (hi pins s σ H _ I h) fun v s1 h1=>thn h1 fun itv s2 h2=>?_) hs
 obtain⟨it,fp,tn,J,H2,e,I2,T,st2,f2,W,⟨m0,w0⟩,turn⟩:=h2
 subst e
 have stat:∀ {H':Hp},(∀ b∈fp,H' b=none)→∀ b∈fp,FpOk X pins H' b:=fun hn b hb=>⟨hn b hb,(f2 b hb).2⟩
 refine codeAny_forLoop_any (fun n s'=>∃ i σ' H',Inv X pins σ' H' s'∧tn i s'.heap∧(∀ b∈fp,H' b=none)∧W i n σ' H') ?_ m0 ⟨0,σ,H2,I2,st2,fun b hb=>(f2 b hb).1,w0⟩
 rintro n s3 ⟨i,σ3,H3,I3,st3,fr3,w3⟩
 rcases turn i n σ3 H3 w3 with⟨stop,qn⟩|⟨go,N,hN,step⟩
 ·refine wpAny_passesOwn hp (thn (T.done X rfl rfl rfl hc i pins s3 σ3 H3 X.xe I3 (stat fr3) st3 stop) fun r s4 ⟨hr,I4⟩=>?_)
  subst hr
  exact wpAny_execs_nil ⟨σ3,H3,I4,qn⟩
 ·refine wpAny_passesOwn hp (thn (T.item X rfl rfl rfl hc i pins s3 σ3 H3 X.xe I3 (stat fr3) st3 go) fun r s4 ⟨u,hr,h4⟩=>?_)
  subst hr
  refine wpAny_passesOwn hp (thn h4 fun _ s5 ⟨x,H5,I5,r5,y5,st5,fr5⟩=>?_)
  have I5':=I5.pinned (stat fr5) (T.obj _ _ st5)
  refine wpAny_passesOwn hp (thn (hg _ s5 σ3 H5 x u _ I5' r5 (step x H5 y5)) fun _ s6 ⟨σ6,H6,I6,q6⟩=>?_)
  refine wpAny_passesOwn hp (thn (hb _ s6 σ6 H6 _ I6 q6) fun f s7 q7=>?_)
  have again:∀ {σ7:St} {H7:Hp},Inv X (pins++pinsAt fp s5.heap) σ7 H7 s7→N σ7 H7→∃ m,m<n∧∃ i σ' H',Inv X pins σ' H' s7∧tn i s7.heap∧(∀ b∈fp,H' b=none)∧W i m σ' H':=fun {σ7 H7} I7 n7=>by
   obtain⟨m',hm,w7⟩:=hN σ7 H7 n7
   refine⟨m',hm,i+1,σ7,H7,I7.unpinned,T.keep _ _ _ st5 fun b hb o e=>(I7.pin (b,o) (List.mem_append_right _ (List.mem_append_right _ (mem_pinsAt hb e)))).1,fun b hb=>?_,w7⟩
   obtain⟨o,e,d⟩:=T.obj _ _ st5 b hb
   exact (I7.pin (b,o) (List.mem_append_right _ (List.mem_append_right _ (mem_pinsAt hb e)))).2.1
  cases f with
  | next=>obtain⟨σ7,H7,I7,n7⟩:=q7;exact again I7 n7
  | cont=>obtain⟨σ7,H7,I7,n7⟩:=q7;exact again I7 n7
  | brk=>obtain⟨σ7,H7,I7,q7⟩:=q7;exact⟨σ7,H7,I7.unpinned,q7⟩
  | ret v=>obtain⟨x7,σ7,H7,I7,r7,q7⟩:=q7;exact⟨x7,σ7,H7,I7.unpinned,r7,q7⟩
end
end L2
namespace L2
open PySem PySem.Spec PyProof.Rows
noncomputable abbrev R2:=V→V→Hp→VK→Prop
noncomputable def OpR(X:Cx)(f:Value→Value→Sem Value)(r:R2):Prop :=
 ∀ (pins:List (Addr×Obj)) (s:Shared) (σ:St) (H:Hp) (x y:V) (v u:Value) (Q:VK),Inv X pins σ H s→RelV x v→RelV y u→r x y H Q →
  wpAny (model X.prog X.w) X.A (f v u) (EP X pins σ Q) X.xe s
noncomputable def CallR(X:Cx)(f:Value)(r:List V→Hp→VK→Prop):Prop :=
 ∀ (pins:List (Addr×Obj)) (s:Shared) (σ:St) (H:Hp) (xs:List V) (us:List Value) (Q:VK),Inv X pins σ H s→Vals xs us→r xs H Q →
  wpAny (model X.prog X.w) X.A (call f us) (EP X pins σ Q) X.xe s
noncomputable def tOp(r:R2)(ta tb:TE):TE:=fun σ H Q=>ta σ H fun x H1=>tb σ H1 fun y H2=>r x y H2 Q
noncomputable def rI(C:Int→Int→Prop)(g:Int→Int→V):R2:=fun x y H Q=>∃ i j,x=.int i∧y=.int j∧C i j∧Q (g i j) H
noncomputable def rI0(g:Int→Int→V):R2:=fun x y H Q=>∃ i j,x=.int i∧y=.int j∧Q (g i j) H
section
variable{X:Cx}{a b c:Expr}{ta tb tc:TE}{pos:Pos}
theorem binT(ha:PE X a ta)(hb:PE X b tb){pins:List (Addr×Obj)}{s:Shared}{σ:St}{H:Hp}{R:V→V→Hp→Prop}(I:Inv X pins σ H s)
  (h:ta σ H fun x H1=>tb σ H1 fun y H2=>R x y H2) {Q:Value→Shared→Prop} {f:Value→Value→Sem Value}
  (hf:∀ v u s2 x y H2,Inv X pins σ H2 s2→RelV x v→RelV y u→R x y H2→wpAny (model X.prog X.w) X.A (f v u) Q X.xe s2) :
  wpAny (model X.prog X.w) X.A (eval a X.env) (fun v s₁=>wpAny (model X.prog X.w) X.A (eval b X.env) (fun u s₂=>wpAny (model X.prog X.w) X.A (f v u) Q X.xe s₂) X.xe s₁) X.xe s:=by
 refine thn (ha pins s σ H _ I h) fun v s1 ⟨x,H1,I1,r1,q1⟩=>?_
 refine thn (hb pins s1 σ H1 _ I1 q1) fun u s2 ⟨y,H2,I2,r2,q2⟩=>?_
 exact hf v u s2 x y H2 I2 r1 r2 q2
theorem pe_op{op:Operator}{r:R2}(ho:OpR X (binaryOp op) r)(ha:PE X a ta)(hb:PE X b tb):PE X (.BinOp a op b pos) (tOp r ta tb):=by
 intro pins s σ H Q I h
 exact wpAny_BinOp (binT ha hb I h fun v u s2 x y H2 I2 rx ry q=>ho pins s2 σ H2 x y v u Q I2 rx ry q)
theorem opI{f:Value→Value→Sem Value}{C:Int→Int→Prop}{g:Int→Int→Int}
  (rule:∀ (i j:Int) (t u:Tok) (s:Shared) (Q:Value→Shared→Prop) (E:Value→Shared→Prop),C i j→Q (.int (g i j) s.toks) { s with toks:=s.toks+1 }→wpAny (model X.prog X.w) X.A (f (.int i t) (.int j u)) Q E s) :
  OpR X f (rI C fun i j=>.int (g i j)):=by
 intro pins s σ H x y v u Q I rx ry h
 obtain⟨i,j,rfl,rfl,hc,q⟩:=h
 obtain⟨t,rfl⟩:=rx
 obtain⟨t',rfl⟩:=ry
 exact rule i j t t' s _ _ hc ⟨.int (g i j),H,I.tok _,⟨_,rfl⟩,q⟩
theorem opI0{f:Value→Value→Sem Value}{g:Int→Int→Int}
  (rule:∀ (i j:Int) (t u:Tok) (s:Shared) (Q:Value→Shared→Prop) (E:Value→Shared→Prop),Q (.int (g i j) s.toks) { s with toks:=s.toks+1 }→wpAny (model X.prog X.w) X.A (f (.int i t) (.int j u)) Q E s) :
  OpR X f (rI0 fun i j=>.int (g i j)):=by
 intro pins s σ H x y v u Q I rx ry h
 obtain⟨i,j,rfl,rfl,q⟩:=h
 obtain⟨t,rfl⟩:=rx
 obtain⟨t',rfl⟩:=ry
 exact rule i j t t' s _ _ ⟨.int (g i j),H,I.tok _,⟨_,rfl⟩,q⟩
theorem opB0{f:Value→Value→Sem Value}{g:Int→Int→Bool}
  (rule:∀ (i j:Int) (t u:Tok) (s:Shared) (Q:Value→Shared→Prop) (E:Value→Shared→Prop),Q (.bool (g i j)) s→wpAny (model X.prog X.w) X.A (f (.int i t) (.int j u)) Q E s) :
  OpR X f (rI0 fun i j=>.bl (g i j)):=by
 intro pins s σ H x y v u Q I rx ry h
 obtain⟨i,j,rfl,rfl,q⟩:=h
 obtain⟨t,rfl⟩:=rx
 obtain⟨t',rfl⟩:=ry
 exact rule i j t t' s _ _ ⟨.bl (g i j),H,I,rfl,q⟩
noncomputable def CDiv(i j:Int):Prop:=0<j∧j<1073741824
noncomputable def CPow(i j:Int):Prop:=0≤j∧j≤1000000∧i.natAbs<2 ^ 64
noncomputable def CMul(i j:Int):Prop:=(-(2 ^ 64)<i∧i<2 ^ 64)∨(-(2 ^ 64)<j∧j<2 ^ 64)
theorem CMul.ok{i j:Int}(h:CMul i j):IntMulOk i j:=by
 rcases h with⟨h1,h2⟩|⟨h1,h2⟩
 ·exact .of_left (intBits_le_64 h1 h2)
 ·exact .of_right (intBits_le_64 h1 h2)
theorem op_add:OpR X (binaryOp .Add) (rI0 fun i j=>.int (i+j)):=opI0 fun _ _ _ _ _ _ _ q=>add_int q
theorem op_sub:OpR X (binaryOp .Sub) (rI0 fun i j=>.int (i-j)):=opI0 fun _ _ _ _ _ _ _ q=>sub_int q
theorem op_mul:OpR X (binaryOp .Mult) (rI CMul fun i j=>.int (i*j)):=opI fun _ _ _ _ _ _ _ hc q=>mul_int q hc.ok
theorem op_fdiv:OpR X (binaryOp .FloorDiv) (rI CDiv fun i j=>.int (i / j)):=opI fun i j _ _ _ _ _ hc q=>by
 have h1:(0:Int)<j:=hc.1
 have h2:j<1073741824:=hc.2
 exact floordiv_int (by omega) (by rw[Int.fdiv_eq_ediv_of_nonneg i (by omega)];exact q) (.inl (PyProof.noPylong_small (by omega)))
theorem op_mod:OpR X (binaryOp .Mod) (rI (fun _ j=>0<j) fun i j=>.int (i%j)):=opI fun i j _ _ _ _ _ hc q=>by
 have h1:(0:Int)<j:=hc
 exact mod_int' (by omega) (by rw[Int.fmod_eq_emod_of_nonneg i (by omega)];exact q)
theorem op_pow:OpR X (binaryOp .Pow) (rI CPow fun i j=>.int (i ^ j.toNat)):=opI fun _ _ _ _ _ _ _ hc q=>pow_int_small hc.1 hc.2.1 hc.2.2 q
end
noncomputable def scal:V→V→Bool
 | .non,.non=>true|.non,.int _=>true|.int _,.non=>true|.non,.bl _=>true|.bl _,.non=>true|.non,.str _=>true|.str _,.non=>true
 | .int _,.int _=>true|.bl _,.bl _=>true|.str _,.str _=>true|.byt _,.byt _=>true
 | .int _,.str _=>true|.str _,.int _=>true|.bl _,.str _=>true|.str _,.bl _=>true
 | _,_=>false
noncomputable def rEq:R2:=fun x y H Q=>scal x y=true∧Q (.bl (decide (x=y))) H
noncomputable def rNe:R2:=fun x y H Q=>scal x y=true∧Q (.bl (!decide (x=y))) H
theorem dec_int{i j:Int}:decide (V.int i=V.int j)=(i == j):=by
 rw[Bool.eq_iff_iff]
 simp
theorem dec_bl{i j:Bool}:decide (V.bl i=V.bl j)=(i == j):=by
 rw[Bool.eq_iff_iff]
 simp
theorem dec_str{i j:Str}:decide (V.str i=V.str j)=(i == j):=by
 rw[Bool.eq_iff_iff]
 simp
theorem dec_byt{i j:Array UInt8}:decide (V.byt i=V.byt j)=(i.toList == j.toList):=by
 rw[Bool.eq_iff_iff]
 cases i
 cases j
 simp
section
variable{X:Cx}{a b c:Expr}{ta tb tc:TE}{pos:Pos}
theorem fin_bl{pins:List (Addr×Obj)}{σ:St}{H:Hp}{s:Shared}{Q:VK}{k k':Bool}(I:Inv X pins σ H s)(q:Q (.bl k) H)(e:k=k'):EP X pins σ Q (.bool k') s:=by
 subst e
 exact⟨.bl k,H,I,rfl,q⟩
theorem op_eq:OpR X (compareOp .Eq) rEq:=by
 intro pins s σ H x y v u Q I rx ry h
 obtain⟨hs,q⟩:=h
 cases x with
 | non =>
  cases rx
  cases y with
  | non=>cases ry;exact PySem.EqNone.eq_none_none (fin_bl I q (by simp))
  | bl j=>cases ry;exact PySem.EqNone.eq_none_bool (fin_bl I q (by simp))
  | int j=>obtain⟨t',rfl⟩:=ry;exact PySem.EqNone.eq_none_int (fin_bl I q (by simp))
  | str j=>obtain⟨t',rfl⟩:=ry;exact PySem.EqNone.eq_none_str (fin_bl I q (by simp))
  | _=>exact absurd (show false=true from hs) Bool.false_ne_true
 | bl i =>
  cases rx
  cases y with
  | non=>cases ry;exact PySem.EqNone.eq_bool_none (fin_bl I q (by simp))
  | bl j=>cases ry;exact eq_bool (fin_bl I q dec_bl)
  | str j=>obtain⟨t',rfl⟩:=ry;exact PySem.EqMixed.eq_bool_str (fin_bl I q (by simp))
  | _=>exact absurd (show false=true from hs) Bool.false_ne_true
 | int i =>
  obtain⟨t,rfl⟩:=rx
  cases y with
  | non=>cases ry;exact PySem.EqNone.eq_int_none (fin_bl I q (by simp))
  | int j=>obtain⟨t',rfl⟩:=ry;exact eq_int (fin_bl I q dec_int)
  | str j=>obtain⟨t',rfl⟩:=ry;exact PySem.EqMixed.eq_int_str (fin_bl I q (by simp))
  | _=>exact absurd (show false=true from hs) Bool.false_ne_true
 | str i =>
  obtain⟨t,rfl⟩:=rx
  cases y with
  | non=>cases ry;exact PySem.EqNone.eq_str_none (fin_bl I q (by simp))
  | bl j=>cases ry;exact PySem.EqMixed.eq_str_bool (fin_bl I q (by simp))
  | int j=>obtain⟨t',rfl⟩:=ry;exact PySem.EqMixed.eq_str_int (fin_bl I q (by simp))
  | str j=>obtain⟨t',rfl⟩:=ry;exact eq_str (fin_bl I q dec_str)
  | _=>exact absurd (show false=true from hs) Bool.false_ne_true
 | byt i =>
  obtain⟨t,rfl⟩:=rx
  cases y with
  | byt j=>obtain⟨t',rfl⟩:=ry;exact PySem.W.eq_bytes (fin_bl I q dec_byt)
  | _=>exact absurd (show false=true from hs) Bool.false_ne_true
 | _=>cases y<;>exact absurd (show false=true from hs) Bool.false_ne_true
theorem op_ne:OpR X (compareOp .NotEq) rNe:=by
 intro pins s σ H x y v u Q I rx ry h
 obtain⟨hs,q⟩:=h
 cases x with
 | non =>
  cases rx
  cases y with
  | non=>cases ry;exact PySem.EqNone.ne_none_none (fin_bl I q (by simp))
  | bl j=>cases ry;exact PySem.EqNone.ne_none_bool (fin_bl I q (by simp))
  | int j=>obtain⟨t',rfl⟩:=ry;exact PySem.EqNone.ne_none_int (fin_bl I q (by simp))
  | str j=>obtain⟨t',rfl⟩:=ry;exact PySem.EqNone.ne_none_str (fin_bl I q (by simp))
  | _=>exact absurd (show false=true from hs) Bool.false_ne_true
 | bl i =>
  cases rx
  cases y with
  | non=>cases ry;exact PySem.EqNone.ne_bool_none (fin_bl I q (by simp))
  | bl j=>cases ry;exact ne_bool (fin_bl I q (congrArg not dec_bl))
  | str j=>obtain⟨t',rfl⟩:=ry;exact PySem.EqMixed.ne_bool_str (fin_bl I q (by simp))
  | _=>exact absurd (show false=true from hs) Bool.false_ne_true
 | int i =>
  obtain⟨t,rfl⟩:=rx
  cases y with
  | non=>cases ry;exact PySem.EqNone.ne_int_none (fin_bl I q (by simp))
  | int j=>obtain⟨t',rfl⟩:=ry;exact ne_int (fin_bl I q (congrArg not dec_int))
  | str j=>obtain⟨t',rfl⟩:=ry;exact PySem.EqMixed.ne_int_str (fin_bl I q (by simp))
  | _=>exact absurd (show false=true from hs) Bool.false_ne_true
 | str i =>
  obtain⟨t,rfl⟩:=rx
  cases y with
  | non=>cases ry;exact PySem.EqNone.ne_str_none (fin_bl I q (by simp))
  | bl j=>cases ry;exact PySem.EqMixed.ne_str_bool (fin_bl I q (by simp))
  | int j=>obtain⟨t',rfl⟩:=ry;exact PySem.EqMixed.ne_str_int (fin_bl I q (by simp))
  | str j=>obtain⟨t',rfl⟩:=ry;exact ne_str (fin_bl I q (congrArg not dec_str))
  | _=>exact absurd (show false=true from hs) Bool.false_ne_true
 | byt i =>
  obtain⟨t,rfl⟩:=rx
  cases y with
  | byt j=>obtain⟨t',rfl⟩:=ry;exact PySem.W.ne_bytes (fin_bl I q (congrArg not dec_byt))
  | _=>exact absurd (show false=true from hs) Bool.false_ne_true
 | _=>cases y<;>exact absurd (show false=true from hs) Bool.false_ne_true
theorem op_lt:OpR X (compareOp .Lt) (rI0 fun i j=>.bl (decide (i<j))):=opB0 fun _ _ _ _ _ _ _ q=>lt_int q
theorem op_in_str:OpR X (compareOp .In) (fun x y H Q=>∃ i j,x=.str i∧y=.str j∧Q (.bl (!(Builtin.Str.occurrences j i 0 j.length 1).isEmpty)) H):=by
 intro pins s σ H x y v u Q I rx ry h
 obtain⟨i,j,rfl,rfl,q⟩:=h
 obtain⟨t,rfl⟩:=rx
 obtain⟨t',rfl⟩:=ry
 exact in_str (fin_bl I q rfl)
theorem OpR.or{f:Value→Value→Sem Value}{r r':R2}(h:OpR X f r)(h':OpR X f r'):OpR X f (fun x y H Q=>r x y H Q∨r' x y H Q):=by
 intro pins s σ H x y v u Q I rx ry q
 rcases q with q|q
 ·exact h pins s σ H x y v u Q I rx ry q
 ·exact h' pins s σ H x y v u Q I rx ry q
theorem nomark(b:Expr){op:CmpOp}(h:op≠.In:=by decide)(h2:op≠.NotIn:=by decide):behindInMarks op b=false:=by
 have e1:(op == CmpOp.In)=false:=by cases op<;>first|rfl|exact absurd rfl h
 have e2:(op == CmpOp.NotIn)=false:=by cases op<;>first|rfl|exact absurd rfl h2
 cases b<;>simp[behindInMarks,e1,e2]
theorem pe_cmpR{op:CmpOp}{r:R2}(ho:OpR X (compareOp op) r)(ha:PE X a ta)(hb:PE X b tb)(hm:behindInMarks op b=false):PE X (.Compare a [op] [b] pos) (tOp r ta tb):=by
 intro pins s σ H Q I h
 exact wpAny_Compare1 (binT ha hb I h fun v u s2 x y H2 I2 rx ry q=>ho pins s2 σ H2 x y v u Q I2 rx ry q) hm
noncomputable def tTest(t:TE):TT:=fun σ H Q=>t σ H fun x H'=>∃ k,x=.bl k∧Q k H'
theorem pt_cmpR{op:CmpOp}{r:R2}(ho:OpR X (compareOp op) r)(ha:PE X a ta)(hb:PE X b tb)(hm:behindInMarks op b=false):PT X (.Compare a [op] [b] pos) (tTest (tOp r ta tb)):=by
 intro pins s σ H Q I h
 refine wpAny_isTrue_Compare1 (thn (ha pins s σ H _ I h) fun v s1 ⟨x,H1,I1,r1,q1⟩=>thn (hb pins s1 σ H1 _ I1 q1) fun u s2 ⟨y,H2,I2,r2,q2⟩ =>
  thn (ho pins s2 σ H2 x y v u _ I2 r1 r2 q2) fun c s3 ⟨z,H3,I3,r3,k,e,q3⟩=>?_) hm
 subst e
 cases r3
 exact wpAny_truthy_bool ⟨H3,I3,q3⟩
theorem line63:(sizeLine:Nat)<2 ^ 63:=by rw[sizeLine_eq];decide
theorem op_add_str:OpR X (binaryOp .Add) (fun x y H Q=>∃ i j,x=.str i∧y=.str j∧i.length+j.length≤sizeLine∧Q (.str (i++j)) H):=by
 intro pins s σ H x y v u Q I rx ry h
 obtain⟨i,j,rfl,rfl,hz,q⟩:=h
 obtain⟨t,rfl⟩:=rx
 obtain⟨t',rfl⟩:=ry
 exact add_str (fun t' tk=>⟨.str (i++j),H,I.tok _,⟨_,rfl⟩,q⟩) hz
theorem vals1{x:V}{us:List Value}(r:Vals [x] us):∃ u,us=[u]∧RelV x u:=by
 cases r with
 | cons r1 r2=>cases r2;exact⟨_,rfl,r1⟩
theorem vals2{x y:V}{us:List Value}(r:Vals [x,y] us):∃ u w',us=[u,w']∧RelV x u∧RelV y w':=by
 cases r with
 | cons r1 r2 =>
  cases r2 with
  | cons r3 r4=>cases r4;exact⟨_,_,rfl,r1,r3⟩
end
end L2
namespace L2
open PySem PySem.Spec PyProof.Rows
structure ObjM(h:Heap)(x dx C:Addr)(mA:Str→Option Value):Prop where
 obj:h.get? x=some (PySem.W.instObj C dx)
 ns:h.Ns1 dx mA
 ne:dx≠x
theorem lookIn_ns{h:Heap}{dx:Addr}{mA:Str→Option Value}(n:h.Ns1 dx mA):∃ od,h.get? dx=some od∧∀ name,PySem.W.lookIn name od=some (mA name):=by
 obtain⟨o,es,ep,ho,hd,hk,_,hm⟩:=n
 refine⟨o,ho,fun name=>?_⟩
 have e:=hm name
 unfold nsFind findBy at e
 rw[← Array.find?_toList] at e
 unfold PySem.W.lookIn
 rw[hd]
 dsimp only
 split
 ·rename_i y q
  rw[q] at e
  exact congrArg some e
 ·rename_i q
  rw[q] at e
  have a:es.toList.any (·.refKey)=false:=by
   rw[List.any_eq_false]
   intro y hy
   obtain⟨z,t,hkey⟩:=hk y (Array.mem_toList_iff.mp hy)
   simp[DictEntry.refKey,hkey]
  have a':¬ es.toList.any (·.refKey)=true:=by rw[a];exact Bool.false_ne_true
  rw[if_neg a']
  exact congrArg some e
theorem ObjM.look{h:Heap}{x dx C:Addr}{mA:Str→Option Value}(I:ObjM h x dx C mA):∃ od,PySem.W.InstAt h x (PySem.W.instObj C dx) C (some od)∧∀ name,PySem.W.lookIn name od=some (mA name) :=
 let ⟨od,ho,hl⟩:=lookIn_ns I.ns
 ⟨od,⟨I.obj,rfl,rfl,ho⟩,hl⟩
section
variable{prog:Program}{w:World}{A:Around}{E:Value→Shared→Prop}{s:Shared}{K:W.Frag}{x dx C f:Addr}{mA:Str→Option Value}{name:Str}{v:Value}
theorem get_map{expr:Bool}{Q:Value→Shared→Prop}(X:K.In s.heap)(I:ObjM s.heap x dx C mA)(hg:PySem.W.plainGet K C name=true)(hh:PySem.W.hasDictIn K C=true)
  (ha:PySem.W.findIn K (.ref C) name=some none) (hv:mA name=some v) (hv':PySem.W.handedIn v=true) (h:Q v { s with toks:=s.toks+1 }) :
  wpAny (model prog w) A (getAttr (.ref x) name expr) Q E s:=by
 obtain⟨od,J,hl⟩:=I.look
 exact PySem.W.get_value X J (PySem.W.plainGet_of hg).1 (PySem.W.findObj_own hh ha rfl (by rw[hl,hv])) hv' h
theorem get_meth{pl:Sem Bool}{Q:Value×List Value→Shared→Prop}(X:K.In s.heap)(I:ObjM s.heap x dx C mA)(hg:PySem.W.plainGet K C name=true)
  (hf:PySem.W.findIn K (.ref C) name=some (some (.ref f))) (ht:PySem.W.isFn K (.ref f)=true) (hv:mA name=none) (h:Q (.ref f,[.ref x]) s) :
  wpAny (model prog w) A (getMethod (.ref x) name pl) Q E s:=by
 obtain⟨od,J,hl⟩:=I.look
 exact PySem.W.method_fn X J (PySem.W.plainGet_of hg).1 (PySem.W.plainGet_of hg).2 hf (beq_iff_eq.mp ht) (by show (PySem.W.lookIn name od).map (·.isSome)=some false;rw[hl,hv];rfl) h
theorem set_map{ns:List Str}{Q:Unit→Shared→Prop}(X:K.In s.heap)(I:ObjM s.heap x dx C mA)
  (hs:PySem.W.findIn K (.ref C) "__setattr__" = some (some (.builtin "object.__setattr__"))) (hp:PySem.W.plainOver K C=true) (ht:PySem.W.takerIn K C name=some none) (hh:PySem.W.hasDictIn K C=true)
  (hw:PySem.Within mA ns) (hsz:ns.length≤sizeLine)
  (h:∀ h',ObjM h' x dx C (fun y=>if y=name then some v else mA y)→Heap.SameBut dx s.heap h'→Q () { s with heap:=h',toks:=s.toks+2 }) :
  wpAny (model prog w) A (setAttr (.ref x) name v) Q E s:=by
 obtain⟨od,J,hl⟩:=I.look
 refine PySem.W.set_plain X J hs (PySem.W.osa_open (s:={ s with toks:=s.toks+1 }) (r:=none) X J hp ht fun b=>?_)
 obtain⟨cd,hc,hd'⟩:=PySem.W.any_some hh
 have hx:s.heap.get? x=some ⟨.ref C,some dx,.plain,#[]⟩:=I.obj
 refine wpAny_bind (wpAny_pure (wpAny_bind (wpAny_bind (wpAny_loadPart hx (wpAny_bind (PySem.W.Looks.here (s:={ s with toks:=s.toks+1 }) (PySem.W.looks_clsIn X hc) ?_))))))
 rw[hd']
 refine wpAny_pure (a:=some dx) (wpAny_bind (wpAny_pure (wpAny_bind ?_)))
 refine wpAny_nsSet1 (s:={ s with toks:=s.toks+1 }) I.ns fun h' hn2 hs2=>?_
 obtain⟨oD,esD,epD,hoD,hdD,hcD⟩:=hn2.count (PySem.Within.cons name v hw)
 refine wpAny_bind (wpAny_lookBehind hoD (by rw[hdD];exact pastItsLine_dict (Nat.le_trans hcD (by rw[List.length_cons];omega))) ?_)
 exact wpAny_pure (h _ ⟨(hs2.2 _ (Ne.symm I.ne)).trans I.obj,hn2,I.ne⟩ hs2)
theorem make_map{R:Result→Shared→Prop}{vs:List Value}{kw:List (Str×Value)}(X:K.In s.heap)(hm:PySem.W.makesIn K C=true)
  (hi:PySem.W.findIn K (.ref C) "__init__" = some (some (.ref f))) (hf:PySem.W.typeIn K (.ref f)=some (.type "function"))
  (h:codeAny (model prog w) (A.under (.builtin "type.__call__" ⟨.ref C::vs,kw⟩)) (.call (.ref f) ⟨.ref (s.heap.objs.size+1)::vs,kw⟩) (PySem.W.InitBack (s.heap.objs.size+1) R)
   { s with heap:=(s.heap.push PySem.W.emptyDict).push (PySem.W.instObj C s.heap.objs.size) }) :
  codeAny (model prog w) A (.call (.ref C) ⟨vs,kw⟩) R s:=by
 obtain⟨hh,g,d,t,os⟩:=s
 exact PySem.W.make_core (PySem.W.makes_of X hm) (PySem.W.looks_findIn X hi) (fun self=>PySem.W.bind_fn X self hf) (.inl rfl) h
end
noncomputable def putF(f:Str)(v:V):List (Str×V)→List (Str×V)
 | []=>[(f,v)]
 | (g,x)::r=>if g=f then (g,v)::r else (g,x)::putF f v r
theorem lookup_putF(f g:Str)(v:V):∀ fs:List (Str×V),(putF f v fs).lookup g=if g=f then some v else fs.lookup g
 | []=>by
  show List.lookup g [(f,v)]=_
  by_cases h:g=f
  ·have hb:(g == f)=true:=beq_iff_eq.mpr h
   simp only[List.lookup,hb,if_pos h]
  ·have hb:(g == f)=false:=beq_eq_false_iff_ne.mpr h
   simp only[List.lookup,hb,if_neg h]
 | (k,x)::r=>by
  have ih:=lookup_putF f g v r
  rw[show putF f v ((k,x)::r)=(if k=f then (k,v)::r else (k,x)::putF f v r) from rfl]
  by_cases hk:k=f
  ·rw[if_pos hk]
   by_cases h:g=k
   ·have hb:(g == k)=true:=beq_iff_eq.mpr h
    simp only[List.lookup,hb,if_pos (h.trans hk)]
   ·have hb:(g == k)=false:=beq_eq_false_iff_ne.mpr h
    simp only[List.lookup,hb,if_neg (fun e:g=f=>h (e.trans hk.symm))]
  ·rw[if_neg hk]
   by_cases h:g=k
   ·have hb:(g == k)=true:=beq_iff_eq.mpr h
    simp only[List.lookup,hb,if_neg (fun e:g=f=>hk (h.symm.trans e))]
   ·have hb:(g == k)=false:=beq_eq_false_iff_ne.mpr h
    simp only[List.lookup,hb]
    exact ih
theorem keys_putF(f:Str)(v:V):∀ fs:List (Str×V),f∈(putF f v fs).map (·.1)∧∀ g,g∈fs.map (·.1)→g∈(putF f v fs).map (·.1)
 | []=>⟨by simp[putF],fun g h=>by simp at h⟩
 | (k,x)::r=>by
  obtain⟨i1,i2⟩:=keys_putF f v r
  rw[show putF f v ((k,x)::r)=(if k=f then (k,v)::r else (k,x)::putF f v r) from rfl]
  by_cases hk:k=f
  ·rw[if_pos hk]
   subst hk
   exact⟨by simp,fun g h=>by simpa using h⟩
  ·rw[if_neg hk]
   refine⟨?_,fun g h=>?_⟩
   ·rw[List.map_cons]
    exact List.mem_cons_of_mem _ i1
   ·rw[List.map_cons] at h ⊢
    rcases List.mem_cons.mp h with e|e
    ·exact List.mem_cons.mpr (.inl e)
    ·exact List.mem_cons_of_mem _ (i2 g e)
theorem length_putF(f:Str)(v:V):∀ fs:List (Str×V),(putF f v fs).length≤fs.length+1
 | []=>by simp[putF]
 | (k,x)::r=>by
  have ih:=length_putF f v r
  rw[show putF f v ((k,x)::r)=(if k=f then (k,v)::r else (k,x)::putF f v r) from rfl]
  by_cases hk:k=f
  ·rw[if_pos hk,List.length_cons,List.length_cons];omega
  ·rw[if_neg hk,List.length_cons,List.length_cons];omega
theorem RelO.some_of{v:V}{o:Option Value}(r:RelO (some v) o):∃ u,o=some u∧RelV v u:=by
 cases o with
 | none=>exact (show False from r).elim
 | some u=>exact⟨u,rfl,r⟩
theorem RelO.none_of{o:Option Value}(r:RelO none o):o=none:=by
 cases o with
 | none=>rfl
 | some u=>exact (show False from r).elim
theorem handed_of{v:V}{u:Value}(r:RelV v u):PySem.W.handedIn u=true:=by
 cases v with
 | non=>cases (show u=Value.none from r);rfl
 | bl b=>cases (show u=Value.bool b from r);rfl
 | int i=>obtain⟨t,e⟩:=(show ∃ t,u=Value.int i t from r);cases e;rfl
 | str x=>obtain⟨t,e⟩:=(show ∃ t,u=Value.str x t from r);cases e;rfl
 | byt b=>obtain⟨t,e⟩:=(show ∃ t,u=Value.bytes b t from r);cases e;rfl
 | flt b=>obtain⟨t,e⟩:=(show ∃ t,u=Value.float b t from r);cases e;rfl
 | ref a=>cases (show u=Value.ref a from r);rfl
 | ty n=>cases (show u=Value.type n from r);rfl
section
variable{P:Program}{w:World}{H H':Hp}{h h':Heap}{a C dx:Addr}{fs fs':List (Str×V)}
theorem ins_get(hok:HOk P w H h)(e:H a=some (.ins C dx fs)):∃ mA,ObjM h a dx C mA∧(∀ f,RelO (fs.lookup f) (mA f))∧PySem.Within mA (fs.map (·.1))∧fs.length≤1000∧H dx=some (.own a):=by
 obtain⟨d,z,ne,ob,mA,n,r,q⟩:=(show ObjOk P w H h a (.ins C dx fs) from hok a _ e)
 exact⟨mA,⟨ob,n,ne⟩,r,q,z,d⟩
end
structure Cls(K:W.Frag)(C:Addr):Prop where
 pg:PySem.W.plainGet K C Str.empty=true
 hd:PySem.W.hasDictIn K C=true
 po:PySem.W.plainOver K C=true
 sa:PySem.W.findIn K (.ref C) "__setattr__" = some (some (.builtin "object.__setattr__"))
theorem Cls.get{K:W.Frag}{C:Addr}(c:Cls K C)(f:Str):PySem.W.plainGet K C f=true:=c.pg
noncomputable def NoAttr(K:W.Frag)(C:Addr)(f:Str):Prop:=PySem.W.findIn K (.ref C) f=some none
theorem NoAttr.taker{K:W.Frag}{C:Addr}{f:Str}(n:NoAttr K C f):PySem.W.takerIn K C f=some none:=by
 unfold PySem.W.takerIn
 rw[show PySem.W.findIn K (.ref C) f=some none from n]
 rfl
structure Meth(K:W.Frag)(C:Addr)(m:Str)(f:Addr):Prop where
 at_:PySem.W.findIn K (.ref C) m=some (some (.ref f))
 fn:PySem.W.isFn K (.ref f)=true
 kp:PySem.W.keepIn K (.ref f)=true
section
variable{X:Cx}{pins:List (Addr×Obj)}{σ:St}{H:Hp}{s:Shared}{a C dx:Addr}{fs:List (Str×V)}{f:Str}{v:V}{A:Around}{E:Value→Shared→Prop}
theorem getattr_ok{b:Bool}{Q:Value→Shared→Prop}(I:Inv X pins σ H s)(e:H a=some (.ins C dx fs))(c:Cls X.K C)(n:NoAttr X.K C f)(l:fs.lookup f=some v)
  (h:∀ u s',Inv X pins σ H s'→RelV v u→Q u s'):wpAny (model X.prog X.w) A (getAttr (.ref a) f b) Q E s:=by
 obtain⟨mA,O,r,_,_,_⟩:=ins_get I.hok e
 obtain⟨u,hu,ru⟩:=RelO.some_of (v:=v) (o:=mA f) (by rw[← l];exact r f)
 exact get_map I.kIn O (c.get f) c.hd n hu (handed_of ru) (h u _ (I.tok _) ru)
theorem getmeth_ok{m:Str}{g:Addr}{pl:Sem Bool}{Q:Value×List Value→Shared→Prop}(I:Inv X pins σ H s)(e:H a=some (.ins C dx fs))(c:Cls X.K C)(k:Meth X.K C m g)(l:fs.lookup m=none)
  (h:Q (.ref g,[.ref a]) s):wpAny (model X.prog X.w) A (getMethod (.ref a) m pl) Q E s:=by
 obtain⟨mA,O,r,_,_,_⟩:=ins_get I.hok e
 have hn:mA m=none:=RelO.none_of (by rw[← l];exact r m)
 exact get_meth I.kIn O (c.get m) k.at_ k.fn hn h
theorem setattr_ok{y:V}{u:Value}{Q:Unit→Shared→Prop}(I:Inv X pins σ H s)(e:H a=some (.ins C dx fs))(c:Cls X.K C)(n:NoAttr X.K C f)(hl:fs.length<1000)(ry:RelV y u)
  (h:∀ s',Inv X pins σ (upd H a (.ins C dx (putF f y fs))) s'→Q () s'):wpAny (model X.prog X.w) A (setAttr (.ref a) f u) Q E s:=by
 obtain⟨mA,O,r,wi,_,ho⟩:=ins_get I.hok e
 have hz:(fs.map (·.1)).length≤sizeLine:=by rw[List.length_map,sizeLine_eq];omega
 refine set_map I.kIn O c.sa c.po n.taker c.hd wi hz fun h' O' sb=>h _ ?_
 have hd:∃ o,h'.get? dx=some o:=let ⟨o,_,_,e',_⟩:=O'.ns;⟨o,e'⟩
 refine I.write (x:=a) (e:=dx) (by rw[e];exact True.intro) (.inr ho) (fun b q hb z=>(sb.2 b hb).trans z) hd ?_
 refine⟨by rw[upd_ne O.ne];exact ho,?_,O.ne,O'.obj,_,O'.ns,fun g=>?_,fun g hg=>?_⟩
 ·have:=length_putF f y fs;omega
 ·show RelO ((putF f y fs).lookup g) (if g=f then some u else mA g)
  rw[lookup_putF]
  by_cases q:g=f
  ·rw[if_pos q,if_pos q];exact ry
  ·rw[if_neg q,if_neg q];exact r g
 ·by_cases q:g=f
  ·rw[q];exact (keys_putF f y fs).1
  ·refine (keys_putF f y fs).2 g (wi g fun z=>hg ?_)
   show (if g=f then some u else mA g)=none
   rw[if_neg q];exact z
theorem Inv.made(I:Inv X pins σ H s):Inv X pins σ (upd (upd H s.heap.objs.size (.own (s.heap.objs.size+1))) (s.heap.objs.size+1) (.ins C s.heap.objs.size []))
  { s with heap:=(s.heap.push PySem.W.emptyDict).push (PySem.W.instObj C s.heap.objs.size) }:=by
 have e1:(s.heap.push PySem.W.emptyDict).get? s.heap.objs.size=some PySem.W.emptyDict:=Heap.get?_push_size s.heap rfl
 have e2:((s.heap.push PySem.W.emptyDict).push (PySem.W.instObj C s.heap.objs.size)).get? (s.heap.objs.size+1)=some (PySem.W.instObj C s.heap.objs.size):=by
  have:=Heap.get?_push_size (s.heap.push PySem.W.emptyDict) (o:=PySem.W.instObj C s.heap.objs.size) rfl
  rwa [Heap.size_push] at this
 have e3:(s.heap.push PySem.W.emptyDict).Ns s.heap.objs.size (fun _=>none):=⟨PySem.W.emptyDict,#[],_,e1,rfl,(fun e he=>absurd he (by simp)),fun _=>rfl⟩
 have I1:=I.laid (a:=s.heap.objs.size) (o:=.own (s.heap.objs.size+1)) (h':=s.heap.push PySem.W.emptyDict) (t':=s.toks) (fun b u q=>Heap.get?_push_of_some _ q) (Nat.le_refl _) ⟨_,e1⟩
 refine I1.laid (a:=s.heap.objs.size+1) (o:=.ins C s.heap.objs.size []) (t':=s.toks) (fun b u q=>Heap.get?_push_of_some _ q) (Nat.le_of_eq (Heap.size_push _ _)) ?_
 have ne:s.heap.objs.size≠s.heap.objs.size+1:=Nat.ne_of_lt (Nat.lt_succ_self _)
 refine⟨by rw[upd_ne ne,upd_same],Nat.zero_le _,ne,e2,fun _=>none,(Heap.Ns1.of_empty e3).at fun o q=>Heap.get?_push_of_some _ q,fun _=>True.intro,fun y hy=>absurd rfl hy⟩
theorem attr_of{prog:Program}{w:World}{env:Env}{e:Expr}{f:Str}{pos:Pos}{s:Shared}{Q:Value→Shared→Prop}(hb:attributeBase e f env (eval e env)=eval e env)
  (h:wpAny (model prog w) A (eval e env) (fun o s₁=>wpAny (model prog w) A (getAttr o f true) Q E s₁) E s):wpAny (model prog w) A (eval (.Attribute e f pos) env) Q E s :=
 Attribute_any_ h (by rw[arm_eval_Attribute,hb])
end
noncomputable def tFld(K:W.Frag)(ta:TE)(f:Str):TE:=fun σ H Q=>ta σ H fun x H1=>∃ a C dx fs v,x=.ref a∧H1 a=some (.ins C dx fs)∧Cls K C∧NoAttr K C f∧fs.lookup f=some v∧Q v H1
noncomputable def sFld(K:W.Frag)(ta tv:TE)(f:Str):TS:=fun D σ H=>tv σ H fun y H1=>ta σ H1 fun x H2=>∃ a C dx fs,x=.ref a∧H2 a=some (.ins C dx fs)∧Cls K C∧NoAttr K C f∧fs.length<1000 ∧
 D.nx σ (upd H2 a (.ins C dx (putF f y fs)))
section
variable{X:Cx}{o e value:Expr}{f:Str}{pos pos' tpos:Pos}{ta tv:TE}
theorem pe_fld(he:PE X e ta)(hb:attributeBase e f X.env (eval e X.env)=eval e X.env):PE X (.Attribute e f pos) (tFld X.K ta f):=by
 intro pins s σ H Q I h
 refine attr_of hb (thn (he pins s σ H _ I h) fun u s1 ⟨x,H1,I1,rx,a,C,dx,fs,v,ex,ea,c,n,l,q⟩=>?_)
 subst ex
 obtain rfl:u=Value.ref a:=rx
 exact getattr_ok I1 ea c n l fun u' s2 I2 ru=>⟨v,H1,I2,ru,q⟩
theorem ps_fld(ha:PE X o ta)(hv:PE X value tv)(hs:swapsWith value (some (.Attribute o f pos')) pos.line X.env=pure false):PS X (.Assign [.Attribute o f pos'] value pos) (sFld X.K ta tv f):=by
 intro pins s σ H D I h
 refine plainObj_wpAny_Assign_Attribute (thn (hv pins s σ H _ I h) fun u s1 ⟨y,H1,I1,ry,q⟩=>thn (ha pins s1 σ H1 _ I1 q) fun ov s2 ⟨x,H2,I2,rx,a,C,dx,fs,ex,ea,c,n,l,q2⟩=>?_) hs
 subst ex
 obtain rfl:ov=Value.ref a:=rx
 exact setattr_ok I2 ea c n l ry fun s3 I3=>⟨σ,_,I3,q2⟩
end
section
variable{X:Cx}{pins:List (Addr×Obj)}{σ:St}{H:Hp}{s:Shared}{A:Around}{E:Value→Shared→Prop}{Q:Value→Shared→Prop}{c:Value}{b:Bool}
inductive TyOf(K:W.Frag)(H:Hp):V→Value→Prop where
 | non:TyOf K H .non (.type "NoneType")
 | bl (x:Bool):TyOf K H (.bl x) (.type "bool")
 | int (i:Int):TyOf K H (.int i) (.type "int")
 | str (x:Str):TyOf K H (.str x) (.type "str")
 | flt (x:UInt64):TyOf K H (.flt x) (.type "float")
 | lst {a:Addr} {xs:List V} (e:H a=some (.lst xs)):TyOf K H (.ref a) (.type "list")
 | frz {a:Addr} {o:Obj} {xs:List V} (e:H a=some (.frz o (.lst xs))):TyOf K H (.ref a) (.type "list")
 | tup {a:Addr} {xs:List V} (e:H a=some (.tup xs)):TyOf K H (.ref a) (.type "tuple")
 | dK {a:Addr} {kvs:List (Key×V)} (e:H a=some (.dK kvs)):TyOf K H (.ref a) (.type "dict")
 | dT {a:Addr} {kvs:List (List Key×V)} (e:H a=some (.dT kvs)):TyOf K H (.ref a) (.type "dict")
 | ins {a C dx:Addr} {fs:List (Str×V)} (e:H a=some (.ins C dx fs)) (cl:Cls K C) (ha:PySem.W.findIn K (.ref C) "__class__" = some (some (.builtin "object.__class__")))
   (hn:PySem.W.specialIn K (.builtin "object.__class__") "__get__" = some (some (.builtin "getset_descriptor.__get__"))) (htk:PySem.W.takesIn K (.builtin "object.__class__")=some true)
   (hm:PySem.W.mroIn K C (.type "object")=some true):TyOf K H (.ref a) (.ref C)
theorem isinst_ok{x:V}{u t:Value}(I:Inv X pins σ H s)(rx:RelV x u)(ty:TyOf X.K H x t)(e:PySem.W.kitOne X.K t c=some b)(h:∀ tk,Q (.bool b) { s with toks:=tk }) :
  wpAny (model X.prog X.w) A (call (.builtin "isinstance") [u,c]) Q E s:=by
 cases ty with
 | non=>cases (show u=Value.none from rx);exact PySem.W.kia_one PySem.W.kitx_none I.kIn True.intro e (fun z=>nomatch z) h
 | bl y=>cases (show u=Value.bool y from rx);exact PySem.W.kia_one PySem.W.kitx_bool I.kIn True.intro e (fun z=>nomatch z) h
 | int i=>obtain⟨t,q⟩:=(show ∃ t,u=Value.int i t from rx);cases q;exact PySem.W.kia_one PySem.W.kitx_int I.kIn True.intro e (fun z=>nomatch z) h
 | str y=>obtain⟨t,q⟩:=(show ∃ t,u=Value.str y t from rx);cases q;exact PySem.W.kia_one PySem.W.kitx_str I.kIn True.intro e (fun z=>nomatch z) h
 | flt y=>obtain⟨t,q⟩:=(show ∃ t,u=Value.float y t from rx);cases q;exact PySem.W.kia_one PySem.W.kitx_float I.kIn True.intro e (fun z=>nomatch z) h
 | @lst a xs ea =>
  cases (show u=Value.ref a from rx)
  obtain⟨_,_,n,_,h1⟩:=(show ObjOk X.prog X.w H s.heap a (.lst xs) from I.hok a _ ea)
  exact PySem.W.kia_one PySem.W.kitx_list I.kIn ⟨_,h1,rfl⟩ e (fun z=>nomatch z) h
 | @frz a ob xs ea =>
  cases (show u=Value.ref a from rx)
  obtain⟨_,_,_,n,_,h1⟩:=(show ObjOk X.prog X.w H s.heap a (.frz ob (.lst xs)) from I.hok a _ ea)
  exact PySem.W.kia_one PySem.W.kitx_list I.kIn ⟨_,h1,rfl⟩ e (fun z=>nomatch z) h
 | @tup a xs ea =>
  cases (show u=Value.ref a from rx)
  obtain⟨_,_,_,p⟩:=(show ObjOk X.prog X.w H s.heap a (.tup xs) from I.hok a _ ea)
  obtain⟨o,h1,h2,_⟩:=p
  exact PySem.W.kia_one PySem.W.kitx_tuple I.kIn ⟨o,h1,h2⟩ e (fun z=>nomatch z) h
 | @dK a kvs ea =>
  cases (show u=Value.ref a from rx)
  obtain⟨_,_,vs,_,p⟩:=(show ObjOk X.prog X.w H s.heap a (.dK kvs) from I.hok a _ ea)
  obtain⟨o,es,ep,h1,h2,_⟩:=p
  exact PySem.W.kia_one PySem.W.kitx_dict I.kIn ⟨o,h1,h2.1⟩ e (fun z=>nomatch z) h
 | @dT a kvs ea =>
  cases (show u=Value.ref a from rx)
  obtain⟨_,_,xs,_,o,es,ep,h1,h2,_⟩:=(show ObjOk X.prog X.w H s.heap a (.dT kvs) from I.hok a _ ea)
  exact PySem.W.kia_one PySem.W.kitx_dict I.kIn ⟨o,h1,h2.1⟩ e (fun z=>nomatch z) h
 | @ins a C dx fs ea cl ha hn htk hm =>
  cases (show u=Value.ref a from rx)
  obtain⟨mA,O,_⟩:=ins_get I.hok ea
  obtain⟨od,J,_⟩:=O.look
  exact PySem.W.kia_one (PySem.W.kitx_own (cl.get _) cl.hd ha hn htk hm) I.kIn J e (fun z=>nomatch z) h
end
end L2
namespace L2
open PySem PySem.Spec PyProof.Rows
structure Room(k:Nat)(A:Around):Prop where
 hd:A.handled=none
 dp:A.depth+3*k+5<recursionLimit
 un:A.units+16*k+200<cLine
theorem Room.mono{j k:Nat}{A:Around}(r:Room k A)(h:j≤k):Room j A:=⟨r.hd,by have:=r.dp;omega,by have:=r.un;omega⟩
theorem Room.deeper{k:Nat}{A:Around}(r:Room (k+1) A)(env:Env):Room k (A.deeper env) :=
 ⟨r.hd,by have:=r.dp;show A.depth+1+3*k+5<_;omega,by have:=r.un;show A.units+3+16*k+200<_;omega⟩
theorem make_depth{A:Around}{C:Addr}{us:List Value}{kw:List (Str×Value)}:(A.under (.builtin "type.__call__" ⟨.ref C::us,kw⟩)).depth=A.depth+1:=by
 first|rfl|simp[Around.under,Code.weight,Code.isCreation,Code.isGuard,Code.isCaller,Code.frames,Code.isFrame,guardIds]
theorem make_units{A:Around}{C:Addr}{us:List Value}{kw:List (Str×Value)}:(A.under (.builtin "type.__call__" ⟨.ref C::us,kw⟩)).units=A.units+1:=by
 first|rfl|simp[Around.under,Code.cUnits,Code.frames,Code.isFrame]
theorem Room.make{k:Nat}{A:Around}(r:Room (k+1) A)(C:Addr)(us:List Value)(kw:List (Str×Value)):Room k (A.under (.builtin "type.__call__" ⟨.ref C::us,kw⟩)) :=
 ⟨r.hd,by have:=r.dp;rw[make_depth];omega,by have:=r.un;rw[make_units];omega⟩
theorem Room.depth{k:Nat}{A:Around}(r:Room k A):A.depth<recursionLimit:=by have:=r.dp;omega
theorem Room.units{k:Nat}{A:Around}(r:Room k A):A.units+64<cLine:=by have:=r.un;omega
noncomputable def tNil:TA:=fun _ H Q=>Q [] H
noncomputable def tCons(ta:TE)(tr:TA):TA:=fun σ H Q=>ta σ H fun x H1=>tr σ H1 fun xs H2=>Q (x::xs) H2
section
variable{X:Cx}{e:Expr}{es:List Expr}{te:TE}{t:TA}{pos:Pos}
theorem pa_nil:PA X [] tNil:=fun _ _ _ _ H Q I h=>Calls.spliced_nil ⟨[],H,I,.nil,h⟩
theorem pa_cons(ha:PE X e te)(hr:PA X es t)(hs:starEach (e::es) X.env=(false,eval e X.env)::starEach es X.env:=by rfl):PA X (e::es) (tCons te t):=by
 intro pos pins s σ H Q I h
 rw[hs]
 show wpAny _ _ (spliced ((false,eval e X.env)::backTo pos (starEach es X.env))) _ _ s
 refine Calls.spliced_cons (thn (ha pins s σ H _ I h) fun u s1 ⟨x,H1,I1,r1,q1⟩=>?_)
 exact thn (hr pos pins s1 σ H1 _ I1 q1) fun us s2 ⟨xs,H2,I2,r2,q2⟩=>⟨x::xs,H2,I2,.cons r1 r2,q2⟩
noncomputable def tTup(t:TA):TE:=fun σ H Q=>t σ H fun xs H1=>xs.length≤sizeLine∧∀ p,H1 p=none→Q (.ref p) (upd H1 p (.tup xs))
noncomputable def tLst(t:TA):TE:=fun σ H Q=>t σ H fun xs H1=>xs.length≤sizeLine∧∀ p,H1 p=none→Q (.ref p) (upd H1 p (.lst xs))
theorem pe_tup{x1}(h:PA X es t):PE X (.Tuple es x1 pos) (tTup t):=by
 intro pins s σ H Q I hq
 refine wpAny_Tuple_spliced (thn (h pos pins s σ H _ I hq) fun us s1 ⟨xs,H1,I1,r,z,q⟩=>⟨by rw[← r.length];exact z,?_⟩)
 have hf:H1 s1.heap.objs.size=none:=I1.hok.fresh (Nat.le_refl _)
 refine⟨.ref s1.heap.objs.size,upd H1 s1.heap.objs.size (.tup xs),I1.laid (t':=s1.toks) (fun b u e=>Heap.get?_push_of_some _ e) (Nat.le_refl _) ?_,rfl,q _ hf⟩
 exact⟨z,us,r,⟨_,Heap.get?_push_size _ rfl,rfl,_,rfl⟩⟩
theorem pe_lst(h:PA X es t):PE X (.List es pos) (tLst t):=by
 intro pins s σ H Q I hq
 refine wpAny_List_spliced (thn (h pos pins s σ H _ I hq) fun us s1 ⟨xs,H1,I1,r,z,q⟩=>⟨by rw[← r.length];exact z,?_⟩)
 have hf:H1 s1.heap.objs.size=none:=I1.hok.fresh (Nat.le_refl _)
 refine⟨.ref s1.heap.objs.size,upd H1 s1.heap.objs.size (.lst xs),I1.laid (t':=s1.toks) (fun b u e=>Heap.get?_push_of_some _ e) (Nat.le_refl _) ?_,rfl,q _ hf⟩
 exact⟨z,us,0,r,Heap.get?_push_size _ rfl⟩
end
noncomputable abbrev Sp:=List V→Hp→VK→XK→Prop
noncomputable abbrev CXT:=List Env→Hp→Shared→XK→Value→Shared→Prop
structure Env0(P:Program)(w:World)(K:W.Frag)(mg:Str→Option Value)(base:Heap)(A:Around)(outer:List Env)(s:Shared)(H:Hp):Prop where
 frames:A.frames=some outer
 mod:Mod K mg base
 bs:∀ b o,base.get? b=some o→s.heap.get? b=some o∧H b=none
 bsz:base.objs.size≤s.heap.objs.size
 funs:s.heap.FunFrames base outer
 frf:∀ b∈frs outer,H b=none
 hok:HOk P w H s.heap
 bare:AllBare s.gens
noncomputable def CE(outer:List Env)(P:Program)(w:World)(H:Hp)(s:Shared)(Q:VK)(u:Value)(s':Shared):Prop :=
 ∃ v H',s'.os=s.os∧AllBare s'.gens∧Un (frs outer) [] H H' s.heap s'.heap∧HOk P w H' s'.heap∧RelV v u∧Q v H'
noncomputable def CR(CX:CXT)(outer:List Env)(P:Program)(w:World)(H:Hp)(s:Shared)(Q:VK)(E:XK)(r:Result)(s':Shared):Prop :=
 match r with
 | .ok (.ret u)=>CE outer P w H s Q u s'
 | .ok _=>False
 | .error e=>CX outer H s E e s'
structure FnOk(P:Program)(w:World)(K:W.Frag)(mg:Str→Option Value)(base:Heap)(CX:CXT)(k:Nat)(f:Addr)(fd:FuncData)(ps:List Str)(sp:Sp):Prop where
 len:∀ vs H Q E,sp vs H Q E→vs.length=ps.length
 run:∀ (A:Around) (outer:List Env) (s:Shared) (H:Hp) (args:Args) (us:List Value) (vs:List V) (Q:VK) (E:XK),Room k A→Env0 P w K mg base A outer s H→BindsTo s fd args (ps.zip us)→Vals vs us→sp vs H Q E →
  codeAny (model P w) A (.call (.ref f) args) (CR CX outer P w H s Q E) s
theorem FnOk.mono{P:Program}{w:World}{K:W.Frag}{mg:Str→Option Value}{base:Heap}{CX:CXT}{j k:Nat}{f:Addr}{fd:FuncData}{ps:List Str}{sp:Sp}(F:FnOk P w K mg base CX j f fd ps sp)(h:j≤k) :
  FnOk P w K mg base CX k f fd ps sp:=⟨F.len,fun A outer s H args us vs Q E hr=>F.run A outer s H args us vs Q E (hr.mono h)⟩
theorem Env0.make{P:Program}{w:World}{K:W.Frag}{mg:Str→Option Value}{base:Heap}{A:Around}{outer:List Env}{s:Shared}{H:Hp}(e:Env0 P w K mg base A outer s H)(C:Addr)(us:List Value)(kw:List (Str×Value)) :
  Env0 P w K mg base (A.under (.builtin "type.__call__" ⟨.ref C::us,kw⟩)) outer s H:=⟨by first|exact e.frames|(simpa [Around.under,Code.envs,Code.isFrame,pushEnvs] using e.frames),e.mod,e.bs,e.bsz,e.funs,e.frf,e.hok,e.bare⟩
section
variable{X:Cx}{pins:List (Addr×Obj)}{σ:St}{H:Hp}{s s':Shared}
theorem Inv.env0(I:Inv X pins σ H s):Env0 X.prog X.w X.K X.mg X.base X.A X.stack s H :=
 ⟨I.ok.frames,I.ok.mod,I.bs,Nat.le_trans I.ok.bsz I.sz,I.stack,I.stkFree,I.hok,I.bare⟩
theorem Inv.after{Q:VK}{u:Value}(I:Inv X pins σ H s)(h:CE X.stack X.prog X.w H s Q u s'):EP X pins σ Q u s':=by
 obtain⟨v,H',os,bare,un,hok,r,q⟩:=h
 obtain⟨hh,g,d,t,os'⟩:=s'
 obtain rfl:os'=s.os:=os
 exact⟨v,H',I.call (h':=hh) (g':=g) (d':=d) (t':=t) (ch:=[]) un hok bare (fun b z=>absurd z (by simp)),r,q⟩
end
noncomputable def tCall(sp:Sp)(dvs:List V)(E:XK)(t:TA):TE:=fun σ H Q=>t σ H fun vs H1=>sp (vs++dvs) H1 Q E
noncomputable def tMake(C:Addr)(sp:Sp)(dvs:List V)(E:XK)(t:TA):TE:=fun σ H Q=>t σ H fun vs H1=>∀ x dx,H1 x=none→H1 dx=none→dx≠x →
 sp (.ref x::(vs++dvs)) (upd (upd H1 dx (.own x)) x (.ins C dx [])) (fun v H2=>v=.non∧Q (.ref x) H2) E
noncomputable def Binds(K:W.Frag)(fd:FuncData)(ps:List Str)(ds:List Value):Prop :=
 ∀ (s:Shared) (us:List Value),K.In s.heap→(us++ds).length=ps.length→BindsTo s fd ⟨us,[]⟩ (ps.zip (us++ds))
theorem Binds.all{K:W.Frag}{fd:FuncData}{ps:List Str}(h:∀ us:List Value,us.length=ps.length→bindArgs fd ⟨us,[]⟩=pure (ps.zip us)):Binds K fd ps []:=fun s us _ hl=>by
 rw[List.append_nil] at hl ⊢
 exact .of_eq (h us hl)
noncomputable def Passes(CX:CXT)(X:Cx)(E:XK):Prop:=∀ (pins:List (Addr×Obj)) (σ:St) (H:Hp) (s:Shared) (e:Value) (s':Shared),Inv X pins σ H s→CX X.stack H s E e s'→X.xe e s'
section
variable{X:Cx}{CX:CXT}{k:Nat}{f C:Addr}{fd:FuncData}{ps:List Str}{sp:Sp}{dvs:List V}{ds:List Value}{E:XK}{x m:Str}{p pos apos:Pos}{e o:Expr}{es:List Expr}{ta:TE}{t:TA}
theorem run_fn{pins:List (Addr×Obj)}{σ:St}{H:Hp}{s:Shared}{Q:VK}{us:List Value}{vs:List V}(F:FnOk X.prog X.w X.K X.mg X.base CX k f fd ps sp)(hr:Room k X.A)(hb:Binds X.K fd ps ds)(hd:Vals dvs ds)(hx:Passes CX X E)
  (I:Inv X pins σ H s) (r:Vals vs us) (h:sp (vs++dvs) H Q E):wpAny (model X.prog X.w) X.A (call (.ref f) us) (EP X pins σ Q) X.xe s:=by
 have r2:Vals (vs++dvs) (us++ds):=r.append hd
 have hl:(us++ds).length=ps.length:=by rw[← r2.length];exact F.len _ _ _ _ h
 refine wpAny_call (codeAny_mono (F.run X.A X.stack s H ⟨us,[]⟩ (us++ds) (vs++dvs) Q E hr I.env0 (hb s us I.kIn hl) r2 h) fun r s' hq=>?_)
 cases r with
 | error e=>exact hx pins σ H s e s' I hq
 | ok fl =>
  cases fl with
  | ret u=>exact I.after hq
  | next=>exact False.elim hq
  | brk=>exact False.elim hq
  | cont=>exact False.elim hq
theorem pe_call(F:FnOk X.prog X.w X.K X.mg X.base CX k f fd ps sp)(hr:Room k X.A)(hg:Gl X x)(hm:X.mg x=some (.ref f))(hk:PySem.W.keepIn X.K (.ref f)=true)(hb:Binds X.K fd ps ds)(hd:Vals dvs ds)(hx:Passes CX X E)
  (ha:PA X (e::es) t) (hdb:(x == ("__debug__" : Str))=false:=by decide) (he:starEach (e::es) X.env=(false,eval e X.env)::starEach es X.env:=by rfl) (hpl:(backTo pos (starEach es X.env)).any (·.1)=false:=by rfl) :
  PE X (.Call (.Name x p) (e::es) [] pos) (tCall sp dvs E t):=by
 intro pins s σ H Q I h
 refine wpAny_Call_Name_kw (ld_glob I hg hm ?_ hdb)
 refine PySem.W.callWith_K (h₀:=X.base) I.ok.mod.kin hk (thn (ha pos pins s σ H _ I h) fun us s1 ⟨vs,H1,I1,r,q⟩=>⟨I1.kIn,?_⟩) he hpl
 exact run_fn F hr hb hd hx I1 r q
structure Mk(K:W.Frag)(C f:Addr):Prop where
 makes:PySem.W.makesIn K C=true
 init:PySem.W.findIn K (.ref C) "__init__" = some (some (.ref f))
 fn:PySem.W.isFn K (.ref f)=true
 kp:PySem.W.keepIn K (.ref C)=true
theorem run_make{pins:List (Addr×Obj)}{σ:St}{H:Hp}{s:Shared}{Q:VK}{us:List Value}{vs:List V}(M:Mk X.K C f)(F:FnOk X.prog X.w X.K X.mg X.base CX k f fd ps sp)(hr:Room (k+1) X.A)(hb:Binds X.K fd ps ds)(hd:Vals dvs ds)
  (hx:Passes CX X E) (I:Inv X pins σ H s) (r:Vals vs us)
  (h:∀ x dx,H x=none→H dx=none→dx≠x→sp (.ref x::(vs++dvs)) (upd (upd H dx (.own x)) x (.ins C dx [])) (fun v H2=>v=.non∧Q (.ref x) H2) E) :
  wpAny (model X.prog X.w) X.A (call (.ref C) us) (EP X pins σ Q) X.xe s:=by
 have hq:=h (s.heap.objs.size+1) s.heap.objs.size (I.hok.fresh (Nat.le_succ _)) (I.hok.fresh (Nat.le_refl _)) (Nat.ne_of_lt (Nat.lt_succ_self _))
 have I2:=Inv.made (C:=C) I
 have r2:Vals (V.ref (s.heap.objs.size+1)::(vs++dvs)) (Value.ref (s.heap.objs.size+1)::(us++ds)):=.cons rfl (r.append hd)
 have hl:(Value.ref (s.heap.objs.size+1)::us++ds).length=ps.length:=by
  have e:=r2.length
  rw[F.len _ _ _ _ hq] at e
  exact e.symm
 refine wpAny_call (make_map (f:=f) I.kIn M.makes M.init (beq_iff_eq.mp M.fn) (codeAny_mono (F.run _ X.stack _ _ ⟨Value.ref (s.heap.objs.size+1)::us,[]⟩ (Value.ref (s.heap.objs.size+1)::(us++ds)) _ _ E (hr.make C us [])
  (I2.env0.make C us []) (hb _ (Value.ref (s.heap.objs.size+1)::us) I2.kIn hl) r2 hq) fun r s' hq'=>?_))
 cases r with
 | error e=>exact hx pins σ _ _ e s' I2 hq'
 | ok fl =>
  cases fl with
  | ret u =>
   obtain⟨v,H',I3,rv,ev,q3⟩:=I2.after hq'
   subst ev
   exact⟨rv,⟨V.ref (s.heap.objs.size+1),H',I3,rfl,q3⟩⟩
  | next=>exact False.elim hq'
  | brk=>exact False.elim hq'
  | cont=>exact False.elim hq'
theorem pe_make(M:Mk X.K C f)(F:FnOk X.prog X.w X.K X.mg X.base CX k f fd ps sp)(hr:Room (k+1) X.A)(hg:Gl X x)(hm:X.mg x=some (.ref C))(hb:Binds X.K fd ps ds)(hd:Vals dvs ds)(hx:Passes CX X E)
  (ha:PA X (e::es) t) (hdb:(x == ("__debug__" : Str))=false:=by decide) (he:starEach (e::es) X.env=(false,eval e X.env)::starEach es X.env:=by rfl) (hpl:(backTo pos (starEach es X.env)).any (·.1)=false:=by rfl) :
  PE X (.Call (.Name x p) (e::es) [] pos) (tMake C sp dvs E t):=by
 intro pins s σ H Q I h
 refine wpAny_Call_Name_kw (ld_glob I hg hm ?_ hdb)
 refine PySem.W.callWith_K (h₀:=X.base) I.ok.mod.kin M.kp (thn (ha pos pins s σ H _ I h) fun us s1 ⟨vs,H1,I1,r,q⟩=>⟨I1.kIn,?_⟩) he hpl
 exact run_make M F hr hb hd hx I1 r q
end
section
variable{X:Cx}{CX:CXT}{k:Nat}{f C:Addr}{fd:FuncData}{ps ks:List Str}{sp:Sp}{E:XK}{x m:Str}{p pos apos kpos:Pos}{e o:Expr}{es:List Expr}{kws:List Keyword}{te ta:TE}{t tk:TA}{nm:Option Str}
variable{g:List Value→List Value→List Value}{gV:List V→List V→List V}
end
structure FnScope(N P:List Str)(sc:Scope):Prop where
 kind:sc.kind=.function
 co:sc.isCoroutine=false
 gen:sc.isGenerator=false
 nd:N.Nodup
 pre:N.take P.length=P
 par:∀ x∈P,sc.names.lookup x=some .local∨sc.names.lookup x=some .cell
 nofree:∀ y∈sc.names,y.2≠.free
theorem bindL_out{kindOf:Str→Option NameKind}{x:Str}:∀ {binds:List (Str×Value)} {m:Str→Option Value},(∀ v,(x,v)∉binds)→bindL kindOf binds m x=m x
 | [],_,_=>rfl
 | (n,v)::r,m,h=>by
  unfold bindL
  rw[bindL_out fun w hw=>h w (List.mem_cons_of_mem _ hw)]
  split
  ·have:x≠n:=by rintro rfl;exact h v List.mem_cons_self
   simp[this]
  ·rfl
theorem bindC_out{kindOf:Str→Option NameKind}{x:Str}:∀ {binds:List (Str×Value)} {m:Str→Option Value},(∀ v,(x,v)∉binds)→bindC kindOf binds m x=m x
 | [],_,_=>rfl
 | (n,v)::r,m,h=>by
  unfold bindC
  rw[bindC_out fun w hw=>h w (List.mem_cons_of_mem _ hw)]
  split
  ·rfl
  ·have:x≠n:=by rintro rfl;exact h v List.mem_cons_self
   simp[this]
theorem bindL_get{kindOf:Str→Option NameKind}{x:Str}{v:Value}:∀ {P:List Str} {vs:List Value} {i:Nat} {m:Str→Option Value},P.Nodup→P[i]?=some x→vs[i]?=some v→kindOf x=some .local →
  bindL kindOf (P.zip vs) m x=some v
 | [],_,_,_,_,h,_,_=>by simp at h
 | _::_,[],_,_,_,_,h,_=>by simp at h
 | p::P,w::vs,0,m,nd,h1,h2,hk=>by
  simp at h1 h2;subst h1;subst h2
  show bindL kindOf ((p,w)::P.zip vs) m p=_
  unfold bindL
  rw[bindL_out fun v hv=>(List.nodup_cons.mp nd).1 (List.of_mem_zip hv).1,if_pos hk]
  simp
 | p::P,w::vs,i+1,m,nd,h1,h2,hk=>by
  show bindL kindOf ((p,w)::P.zip vs) m x=_
  unfold bindL
  exact bindL_get (i:=i) (List.nodup_cons.mp nd).2 (by simpa using h1) (by simpa using h2) hk
theorem bindC_get{kindOf:Str→Option NameKind}{x:Str}{v:Value}:∀ {P:List Str} {vs:List Value} {i:Nat} {m:Str→Option Value},P.Nodup→P[i]?=some x→vs[i]?=some v→kindOf x≠some .local →
  bindC kindOf (P.zip vs) m x=some v
 | [],_,_,_,_,h,_,_=>by simp at h
 | _::_,[],_,_,_,_,h,_=>by simp at h
 | p::P,w::vs,0,m,nd,h1,h2,hk=>by
  simp at h1 h2;subst h1;subst h2
  show bindC kindOf ((p,w)::P.zip vs) m p=_
  unfold bindC
  rw[bindC_out fun v hv=>(List.nodup_cons.mp nd).1 (List.of_mem_zip hv).1,if_neg hk]
  simp
 | p::P,w::vs,i+1,m,nd,h1,h2,hk=>by
  show bindC kindOf ((p,w)::P.zip vs) m x=_
  unfold bindC
  exact bindC_get (i:=i) (List.nodup_cons.mp nd).2 (by simpa using h1) (by simpa using h2) hk
noncomputable def start(N:List Str)(vs:List V):St:=vs.map some++List.replicate (N.length-vs.length) none
noncomputable def cxOf(CX:CXT)(P:Program)(w:World)(K:W.Frag)(mg:Str→Option Value)(base:Heap)(N:List Str)(qual:Str)(scope:Scope)(f:Addr)(cd:Value)(A:Around)(outer:List Env)(s:Shared)(H:Hp)(E:XK):Cx where
 prog:=P
 w:=w
 K:=K
 mg:=mg
 base:=base
 A:=A.deeper (envOfC qual scope s.heap.objs.size f cd)
 N:=N
 s₀:=s
 H₀:=H
 env:=envOfC qual scope s.heap.objs.size f cd
 outer:=outer
 stack:=envOfC qual scope s.heap.objs.size f cd::outer
 ex:=[]
 calm:=true
 fn:=fun _=>true
 pn:=[]
 xe:=fun e s'=>wpAny (model P w) (A.deeper (envOfC qual scope s.heap.objs.size f cd)) (leaving (envOfC qual scope s.heap.objs.size f cd) e) (fun _ s''=>CX outer H s E e s'') (fun e' s''=>CX outer H s E e' s'') s'
theorem cell_has{sc:Scope}{n:Nat}{x:Str}(h:sc.names.lookup x=some .cell):∃ c,(cellsFrom n sc.names []).lookup x=some c:=by
 have q:=PySem.W.cellsFrom_some sc.names n [] (.inl h)
 exact Option.isSome_iff_exists.mp q
theorem inv_start{CX:CXT}{P:Program}{w:World}{K:W.Frag}{mg:Str→Option Value}{base:Heap}{N ps:List Str}{qual:Str}{scope:Scope}{f:Addr}{cd:Value}{A:Around}{outer:List Env}{s s1:Shared}{H:Hp}{E:XK}{us:List Value}{vs:List V}
  (S:FnScope N ps scope) (hd:A.handled=none) (e0:Env0 P w K mg base A outer s H) (hl:vs.length=ps.length) (r:Vals vs us)
  (x:InCallC s s.heap.objs.size (bindL (envOfC qual scope s.heap.objs.size f cd).kindOf (ps.zip us) fun _=>none) (cellsFrom (s.heap.objs.size+1) scope.names []) (bindC (envOfC qual scope s.heap.objs.size f cd).kindOf (ps.zip us) fun _=>none) s1) :
  Inv (cxOf CX P w K mg base N qual scope f cd A outer s H E) [] (start N vs) H s1:=by
 have hpl:ps.length≤N.length:=by have:=congrArg List.length S.pre;rw[List.length_take] at this;omega
 obtain⟨h1,tk,rfl,hk⟩:=x.done
 have noA:∀ b:Addr,b∉(cxOf CX P w K mg base N qual scope f cd A outer s H E).ex:=fun b z=>absurd (show b∈([]:List Addr) from z) (by simp)
 refine⟨⟨e0.mod,S.kind,rfl,rfl,Nat.le_refl _,fun y z c h1 h2=>?_,fun y hy=>?_,fun y c _ h=>?_,fun _=>hd,Around.frames_deeper e0.frames,.inr ⟨rfl,rfl⟩,fun b z=>absurd z (noA b),e0.bs,e0.bsz,fun b _ _=>noA b,fun b z=>absurd z (noA b),e0.funs,e0.frf⟩,
  rfl,e0.bare,Un.kept hk,⟨_,x.toInCall.ns,fun i y v h1 h2 h3=>?_⟩,fun y c h=>⟨_,x.cell y c h⟩,e0.hok.fresh (Nat.le_refl _),fun y c h=>?_,fun p hp=>absurd (show p∈([]:List (Addr×Obj)) from hp) (by simp),e0.hok.kept hk,?_⟩
 ·exact name_of_addr x.apart (PySem.mem_of_lookup h1) (PySem.mem_of_lookup h2)
 ·have hy:scope.names.lookup y=some .cell∨scope.names.lookup y=some .free:=hy
  rcases hy with hy|hy
  ·exact cell_has hy
  ·exact absurd rfl (S.nofree _ (PySem.mem_of_lookup hy))
 ·exact Nat.le_of_lt (x.above y c (PySem.mem_of_lookup h))
 ·have hi:i<vs.length:=by
   unfold start at h2
   by_cases hi:i<vs.length
   ·exact hi
   ·rw[List.getElem?_append_right (by simpa using hi)] at h2
    rw[List.getElem?_replicate] at h2
    split at h2<;>cases h2
  have ha:vs[i]?=some v:=by
   unfold start at h2
   rw[List.getElem?_append_left (by simpa using hi),List.getElem?_map] at h2
   cases e:vs[i]? with
   | none=>rw[e] at h2;cases h2
   | some a=>rw[e] at h2;cases h2;rfl
  obtain⟨u,hu,rv⟩:=r.get ha
  have hp:ps[i]?=some y:=by
   rw[← S.pre,List.getElem?_take_of_lt (by omega)];exact h1
  have ndP:ps.Nodup:=by rw[← S.pre];exact S.nd.sublist (List.take_sublist _ _)
  refine⟨u,rv,?_⟩
  rcases S.par y (List.mem_of_getElem? hp) with k|k
  ·exact .inl ⟨k,bindL_get ndP hp hu k⟩
  ·obtain⟨c,e⟩:=cell_has (n:=s.heap.objs.size+1) k
   refine .inr ⟨.inl k,c,e,?_⟩
   have q:=x.cell y c e
   rw[bindC_get ndP hp hu (by show scope.names.lookup y≠_;rw[k];decide)] at q
   exact q
 ·exact e0.hok.fresh (Nat.le_of_lt (x.above y c (PySem.mem_of_lookup h)))
 ·unfold start
  show _=N.length
  rw[List.length_append,List.length_map,List.length_replicate]
  omega
theorem fn_of{CX:CXT}{P:Program}{w:World}{K:W.Frag}{mg:Str→Option Value}{base:Heap}{k:Nat}{f:Addr}{name qual:Str}{params:Arguments}{body:List Stmt}{scope:Scope}{dV kV doc pm cdv ct oc:Value}{an od:Option Addr}
  {osl:Array (Option Value)} {N ps:List Str} {sp:Sp} (lk:K.lookup f=some ⟨oc,od,.func (PySem.W.fnOf name qual params body scope dV kV doc pm an cdv ct),osl⟩) (hcd:PySem.W.codeIn K cdv qual=true) (S:FnScope N ps scope)
  (len:∀ vs H Q E,sp vs H Q E→vs.length=ps.length)
  (hbody:∀ (A:Around) (outer:List Env) (s:Shared) (H:Hp) (vs:List V) (Q:VK) (E:XK),Room k (A.deeper (envOfC qual scope s.heap.objs.size f cdv))→sp vs H Q E →
   ∃ t,PSs (cxOf CX P w K mg base N qual scope f cdv A outer s H E) body t∧t { nx:=fun _ H'=>Q .non H',rt:=Q } (start N vs) H) :
  FnOk P w K mg base CX (k+1) f (PySem.W.fnOf name qual params body scope dV kV doc pm an cdv ct) ps sp:=by
 refine⟨len,fun A outer s H args us vs Q E hr e0 hb r hsp=>?_⟩
 have hl:=len _ _ _ _ hsp
 have KX:K.In s.heap:=e0.mod.kin.keeps fun b o e=>(e0.bs b o e).1
 have lim:s.heap.NoLimit:=e0.mod.nolimit.keeps fun b o e=>(e0.bs b o e).1
 have hkind:∀ y∈ps.zip us,scope.names.lookup y.1=some .local∨(scope.names.lookup y.1=some .cell∧((cellsFrom (s.heap.objs.size+1) scope.names []).lookup y.1).isSome=true):=fun⟨n,v⟩ hy=>by
  rcases S.par n (List.of_mem_zip hy).1 with q|q
  ·exact .inl q
  ·exact .inr ⟨q,PySem.W.cellsFrom_some _ _ _ (.inl q)⟩
 refine codeAny_call_function hr.depth (KX _ _ lk) rfl S.co S.gen rfl (PySem.W.codeRec_of KX hcd) (hb _ _ _ _ ?_)
 refine wpAny_newFunctionEnv_cells S.kind hkind fun env he s1 x=>?_
 subst he
 refine⟨lim.keeps x.toInCall.keep,codeAny_func ?_⟩
 obtain⟨t,ht,hq⟩:=hbody A outer s H vs Q E (hr.deeper _) hsp
 have I:Inv (cxOf CX P w K mg base N qual scope f cdv A outer s H E) [] (start N vs) H s1:=inv_start S hr.hd e0 hl r x
 refine wpAny_mono (ht [] s1 (start N vs) H _ I hq) (fun fl s' hs=>?_) fun e s' hs=>hs
 have fin:∀ {σ':St} {H':Hp} {v:V} {u:Value},Inv (cxOf CX P w K mg base N qual scope f cdv A outer s H E) [] σ' H' s'→RelV v u→Q v H'→CE outer P w H s Q u s' :=
  fun {σ' H' v u} J rv q=>⟨v,H',J.os,J.bare,J.base,J.hok,rv,q⟩
 cases fl with
 | ret u =>
  obtain⟨v,σ',H',J,rv,q⟩:=hs
  exact fin J rv q
 | next =>
  obtain⟨σ',H',J,q⟩:=hs
  exact fin (v:=V.non) (u:=Value.none) J rfl q
 | brk =>
  obtain⟨_,_,_,q⟩:=hs
  exact False.elim q
 | cont =>
  obtain⟨_,_,_,q⟩:=hs
  exact False.elim q
end L2
namespace L2
open PySem PySem.Spec PyProof.Rows
section
variable{X:Cx}{x:Str}{p pos:Pos}{e:Expr}{es:List Expr}{t:TA}{id T:String}{r:List V→Hp→VK→Prop}
noncomputable def tCB(r:List V→Hp→VK→Prop)(t:TA):TE:=fun σ H Q=>t σ H fun vs H1=>r vs H1 Q
theorem pe_callB(hc:CallR X (.builtin id) r)(hg:Gl X x)(hm:X.mg x=none)(hv:bootBuiltins x=some (.builtin id))(ha:PA X (e::es) t)(hn:x ≠ "__name__" := by decide)(hdb:(x == ("__debug__" : Str))=false:=by decide)
  (he:starEach (e::es) X.env=(false,eval e X.env)::starEach es X.env:=by rfl) (hpl:(backTo pos (starEach es X.env)).any (·.1)=false:=by rfl):PE X (.Call (.Name x p) (e::es) [] pos) (tCB r t):=by
 intro pins s σ H Q I h
 refine wpAny_Call_Name_kw (ld_blt I hg hm hv ?_ hn hdb)
 exact PyProof.Rows.callWith_builtin1 (thn (ha pos pins s σ H _ I h) fun us s1 ⟨vs,H1,I1,r1,q1⟩=>hc pins s1 σ H1 vs us Q I1 r1 q1) he hpl
theorem pe_callTy(hc:CallR X (.type T) r)(hg:Gl X x)(hm:X.mg x=none)(hv:bootBuiltins x=some (.type T))(ha:PA X (e::es) t)(hn:x ≠ "__name__" := by decide)(hdb:(x == ("__debug__" : Str))=false:=by decide)
  (he:starEach (e::es) X.env=(false,eval e X.env)::starEach es X.env:=by rfl) (hpl:(backTo pos (starEach es X.env)).any (·.1)=false:=by rfl):PE X (.Call (.Name x p) (e::es) [] pos) (tCB r t):=by
 intro pins s σ H Q I h
 refine wpAny_Call_Name_kw (ld_blt I hg hm hv ?_ hn hdb)
 exact PyProof.Rows.callWith_type1 (thn (ha pos pins s σ H _ I h) fun us s1 ⟨vs,H1,I1,r1,q1⟩=>hc pins s1 σ H1 vs us Q I1 r1 q1) he hpl
end
end L2
namespace HT
open PySem PyProof.Rows
section
open PySem.SeqAt
open PySem.AutoSeq1 (wpAny_loadPart')
open PySem.MeetsSeq PySem.MeetsSeq2 PySem.MeetsSeq3
end
section
variable{prog:Program}{w:World}{A:Around}{E:Value→Shared→Prop}{s:Shared}
theorem cat_tup{t b:Addr}{vs ws:List Value}{Q:Value→Shared→Prop}(ht:IsTup s.heap t vs.toArray)(hb:IsTup s.heap b ws.toArray)(hv:vs≠[])
  (h1:ws=[]→Q (.ref t) s) (h2:ws≠[]→Q (.ref s.heap.objs.size) { s with heap:=s.heap.push { cls:=.type "tuple",data:=.seq (vs++ws).toArray } })
  (hsz:vs.length+ws.length≤sizeLine):wpAny (model prog w) A (binaryOp .Add (.ref t) (.ref b)) Q E s:=by
 obtain⟨⟨cls,dd,data,sl⟩,ho,hc,n,hd⟩:=id ht
 obtain⟨⟨cls2,dd2,data2,sl2⟩,ho2,hc2,n2,hd2⟩:=id hb
 simp only at hc hd hc2 hd2
 subst hc hd hc2 hd2
 have e:vs.toArray++ws.toArray=(vs++ws).toArray:=by simp
 by_cases hw:ws=[]
 ·exact concat_meets ⟨_,ho,rfl⟩ ⟨_,ho2,rfl⟩ noFill_tuple_add seq_tuple_add PySem.F.slot_tuple_add PySem.F.entry_tuple_add (PySem.F.args_tuple_add_2 _ _)
   (tuple_addW1 t b vs.toArray ws.toArray n n2 dd dd2 sl sl2 (by simpa using hv) (by simp[hw])) ⟨ho,ho2,h1 hw⟩
 ·refine concat_meets ⟨_,ho,rfl⟩ ⟨_,ho2,rfl⟩ noFill_tuple_add seq_tuple_add PySem.F.slot_tuple_add PySem.F.entry_tuple_add (PySem.F.args_tuple_add_2 _ _)
   (tuple_addW2 t b vs.toArray ws.toArray n n2 dd dd2 sl sl2 (by simpa using hv) (by simpa using hw) (by rw[List.size_toArray,List.size_toArray];exact hsz)) ⟨ho,ho2,?_⟩
  rw[e]
  exact h2 hw
noncomputable def sIx(n d:Nat):Option Int→Nat
 | none=>d
 | some v=>if v<0 then (v+(n:Int)).toNat else min v.toNat n
theorem sIx_le(n d:Nat)(hd:d≤n)(o:Option Int):sIx n d o≤n:=by
 cases o with
 | none=>exact hd
 | some v =>
  show (if v<0 then (v+(n:Int)).toNat else min v.toNat n)≤n
  by_cases hv:v<0
  ·rw[if_pos hv];omega
  ·rw[if_neg hv];exact Nat.min_le_right _ _
theorem clip_eq(v:Int)(n d:Nat):(if v<0 then max (v+(n:Int)) 0 else min v (n:Int))=((sIx n d (some v):Nat):Int):=by
 show (if v<0 then max (v+(n:Int)) 0 else min v (n:Int))=(((if v<0 then (v+(n:Int)).toNat else min v.toNat n):Nat):Int)
 by_cases hv:v<0
 ·simp only[if_pos hv];omega
 ·simp only[if_neg hv];omega
theorem adjust_gen(lo hi:Option Int)(n:Nat):Builtin.Slice.sliceAdjust lo hi 1 (n:Int)=(((sIx n 0 lo:Nat):Int),((sIx n n hi:Nat):Int)):=by
 have h1:¬ ((1:Int)<0):=by omega
 unfold Builtin.Slice.sliceAdjust
 simp only[h1,if_false]
 refine Prod.ext ?_ ?_
 ·cases lo with
  | none=>rfl
  | some v=>exact clip_eq v n 0
 ·cases hi with
  | none=>rfl
  | some v=>exact clip_eq v n n
theorem places_gen(i j:Nat):Builtin.Slice.slicePlaces (i:Int) (j:Int) 1=j-i:=by
 unfold Builtin.Slice.slicePlaces
 have h1:(1:Int) > 0:=by omega
 simp only[h1,if_true,Int.ediv_one]
 split<;>omega
theorem slicePart_{v:Value}{o:Option Int}{Q:Option Int→Shared→Prop}(p:IsPart v o)(h:Q o s):wpAny (model prog w) A (Builtin.Slice.slicePartIndex v) Q E s:=by
 cases p with
 | none=>exact slicePart_none h
 | int i t=>exact slicePart_int h
theorem sliceApplied_gen{sl:Addr}{vl vu:Value}{lo hi:Option Int}{n:Nat}{Q:Int×Int×Nat→Shared→Prop}(hs:s.heap.IsSliceOf sl vl vu .none)(pl:IsPart vl lo)(pu:IsPart vu hi)
  (h:Q (((sIx n 0 lo:Nat):Int),1,sIx n n hi-sIx n 0 lo) s):wpAny (model prog w) A (Builtin.Slice.sliceApplied (.ref sl) (pure (n:Int))) Q E s:=by
 obtain⟨os,hos,hcs,hds⟩:=id hs
 unfold Builtin.Slice.sliceApplied Builtin.Slice.sliceFields
 refine wpAny_bind (wpAny_bind (wpAny_field hos hds (x:=vl) rfl (wpAny_bind (wpAny_field hos hds (x:=vu) rfl (wpAny_bind (wpAny_field hos hds (x:=.none) rfl (wpAny_pure ?_)))))))
 refine wpAny_bind (slicePart_none ?_)
 show wpAny _ _ (if ((1:Int) == 0)=true then _ else _) _ _ s
 rw[if_neg (by decide)]
 refine wpAny_bind (slicePart_ pl (wpAny_bind (slicePart_ pu (wpAny_bind (wpAny_pure ?_)))))
 show wpAny _ _ (match Builtin.Slice.sliceAdjust lo hi 1 (n:Int) with|(lo,hi)=>pure (lo,(1:Int),Builtin.Slice.slicePlaces lo hi 1)) _ _ s
 rw[adjust_gen lo hi n]
 show wpAny _ _ (pure (((sIx n 0 lo:Nat):Int),(1:Int),Builtin.Slice.slicePlaces ((sIx n 0 lo:Nat):Int) ((sIx n n hi:Nat):Int) 1)) _ _ s
 rw[places_gen]
 exact wpAny_pure h
theorem pick_gen(xs:Array Value)(i k:Nat):((List.range k).filterMap fun (m:Nat)=>xs[((i:Int)+(m:Int)*1).toNat]?).toArray=((xs.toList.drop i).take k).toArray:=by
 have e:(fun (m:Nat)=>xs[((i:Int)+(m:Int)*1).toNat]?)=fun m=>xs[i+m]?:=by
  funext m
  have:((i:Int)+(m:Int)*1).toNat=i+m:=by omega
  rw[this]
 rw[e]
 have:=pick_run xs i k
 rw[List.filterMap_map] at this
 have e2:((fun x=>xs[x]?) ∘ fun x=>i+x)=fun m=>xs[i+m]?:=rfl
 rw[e2] at this
 rw[this]
theorem getItem_tuple_cut{t sl:Addr}{items:Array Value}{vl vu:Value}{lo hi:Option Int}{Q:Value→Shared→Prop}(ht:IsTup s.heap t items)(hs:s.heap.IsSliceOf sl vl vu .none)(pl:IsPart vl lo)(pu:IsPart vu hi)
  (hw:¬ (sIx items.size 0 lo=0∧sIx items.size items.size hi=items.size))
  (h:Q (.ref s.heap.objs.size) { s with heap:=s.heap.push { cls:=.type "tuple",data:=.seq ((items.toList.drop (sIx items.size 0 lo)).take (sIx items.size items.size hi-sIx items.size 0 lo)).toArray } })
  (hsz:items.size≤sizeLine):wpAny (model prog w) A (getItem (.ref t) (.ref sl)) Q E s:=by
 have htake:sizeOk (.seq ((items.toList.drop (sIx items.size 0 lo)).take (sIx items.size items.size hi-sIx items.size 0 lo)).toArray):=by
  show ((items.toList.drop (sIx items.size 0 lo)).take (sIx items.size items.size hi-sIx items.size 0 lo)).toArray.size≤sizeLine
  rw[List.size_toArray,List.length_take,List.length_drop,Array.length_toList]
  omega
 have hj:sIx items.size items.size hi≤items.size:=sIx_le _ _ (Nat.le_refl _) hi
 obtain⟨os,hos,hcs,hds⟩:=id hs
 have hTs:s.TypeIs (.ref sl) "slice" := ⟨os,hos,hcs⟩
 unfold getItem
 try with_reducible refine wpAny_holding ?_
 first|refine wpAny_bind (wpAny_pure ?_)|skip
 refine wpAny_bind (wpAny_sequenceKey ht.typeIs (by decide) ?_)
 refine wpAny_bind (wpAny_callSpecial?_slot (name:=Str.ofString "__getitem__") ht.typeIs PyProof.Rows.slot_tuple_getitem
  (wpAny_call_entry PyProof.Rows.slot_tuple_getitem ht.typeIs entry_tuple_getitem ?_ (args_tuple_getitem _ _)))
 show wpAny _ _ (Builtin.Tuple.tupleItemsOf (.ref t) >>= _) _ _ s
 refine wpAny_bind (tupleItemsOf_ ht ?_)
 refine wpAny_bind (wpAny_typeOf hTs ?_)
 rw[if_pos (by decide)]
 refine wpAny_bind (sliceApplied_gen hs pl pu ?_)
 have hno:¬ ((((sIx items.size 0 lo:Nat):Int) == 0 && (1:Int) == 1 && (sIx items.size items.size hi-sIx items.size 0 lo) == items.size)=true):=by
  intro q
  rw[Bool.and_eq_true,Bool.and_eq_true] at q
  have q1:((sIx items.size 0 lo:Nat):Int)=0:=eq_of_beq q.1.1
  have q2:sIx items.size items.size hi-sIx items.size 0 lo=items.size:=eq_of_beq q.2
  exact hw ⟨by omega,by omega⟩
 show wpAny _ _ (if (((sIx items.size 0 lo:Nat):Int) == 0 && (1:Int) == 1 && (sIx items.size items.size hi-sIx items.size 0 lo) == items.size)=true then _ else _) _ _ s
 rw[if_neg hno,pick_gen]
 first
  | exact wpAny_bind (m:=Builtin.Tuple.tupleExact _) (wpAny_newObj_type (wpAny_pure ⟨_,rfl,wpAny_pure h⟩) htake)
  | exact wpAny_bind (m:=Builtin.Tuple.tupleExact _) (wpAny_newObj_type (wpAny_bind (wpAny_pure (wpAny_pure ⟨_,rfl,wpAny_pure h⟩))) htake)
  | exact wpAny_bind (wpAny_bind (m:=Builtin.Tuple.tupleExact _) (wpAny_newObj_type (wpAny_pure (wpAny_pure ⟨_,rfl,wpAny_pure h⟩)) htake))
  | exact wpAny_bind (wpAny_bind (m:=Builtin.Tuple.tupleExact _) (wpAny_newObj_type (wpAny_pure ⟨_,rfl,wpAny_pure h⟩) htake))
end
end HT
namespace L2
open PySem PySem.Spec PyProof.Rows
noncomputable abbrev TO:=St→Hp→(Option Int→Hp→Prop)→Prop
noncomputable def PO(X:Cx)(e:Option Expr)(t:TO):Prop :=
 ∀ (pins:List (Addr×Obj)) (s:Shared) (σ:St) (H:Hp) (Q:Option Int→Hp→Prop),Inv X pins σ H s→t σ H Q →
  wpAny (model X.prog X.w) X.A (evalPart e X.env) (fun u s'=>∃ o H',Inv X pins σ H' s'∧IsPart u o∧Q o H') X.xe s
noncomputable def tNoPart:TO:=fun _ H Q=>Q none H
noncomputable def tPart(t:TE):TO:=fun σ H Q=>t σ H fun x H1=>∃ i,x=.int i∧Q (some i) H1
section
variable{X:Cx}{e:Expr}{te:TE}{lo hi:Option Expr}{tl th:TO}{pos p2:Pos}
theorem po_none:PO X none tNoPart:=by
 intro pins s σ H Q I h
 rw[evalPart_none]
 exact wpAny_pure ⟨none,H,I,.none,h⟩
theorem po_some(h:PE X e te):PO X (some e) (tPart te):=by
 intro pins s σ H Q I hw
 rw[evalPart_some]
 refine thn (h pins s σ H _ I hw) fun u s1 ⟨x,H1,I1,r1,q1⟩=>?_
 obtain⟨i,rfl,q⟩:=q1
 obtain⟨t,rfl⟩:=r1
 exact⟨some i,H1,I1,.int i t,q⟩
noncomputable def SlR(X:Cx)(r:V→Option Int→Option Int→Hp→VK→Prop):Prop :=
 ∀ (pins:List (Addr×Obj)) (s:Shared) (σ:St) (H:Hp) (x:V) (v vl vu:Value) (lo hi:Option Int) (sl:Addr) (Q:VK),Inv X pins σ H s→RelV x v→s.heap.IsSliceOf sl vl vu .none→IsPart vl lo→IsPart vu hi→r x lo hi H Q →
  ∃ T id,typeLookup (.type T) "__getitem__" = pure (some (.builtin id))∧s.TypeIs v T∧wpAny (model X.prog X.w) X.A (getItem v (.ref sl)) (EP X pins σ Q) X.xe s
theorem SlR.or{r r':V→Option Int→Option Int→Hp→VK→Prop}(h:SlR X r)(h':SlR X r'):SlR X (fun x lo hi H Q=>r x lo hi H Q∨r' x lo hi H Q):=by
 intro pins s σ H x v vl vu lo hi sl Q I rx hs pl pu q
 rcases q with q|q
 ·exact h pins s σ H x v vl vu lo hi sl Q I rx hs pl pu q
 ·exact h' pins s σ H x v vl vu lo hi sl Q I rx hs pl pu q
noncomputable def tSl(r:V→Option Int→Option Int→Hp→VK→Prop)(te:TE)(tl th:TO):TE:=fun σ H Q=>te σ H fun x H1=>tl σ H1 fun l H2=>th σ H2 fun u H3=>r x l u H3 Q
theorem pe_slice{r:V→Option Int→Option Int→Hp→VK→Prop}(hr:SlR X r)(he:PE X e te)(hl:PO X lo tl)(hu:PO X hi th):PE X (.Subscript e (.Slice lo hi none p2) pos) (tSl r te tl th):=by
 intro pins s σ H Q I h
 refine Subscript_ (thn (he pins s σ H _ I h) fun v s1 ⟨x,H1,I1,r1,q1⟩=>?_)
 refine wpAny_Slice (thn (hl pins s1 σ H1 _ I1 q1) fun vl s2 ⟨l,H2,I2,pl,q2⟩=>thn (hu pins s2 σ H2 _ I2 q2) fun vu s3 ⟨u,H3,I3,pu,q3⟩=>?_)
 rw[evalPart_none]
 refine wpAny_pure ?_
 have I4:Inv X pins σ H3 { s3 with heap:=s3.heap.push { cls:=.type "slice",data:=.fields #[vl,vu,.none] } }:=I3.kept (t':=s3.toks) fun b ob q=>Heap.get?_push_of_some _ q
 obtain⟨T,id,hT,ht,hg⟩:=hr pins { s3 with heap:=s3.heap.push { cls:=.type "slice",data:=.fields #[vl,vu,.none] } } σ H3 x v vl vu l u s3.heap.objs.size Q I4 r1 (Heap.IsSliceOf.new ..) pl pu q3
 show wpAny (model X.prog X.w) X.A (subscriptTail e (.Slice lo hi none p2) v (.ref s3.heap.objs.size)) (EP X pins σ Q) X.xe { s3 with heap:=s3.heap.push { cls:=.type "slice",data:=.fields #[vl,vu,.none] } }
 exact tail_any (ops:=[.ref s3.heap.objs.size,v]) ht hT hg (by with_unfolding_all rfl)
noncomputable def cutV(xs:List V)(lo hi:Option Int):List V:=(xs.drop (HT.sIx xs.length 0 lo)).take (HT.sIx xs.length xs.length hi-HT.sIx xs.length 0 lo)
theorem cutV_length(xs:List V)(lo hi:Option Int):(cutV xs lo hi).length≤xs.length:=by
 unfold cutV
 rw[List.length_take,List.length_drop]
 omega
noncomputable def rSlT(K:W.Frag):V→Option Int→Option Int→Hp→VK→Prop:=fun x lo hi H Q=>∃ a xs,x=.ref a∧SqT K H a xs ∧
 ¬ (HT.sIx xs.length 0 lo=0∧HT.sIx xs.length xs.length hi=xs.length)∧∀ p,H p=none→Q (.ref p) (upd H p (.tup (cutV xs lo hi)))
theorem sl_tup:SlR X (rSlT X.K):=by
 intro pins s σ H x v vl vu lo hi sl Q I rx hs pl pu h
 obtain⟨a,xs,rfl,hx,hw,q⟩:=h
 cases rx
 obtain⟨its,r,ht,hz⟩:=I.tuple hx
 have hlen:its.toArray.size=xs.length:=by rw[List.size_toArray];exact r.length.symm
 refine⟨"tuple",_,PyProof.Rows.slot_tuple_getitem.lookup,ht.typeIs,?_⟩
 refine HT.getItem_tuple_cut ht hs pl pu (by rw[hlen];exact hw) ?_ (by rw[hlen];exact hz)
 rw[hlen]
 refine⟨.ref s.heap.objs.size,_,I.laid (t':=s.toks) (o:=.tup (cutV xs lo hi)) (fun b ob q=>Heap.get?_push_of_some _ q) (Nat.le_refl _) ?_,rfl,q _ (I.hok.fresh (Nat.le_refl _))⟩
 exact⟨Nat.le_trans (cutV_length xs lo hi) hz,_,(r.drop (HT.sIx xs.length 0 lo)).take (HT.sIx xs.length xs.length hi-HT.sIx xs.length 0 lo),IsTup.new _ _⟩
noncomputable def rCatT(K:W.Frag):R2:=fun x y H Q=>∃ a b xs ys,x=.ref a∧y=.ref b∧SqT K H a xs∧SqT K H b ys∧xs≠[]∧xs.length+ys.length≤sizeLine ∧
 (ys=[]→Q (.ref a) H)∧(ys≠[]→∀ p,H p=none→Q (.ref p) (upd H p (.tup (xs++ys))))
theorem Vals.nil_iff{xs:List V}{us:List Value}(r:Vals xs us):us=[]↔xs=[]:=by
 cases r with
 | nil=>simp
 | cons _ _=>simp
theorem op_catT:OpR X (binaryOp .Add) (rCatT X.K):=by
 intro pins s σ H x y v u Q I rx ry h
 obtain⟨a,b,xs,ys,rfl,rfl,ha,hb,hx,hz,q1,q2⟩:=h
 cases rx
 cases ry
 obtain⟨its,r1,p1,_⟩:=I.tuple ha
 obtain⟨its2,r2,p2,_⟩:=I.tuple hb
 refine HT.cat_tup p1 p2 (fun z=>hx (r1.nil_iff.mp z)) (fun z=>⟨.ref a,H,I,rfl,q1 (r2.nil_iff.mp z)⟩) (fun z=>?_) (by rw[← r1.length,← r2.length];exact hz)
 refine⟨.ref s.heap.objs.size,_,I.laid (t':=s.toks) (o:=.tup (xs++ys)) (fun b ob q=>Heap.get?_push_of_some _ q) (Nat.le_refl _) ?_,rfl,q2 (fun w=>z (r2.nil_iff.mpr w)) _ (I.hok.fresh (Nat.le_refl _))⟩
 exact⟨by rw[List.length_append];exact hz,_,r1.append r2,IsTup.new _ _⟩
end
end L2
namespace L2
open PySem PySem.Spec PyProof.Rows
noncomputable def ixN(n:Nat)(i:Int):Option Nat:=if 0≤i then (if i<n then some i.toNat else none) else if -(n:Int)≤i then some (i+n).toNat else none
noncomputable def atI{α:Type}(xs:List α)(i:Int):Option α:=(ixN xs.length i).bind fun j=>xs[j]?
theorem ixN_seq{n:Nat}{i:Int}{j:Nat}(h:ixN n i=some j):seqIndex? i n=some j∧j<n∧-(n:Int)≤i∧i<n:=by
 unfold ixN at h
 by_cases h0:0≤i
 ·rw[if_pos h0] at h
  by_cases h1:i<n
  ·rw[if_pos h1] at h
   have e:i.toNat=j:=Option.some.inj h
   exact⟨by rw[seqIndex_of h0 h1,e],by omega,by omega,h1⟩
  ·rw[if_neg h1] at h;cases h
 ·rw[if_neg h0] at h
  by_cases h1:-(n:Int)≤i
  ·rw[if_pos h1] at h
   have e:(i+n).toNat=j:=Option.some.inj h
   exact⟨by rw[seqIndex_neg (by omega) h1,e],by omega,h1,by omega⟩
  ·rw[if_neg h1] at h;cases h
theorem atI_get{α:Type}{xs:List α}{i:Int}{v:α}(h:atI xs i=some v):∃ j,seqIndex? i xs.length=some j∧xs[j]?=some v∧j<xs.length∧-(xs.length:Int)≤i∧i<xs.length:=by
 unfold atI at h
 cases e:ixN xs.length i with
 | none=>rw[e] at h;cases h
 | some j =>
  rw[e] at h
  obtain⟨h1,h2,h3,h4⟩:=ixN_seq e
  exact⟨j,h1,h,h2,h3,h4⟩
theorem atI_nat{α:Type}{xs:List α}{j:Nat}{v:α}(h:xs[j]?=some v):atI xs (j:Int)=some v:=by
 have hj:j<xs.length:=(List.getElem?_eq_some_iff.mp h).1
 have e:ixN xs.length (j:Int)=some j:=by
  unfold ixN
  rw[if_pos (by omega),if_pos (by omega)];simp
 unfold atI;rw[e];exact h
noncomputable def PlainIx(b:Expr):Prop:=∀ o i,subscripted b false o i=operate [o,i] (getItem o i)
noncomputable def IxR(X:Cx)(r:R2):Prop :=
 ∀ (value slice:Expr) (pins:List (Addr×Obj)) (s:Shared) (σ:St) (H:Hp) (x y:V) (v u:Value) (Q:VK),Inv X pins σ H s→RelV x v→RelV y u→r x y H Q →
  subscripted slice false v u=operate [v,u] (getItem v u)→wpAny (model X.prog X.w) X.A (subscriptTail value slice v u) (EP X pins σ Q) X.xe s
noncomputable def MtR(X:Cx)(id:String)(r:V→List V→Hp→VK→Prop):Prop :=
 ∀ (pins:List (Addr×Obj)) (s:Shared) (σ:St) (H:Hp) (x:V) (xs:List V) (v:Value) (us:List Value) (Q:VK),Inv X pins σ H s→RelV x v→Vals xs us→r x xs H Q →
  wpAny (model X.prog X.w) X.A (call (.builtin id) (v::us)) (EP X pins σ Q) X.xe s
section
variable{X:Cx}{a b:Expr}{ta tb:TE}{pos:Pos}
theorem IxR.or{r r':R2}(h:IxR X r)(h':IxR X r'):IxR X (fun x y H Q=>r x y H Q∨r' x y H Q):=by
 intro value slice pins s σ H x y v u Q I rx ry q hs
 rcases q with q|q
 ·exact h value slice pins s σ H x y v u Q I rx ry q hs
 ·exact h' value slice pins s σ H x y v u Q I rx ry q hs
theorem pe_ix{r:R2}(hr:IxR X r)(ha:PE X a ta)(hb:PE X b tb)(hs:PlainIx b):PE X (.Subscript a b pos) (tOp r ta tb):=by
 intro pins s σ H Q I h
 exact Subscript_ (binT ha hb I h fun v u s2 x y H2 I2 rx ry q=>hr a b pins s2 σ H2 x y v u Q I2 rx ry q (hs _ _))
noncomputable def rIxL(K:W.Frag):R2:=fun x y H Q=>∃ p xs i v,x=.ref p∧y=.int i∧SqL K H p xs∧atI xs i=some v∧Q v H
noncomputable def rIxT(K:W.Frag):R2:=fun x y H Q=>∃ p xs i v,x=.ref p∧y=.int i∧SqT K H p xs∧atI xs i=some v∧Q v H
noncomputable def rIxS:R2:=fun x y H Q=>∃ z i c,x=.str z∧y=.int i∧z.length≤sizeLine∧atI z.cps.toList i=some c∧Q (.str ⟨#[c]⟩) H
theorem ix_list:IxR X (rIxL X.K):=by
 intro value slice pins s σ H x y v u Q I rx ry h hs
 obtain⟨p,xs,i,z,rfl,rfl,hq,he,q⟩:=h
 cases rx
 obtain⟨t,rfl⟩:=ry
 obtain⟨its,r,pl,hz⟩:=I.list hq
 obtain⟨j,h1,h2,h3,h4,h5⟩:=atI_get he
 obtain⟨w,ew,rw'⟩:=r.get h2
 have hl:=r.length
 have hn:=line63
 have fin:EP X pins σ Q w s:=⟨z,H,I,rw',q⟩
 by_cases h0:0≤i
 ·have hj:i.toNat=j:=by
   rw[seqIndex_of h0 h5] at h1
   exact Option.some.inj h1
  exact item_listR pl.isList h0 (by omega) (by rw[hj];simpa using ew) fin hs
 ·have hj:(i+(its.toArray.size:Int)).toNat=j:=by
   rw[seqIndex_neg (by omega) h4] at h1
   rw[List.size_toArray,← hl]
   exact Option.some.inj h1
  exact subscriptTail_builtinR (x:=w) pl.isList.typeIs slot_list_getitem.lookup
   (wpAny_getItem_list_neg (Q:=fun r s'=>r=w∧EP X pins σ Q r s') pl.isList (by omega) (by rw[List.size_toArray]<;>omega) (by omega) (by rw[hj];simpa using ew) ⟨rfl,fin⟩) hs
theorem ix_tup:IxR X (rIxT X.K):=by
 intro value slice pins s σ H x y v u Q I rx ry h hs
 obtain⟨p,xs,i,z,rfl,rfl,hq,he,q⟩:=h
 cases rx
 obtain⟨t,rfl⟩:=ry
 obtain⟨its,r,pl,hz⟩:=I.tuple hq
 obtain⟨j,h1,h2,h3,h4,h5⟩:=atI_get he
 obtain⟨w,ew,rw'⟩:=r.get h2
 have hl:=r.length
 have hn:=line63
 have fin:EP X pins σ Q w s:=⟨z,H,I,rw',q⟩
 exact subscriptTail_builtinR (x:=w) pl.typeIs slot_tuple_getitem.lookup
  (getItem_tuple (j:=j) (Q:=fun r s'=>r=w∧EP X pins σ Q r s') pl (by omega) (by omega) (by rw[List.size_toArray,← hl];exact h1) (by simpa using ew) ⟨rfl,fin⟩) hs
theorem ix_str:IxR X rIxS:=by
 intro value slice pins s σ H x y v u Q I rx ry h hs
 obtain⟨z,i,c,rfl,rfl,hz,he,q⟩:=h
 obtain⟨t,rfl⟩:=rx
 obtain⟨t',rfl⟩:=ry
 obtain⟨j,h1,h2,h3,h4,h5⟩:=atI_get he
 have hl:z.cps.toList.length=z.length:=by simp[Str.length]
 rw[hl] at h1 h4 h5
 have hn:=line63
 exact tail_any (typeIs_str s z t) slot_str_getitem.lookup (getItem_str (c:=c) (by
  have e1:decide (i < -(2 ^ 63:Int))=false:=decide_eq_false (by omega)
  have e2:decide (i≥2 ^ 63)=false:=decide_eq_false (by omega)
  rw[e1,e2,Bool.or_false]) (by rw[h1];simpa using h2) ⟨.str ⟨#[c]⟩,H,I.tok _,⟨_,rfl⟩,q⟩) hs
theorem slice_bounds(lo hi:Option Int)(n:Nat):(sliceBounds lo hi none n).1=((HT.sIx n 0 lo:Nat):Int)∧(sliceBounds lo hi none n).2.1=((HT.sIx n n hi:Nat):Int)∧(sliceBounds lo hi none n).2.2=1:=by
 refine⟨?_,?_,rfl⟩
 ·cases lo with
  | none=>simp[sliceBounds,HT.sIx]
  | some i =>
   simp only[sliceBounds,HT.sIx,Option.getD_none,show (1:Int) > 0 by decide,if_true]
   by_cases h:i<0
   ·simp only[h,if_true]<;>omega
   ·simp only[h,if_false]<;>omega
 ·cases hi with
  | none=>simp[sliceBounds,HT.sIx]
  | some i =>
   simp only[sliceBounds,HT.sIx,Option.getD_none,show (1:Int) > 0 by decide,if_true]
   by_cases h:i<0
   ·simp only[h,if_true]<;>omega
   ·simp only[h,if_false]<;>omega
theorem slicePick_cut(its:List Value)(lo hi:Option Int):slicePick its.toArray lo hi none=((its.drop (HT.sIx its.length 0 lo)).take (HT.sIx its.length its.length hi-HT.sIx its.length 0 lo)).toArray:=by
 obtain⟨h1,h2,h3⟩:=slice_bounds lo hi its.toArray.size
 unfold slicePick
 rw[h1,h2,h3]
 simp only[sliceRange_one,pick_run,List.size_toArray]<;>rfl
noncomputable def rSlL(K:W.Frag):V→Option Int→Option Int→Hp→VK→Prop:=fun x lo hi H Q=>∃ a xs,x=.ref a∧SqL K H a xs∧∀ p,H p=none→Q (.ref p) (upd H p (.lst (cutV xs lo hi)))
theorem sl_list:SlR X (rSlL X.K):=by
 intro pins s σ H x v vl vu lo hi sl Q I rx hs pl pu h
 obtain⟨a,xs,rfl,hx,q⟩:=h
 cases rx
 obtain⟨its,r,ht,hz⟩:=I.list hx
 have hlen:=r.length
 refine⟨"list",_,slot_list_getitem.lookup,ht.isList.typeIs,?_⟩
 refine wpAny_getItem_list_slice ht.isList hs pl pu .none (by simp) ?_ (by rw[List.size_toArray]<;>omega)
 rw[slicePick_cut,← hlen]
 refine⟨.ref s.heap.objs.size,_,I.laid (t':=s.toks) (o:=.lst (cutV xs lo hi)) (fun b ob q=>Heap.get?_push_of_some _ q) (Nat.le_refl _) ?_,rfl,q _ (I.hok.fresh (Nat.le_refl _))⟩
 exact⟨Nat.le_trans (cutV_length xs lo hi) hz,_,0,(r.drop (HT.sIx xs.length 0 lo)).take (HT.sIx xs.length xs.length hi-HT.sIx xs.length 0 lo),Heap.get?_push_size _ rfl⟩
theorem op_notIn_str:OpR X (compareOp .NotIn) (fun x y H Q=>∃ i j,x=.str i∧y=.str j∧Q (.bl (!(!(Builtin.Str.occurrences j i 0 j.length 1).isEmpty))) H):=by
 intro pins s σ H x y v u Q I rx ry h
 obtain⟨i,j,rfl,rfl,q⟩:=h
 obtain⟨t,rfl⟩:=rx
 obtain⟨t',rfl⟩:=ry
 exact notIn_str ⟨.bl _,H,I,rfl,q⟩
theorem call_len_seq:CallR X (.builtin "len") (fun xs H Q=>∃ p ys,xs=[.ref p]∧(SqL X.K H p ys∨SqT X.K H p ys)∧Q (.int ys.length) H):=by
 intro pins s σ H xs us Q I r h
 obtain⟨p,ys,rfl,hq,q⟩:=h
 obtain⟨u,rfl,rx⟩:=vals1 r
 cases rx
 have hn:=line63
 rcases hq with hq|hq
 ·obtain⟨its,r',pl,hz⟩:=I.list hq
  have hlen:=r'.length
  exact Calls.call_len_list pl.isList (by simp only[List.size_toArray]<;>omega) ⟨.int ys.length,H,I.tok _,⟨s.toks+1,by rw[List.size_toArray,hlen]⟩,q⟩
 ·obtain⟨its,r',pl,hz⟩:=I.tuple hq
  have hlen:=r'.length
  exact len_tuple pl (by simp only[List.size_toArray]<;>omega) ⟨.int ys.length,H,I.tok _,⟨s.toks+1,by rw[List.size_toArray,hlen]⟩,q⟩
theorem call_len_str:CallR X (.builtin "len") (fun xs H Q=>∃ z,xs=[.str z]∧z.length≤sizeLine∧Q (.int z.length) H):=by
 intro pins s σ H xs us Q I r h
 obtain⟨z,rfl,hz,q⟩:=h
 obtain⟨u,rfl,t,rfl⟩:=vals1 r
 have hn:=line63
 exact len_str (by omega) ⟨.int z.length,H,I.tok _,⟨_,rfl⟩,q⟩
theorem CallR.or{f:Value}{r r':List V→Hp→VK→Prop}(h:CallR X f r)(h':CallR X f r'):CallR X f (fun xs H Q=>r xs H Q∨r' xs H Q):=by
 intro pins s σ H xs us Q I rs q
 rcases q with q|q
 ·exact h pins s σ H xs us Q I rs q
 ·exact h' pins s σ H xs us Q I rs q
theorem call_list_of:CallR X (.type "list") (fun xs H Q=>∃ p ys,xs=[.ref p]∧(SqL X.K H p ys∨SqT X.K H p ys)∧∀ l,H l=none→Q (.ref l) (upd H l (.lst ys))):=by
 intro pins s σ H xs us Q I r h
 obtain⟨p,ys,rfl,hq,q⟩:=h
 obtain⟨u,rfl,rx⟩:=vals1 r
 cases rx
 have fin:∀ (its:List Value),Vals ys its→ys.length≤sizeLine→∀ (h':Heap) (c':Nat),(∀ b o',s.heap.get? b=some o'→h'.get? b=some o') →
   h'.get? s.heap.objs.size=some { cls:=.type "list",dict:=none,data:=.seq its.toArray c',slots:=#[] }→EP X pins σ Q (.ref s.heap.objs.size) { s with heap:=h' }:=fun its r' hz h' c' kp e =>
  ⟨.ref s.heap.objs.size,_,I.laid (t':=s.toks) kp (Nat.le_refl _) (show ObjOk X.prog X.w _ h' _ (.lst ys) from ⟨hz,its,c',r',e⟩),rfl,q _ (I.hok.fresh (Nat.le_refl _))⟩
 rcases hq with hq|hq
 ·obtain⟨its,r',pl,hz⟩:=I.list hq
  have hlen:=r'.length
  obtain⟨o,ho,hc,n,hd⟩:=pl.isList
  exact call_list_seq p (.inl rfl) ho hc hd (fun h' c' kp e=>fin its r' hz h' c' kp e) (by simp only[List.size_toArray]<;>omega)
 ·obtain⟨its,r',pl,hz⟩:=I.tuple hq
  have hlen:=r'.length
  obtain⟨o,ho,hc,n,hd⟩:=pl
  exact call_list_seq p (.inr rfl) ho hc hd (fun h' c' kp e=>fin its r' hz h' c' kp e) (by simp only[List.size_toArray]<;>omega)
theorem call_tuple_of:CallR X (.type "tuple") (fun xs H Q=>∃ p ys,xs=[.ref p]∧((SqL X.K H p ys∧∀ l,H l=none→Q (.ref l) (upd H l (.tup ys)))∨(SqT X.K H p ys∧Q (.ref p) H))):=by
 intro pins s σ H xs us Q I r h
 obtain⟨p,ys,rfl,h⟩:=h
 obtain⟨u,rfl,rx⟩:=vals1 r
 cases rx
 rcases h with⟨hq,q⟩|⟨hq,q⟩
 ·obtain⟨its,r',pl,hz⟩:=I.list hq
  have hlen:=r'.length
  refine call_tuple_list pl.isList (fun h' kp=>?_) (by simp only[List.size_toArray]<;>omega)
  have I1:Inv X pins σ H { s with heap:=h' }:=I.kept (t':=s.toks) kp
  have I2:Inv X pins σ (upd H h'.objs.size (.tup ys)) { s with heap:=h'.push { cls:=.type "tuple",data:=.seq its.toArray } } :=
   I1.laid (t':=s.toks) (fun b o e=>Heap.get?_push_of_some _ e) (Nat.le_refl _) (show ObjOk X.prog X.w _ _ _ (.tup ys) from ⟨hz,its,r',IsTup.new _ _⟩)
  exact⟨.ref h'.objs.size,_,I2,rfl,q _ (I1.hok.fresh (Nat.le_refl _))⟩
 ·obtain⟨its,r',pl,hz⟩:=I.tuple hq
  exact call_tuple_same pl ⟨.ref p,H,I,rfl,q⟩
noncomputable def tyV(K:W.Frag)(T:String)(x:V)(H:Hp):Prop:=match x with
 | .str _=>T = "str"
 | .int _=>T = "int"
 | .ref p=>(T = "list" ∧ ∃ xs,SqL K H p xs)∨(T = "tuple" ∧ ∃ o,K.lookup p=some o∧o.cls=.type "tuple" ∧ o.dict=none) ∨
   (T = "dict" ∧ ((∃ kvs,H p=some (.dK kvs))∨∃ kvs,H p=some (.dT kvs)))∨(T = "set" ∧ ∃ S n,H p=some (.set S n))
 | _=>False
theorem tyV_is{pins:List (Addr×Obj)}{σ:St}{H:Hp}{s:Shared}{T:String}{x:V}{v:Value}(I:Inv X pins σ H s)(r:RelV x v)(ty:tyV X.K T x H) :
  s.TypeIs v T∧∀ a,v=.ref a→∃ ob,s.heap.get? a=some ob∧ob.dict=none:=by
 cases x with
 | str z =>
  obtain⟨t,rfl⟩:=r
  cases (show T = "str" from ty)
  exact⟨typeIs_str s z t,fun _ e=>nomatch e⟩
 | int i =>
  obtain⟨t,rfl⟩:=r
  cases (show T = "int" from ty)
  exact⟨typeIs_int s i t,fun _ e=>nomatch e⟩
 | ref p =>
  cases r
  rcases ty with⟨rfl,xs,hq⟩|⟨rfl,o,hk,hc,hd⟩|⟨rfl,hk⟩|⟨rfl,S,n,hk⟩
  ·obtain⟨its,_,pl,_⟩:=I.list hq
   refine⟨pl.isList.typeIs,fun a e=>?_⟩
   cases e
   obtain⟨o,n,e,c,hd,_⟩:=pl
   exact⟨o,e,hd⟩
  ·refine⟨⟨o,I.kIn p o hk,hc⟩,fun a e=>?_⟩
   cases e
   exact⟨o,I.kIn _ o hk,hd⟩
  ·have z:∃ o,s.heap.get? p=some o∧o.ExactDict:=by
    rcases hk with⟨kvs,hk⟩|⟨kvs,hk⟩
    ·obtain⟨_,_,_,_,o,_,_,e,ex,_⟩:=I.hok p _ hk
     exact⟨o,e,ex⟩
    ·obtain⟨_,_,_,_,o,_,_,e,ex,_⟩:=I.hok p _ hk
     exact⟨o,e,ex⟩
   obtain⟨o,e,ex⟩:=z
   refine⟨⟨o,e,ex.1⟩,fun a e2=>?_⟩
   cases e2
   exact⟨o,e,ex.2.1⟩
  ·obtain⟨o,_,_,_,e,ex,_⟩:=I.hok p _ hk
   refine⟨⟨o,e,ex.1⟩,fun a e2=>?_⟩
   cases e2
   exact⟨o,e,ex.2.1⟩
 | _=>exact False.elim ty
noncomputable def tBM0(K:W.Frag)(T:String)(r:V→List V→Hp→VK→Prop)(to:TE):TE:=fun σ H Q=>to σ H fun x H1=>tyV K T x H1∧r x [] H1 Q
noncomputable def tBM(K:W.Frag)(T:String)(r:V→List V→Hp→VK→Prop)(to:TE)(t:TA):TE:=fun σ H Q=>to σ H fun x H1=>tyV K T x H1∧t σ H1 fun xs H2=>r x xs H2 Q
variable{o e:Expr}{es:List Expr}{to:TE}{t:TA}{name:Str}{apos cpos:Pos}{T id:String}{r:V→List V→Hp→VK→Prop}
theorem pe_bm0(pa:PlainAttrs T)(slot:Slot T name id)(hty:typeOf (.builtin id)=pure (.type "method_descriptor"))(hm:MtR X id r)(ho:PE X o to)
  (hbase:attributeBase o name X.env (eval o X.env)=eval o X.env:=by rfl) (hline:(apos.endLine == cpos.line)=true:=by rfl):PE X (.Call (.Attribute o name apos) [] [] cpos) (tBM0 X.K T r to):=by
 intro pins s σ H Q I h
 refine wpAny_Call_method0_late hbase hline (thn (ho pins s σ H _ I h) fun v s1 ⟨x,H1,I1,r1,ty,q1⟩=>?_)
 obtain⟨h1,h2⟩:=tyV_is I1 r1 ty
 exact⟨T,id,pa,slot,hty,h1,h2,Calls.callWith_builtin rfl (PySem.evalArgs_none (hm pins s1 σ H1 x [] v [] Q I1 r1 .nil q1))⟩
theorem pe_bm(pa:PlainAttrs T)(slot:Slot T name id)(hty:typeOf (.builtin id)=pure (.type "method_descriptor"))(hm:MtR X id r)(ho:PE X o to)(ha:PA X (e::es) t)
  (hbase:attributeBase o name X.env (eval o X.env)=eval o X.env:=by rfl)
  (hfew:((backTo cpos (starEach (e::es) X.env)).all (fun x=>!x.1) && (backToKw cpos (keywordEach [] X.env)).all (fun x=>x.1.isSome)
   && decide ((e::es).length+([]:List Keyword).length+(if ([]:List Keyword).isEmpty then 0 else 1)<30))=true:=by rfl)
  (hline:(apos.endLine == cpos.line)=true:=by rfl) (hs:starEach (e::es) X.env=(false,eval e X.env)::starEach es X.env:=by rfl) (hplain:(backTo cpos (starEach es X.env)).any (·.1)=false:=by rfl) :
  PE X (.Call (.Attribute o name apos) (e::es) [] cpos) (tBM X.K T r to t):=by
 intro pins s σ H Q I h
 refine wpAny_Call_method_late hbase hfew hline rfl (thn (ho pins s σ H _ I h) fun v s1 ⟨x,H1,I1,r1,ty,q1⟩=>?_)
 obtain⟨h1,h2⟩:=tyV_is I1 r1 ty
 refine⟨T,id,pa,slot,hty,h1,h2,?_⟩
 have hA:=ha cpos pins s1 σ H1 _ I1 q1
 rw[hs] at hA ⊢
 refine Calls.callWith_builtin (by show (false || (backTo cpos (starEach es X.env)).any (·.1))=false;rw[hplain]<;>rfl) (Calls.evalArgs_plain ?_)
 exact thn hA fun us s2 ⟨vs,H2,I2,r2,q2⟩=>hm pins s2 σ H2 x vs v us Q I2 r1 r2 q2
end
end L2
namespace L2
open PySem PySem.Spec PyProof.Rows
noncomputable def MtM(X:Cx)(id:String)(r:V→List V→Hp→VK→Prop):Prop :=
 ∀ (pins:List (Addr×Obj)) (s:Shared) (σ:St) (H:Hp) (x:V) (xs:List V) (v:Value) (us:List Value) (Q:VK),Inv X pins σ H s→RelV x v→Vals xs us→r x xs H Q →
  wpAny (model X.prog X.w) X.A (call (.builtin id) (v::us)) (EP X pins σ Q) X.xe s
theorem Vals.one:∀ {x:V} {us:List Value},Vals [x] us→∃ u,us=[u]∧RelV x u
 | _,_,.cons r .nil=>⟨_,rfl,r⟩
theorem Vals.zero:∀ {us:List Value},Vals [] us→us=[]
 | _,.nil=>rfl
theorem Vals.rep{xs:List V}{us:List Value}(h:Vals xs us):∀ k:Nat,Vals (List.replicate k xs).flatten (List.replicate k us).flatten
 | 0=>.nil
 | k+1=>by
  rw[List.replicate_succ,List.replicate_succ,List.flatten_cons,List.flatten_cons]
  exact Vals.append h (Vals.rep h k)
theorem foldl_rep(its:List Value):∀ (k:Nat) (acc:List Value),
  List.foldl (fun x1 x2=>x1++x2) acc.toArray (List.replicate k its.toArray)=(acc++(List.replicate k its).flatten).toArray
 | 0,acc=>by simp
 | k+1,acc=>by
  have e:acc.toArray++its.toArray=(acc++its).toArray:=by simp
  have e2:(acc++its)++(List.replicate k its).flatten=acc++(List.replicate (k+1) its).flatten:=by
   rw[List.replicate_succ,List.flatten_cons,List.append_assoc]
  rw[← e2,← foldl_rep its k (acc++its),← e,List.replicate_succ,List.foldl_cons]
section
variable{X:Cx}{pins:List (Addr×Obj)}{σ:St}{H:Hp}{s:Shared}{l b:Addr}{xs ys zs:List V}
theorem Inv.lset{its its':List Value}{n:Nat}{f:Array Value→Array Value}{t':Nat}(I:Inv X pins σ H s)(hH:H l=some (.lst xs))
  (e:s.heap.get? l=some { cls:=.type "list",data:=.seq its.toArray n }) (hf:f its.toArray=its'.toArray) (hv:Vals ys its') (hz:ys.length≤sizeLine) :
  Inv X pins σ (upd H l (.lst ys)) { s with heap:=s.heap.update l (Obj.mapSeq f),toks:=t' }:=by
 have q:=PySem.IsL.update e f
 rw[hf] at q
 refine I.write (x:=l) (e:=l) (by rw[hH];exact trivial) (.inl rfl) (fun b' u hb hu=>(Heap.get?_update_other s.heap (Obj.mapSeq f) (Ne.symm hb)).trans hu) ⟨_,q⟩ ?_
 exact⟨hz,its',_,hv,q⟩
theorem Inv.lnew{its:List Value}{t':Nat}(I:Inv X pins σ H s)(hv:Vals ys its)(hz:ys.length≤sizeLine) :
  Inv X pins σ (upd H s.heap.objs.size (.lst ys)) { s with heap:=s.heap.push { cls:=.type "list",data:=.seq its.toArray },toks:=t' } :=
 I.laid (fun _ _ q=>Heap.get?_push_of_some _ q) (Nat.le_refl _) ⟨hz,its,0,hv,Heap.get?_push_size _ rfl⟩
theorem Inv.fresh(I:Inv X pins σ H s):H s.heap.objs.size=none:=I.hok.fresh (Nat.le_refl _)
theorem Inv.lstM(I:Inv X pins σ H s)(hH:H l=some (.lst xs)):xs.length≤sizeLine∧∃ (its:List Value) (n:Nat),Vals xs its∧xs.length=its.length∧s.heap.get? l=some { cls:=.type "list",data:=.seq its.toArray n }:=by
 obtain⟨z,its,n,r,e⟩:=I.hok l _ hH
 exact⟨z,its,n,r,r.length,e⟩
theorem notLongL{n:Nat}(h:n≤sizeLine):Builtin.List.listTooLong n=false:=by
 unfold Builtin.List.listTooLong
 exact decide_eq_false (by omega)
end
section
variable{X:Cx}
noncomputable def rAppend:V→List V→Hp→VK→Prop:=fun x vs H Q=>∃ l xs y,x=.ref l∧vs=[y]∧H l=some (.lst xs)∧xs.length<sizeLine∧Q .non (upd H l (.lst (xs++[y])))
theorem mt_append:MtM X "list.append" rAppend:=by
 intro pins s σ H x vs v us Q I rx rv h
 obtain⟨l,xs,y,rfl,rfl,hH,hz,q⟩:=h
 cases rx
 obtain⟨u,rfl,ru⟩:=rv.one
 obtain⟨z,its,n,r,hl,e⟩:=I.lstM hH
 refine call_meets F.slot_list_append ⟨_,e,rfl⟩ F.entry_list_append (F.args_list_append_2 _ _) (PySem.list_append l its.toArray n u (by rw[List.size_toArray];omega)) ⟨e,?_⟩
 refine⟨.non,_,I.lset (its':=its++[u]) hH e (by simp) (r.append (.cons ru .nil)) ?_,rfl,q⟩
 rw[List.length_append,List.length_singleton]
 omega
noncomputable def rClear:V→List V→Hp→VK→Prop:=fun x vs H Q=>∃ l xs,x=.ref l∧vs=[]∧H l=some (.lst xs)∧Q .non (upd H l (.lst []))
theorem mt_clear:MtM X "list.clear" rClear:=by
 intro pins s σ H x vs v us Q I rx rv h
 obtain⟨l,xs,rfl,rfl,hH,q⟩:=h
 cases rx
 have hus:=rv.zero
 subst hus
 obtain⟨z,its,n,r,hl,e⟩:=I.lstM hH
 refine call_meets F.slot_list_clear ⟨_,e,rfl⟩ F.entry_list_clear (F.args_list_clear_1 _) (AutoSeq1.list_clear_list_0 l its.toArray n (by rw[List.size_toArray];omega)) ⟨e,?_⟩
 exact⟨.non,_,I.lset (its':=[]) (ys:=[]) hH e rfl .nil (Nat.zero_le _),rfl,q⟩
noncomputable def rRep:R2:=fun x y H Q=>∃ l k xs,x=.ref l∧y=.int k∧H l=some (.lst xs)∧-(2 ^ 63)≤k∧k<2 ^ 63∧xs.length*k.toNat≤sizeLine ∧
 ∀ p,H p=none→Q (.ref p) (upd H p (.lst (List.replicate k.toNat xs).flatten))
theorem len_rep{α:Type}(xs:List α)(k:Nat):(List.replicate k xs).flatten.length=k*xs.length:=by
 induction k with
 | zero=>simp
 | succ k ih=>rw[List.replicate_succ,List.flatten_cons,List.length_append,ih,Nat.succ_mul,Nat.add_comm]
theorem op_rep:OpR X (binaryOp .Mult) rRep:=by
 intro pins s σ H x y v u Q I rx ry h
 obtain⟨l,k,xs,rfl,rfl,hH,h1,h2,hz,q⟩:=h
 cases rx
 obtain⟨t,rfl⟩:=ry
 obtain⟨z,its,n,r,hl,e⟩:=I.lstM hH
 have hlen:its.toArray.size*k.toNat≤sizeLine:=by rw[List.size_toArray,← hl];exact hz
 have hcap:¬ its.toArray.size*k.toNat > (2 ^ 63-1) / 8:=by
  have:(sizeLine:Nat)≤(2 ^ 63-1) / 8:=by decide
  omega
 have hfit:¬ (!Builtin.List.listFitsIndex k)=true:=by
  rw[fitsIndex_both h1 h2]
  exact Bool.false_ne_true
 have hlong:¬ Builtin.List.listTooLong (its.toArray.size*k.toNat)=true:=by
  rw[notLongL hlen]
  exact Bool.false_ne_true
 have hnew:List.foldl (fun x1 x2=>x1++x2) #[] (List.replicate (if its.toArray.isEmpty=true then 0 else k.toNat) its.toArray)=(List.replicate k.toNat its).flatten.toArray:=by
  have f0:∀ m:Nat,List.foldl (fun x1 x2=>x1++x2) #[] (List.replicate m its.toArray)=(List.replicate m its).flatten.toArray:=fun m=>by
   have:=foldl_rep its m []
   rw[List.nil_append] at this
   exact this
  rw[f0]
  cases its with
  | nil=>simp
  | cons a r'=>rw[if_neg (by simp)]
 refine wpAny_binaryOp_repeat_ref (T := "list") (U := "int") (by decide) ⟨_,e,rfl⟩ (fun s'=>typeIs_int s' k t) noFill_list_mul F.fills_int_mul F.slot_int_rmul repeat_list F.slot_int_index.lookup
  (call_meets F.slot_int_rmul (typeIs_int s k t) F.entry_int_rmul (F.args_int_rmul_2 _ _) (int___rmul___int_list k t l its.toArray n)
   ⟨e,rfl,⟨_,e,rfl⟩,call_meets F.slot_list_mul ⟨_,e,rfl⟩ F.entry_list_mul (F.args_list_mul_2 _ _) (AutoListH.list___mul___list_int_3 l its.toArray n k t hfit hcap hlong) ⟨e,?_⟩⟩)
 rw[hnew]
 exact⟨.ref _,_,I.lnew (t':=s.toks) (r.rep k.toNat) (by rw[len_rep,Nat.mul_comm];exact hz),rfl,q _ I.fresh⟩
end
section
variable{prog:Program}{w:World}{A:Around}{E:Value→Shared→Prop}{s:Shared}
set_option maxRecDepth 100000 in
end
section
variable{X:Cx}
end
end L2
namespace Att
open PySem PySem.W PySem.Calls PyProof.Rows
theorem ints_of_wellAll{P:Params}{h:Heap}:∀ (ns:List Int) (vs:List Value),WellAll P h vs (ns.map WData.int)→IntsAre vs ns:=by
 intro ns
 induction ns with
 | nil =>
  intro vs w
  rw[List.map_nil] at w
  cases w
  exact .nil
 | cons n ns ih =>
  intro vs w
  rw[List.map_cons] at w
  cases w with
  | cons a b =>
   cases a
   exact .cons _ _ (ih _ b)
theorem script_of{l:OpenLaw}{n:Nat}(hn:l.most=some n){P:Params}{h:Heap}{args:List WData}{vals:List Value}
  (hpre:l.row.toRowW.claim.pre args=true) (hwl:WellAll P h vals args) :
  ∃ a vs ns,vals=[Value.ref a]∧args=[WData.list (ns.map WData.int)]∧h.get? a=some { cls:=.type "list",data:=.seq vs.toArray }∧IntsAre vs ns∧ns.length≤n:=by
 have hsh:WShape.hasAll [] args [.list .int]=true:=(pre_splitW hpre).1
 have hc:l.pre.holds [] { args:=args }=true:=(pre_splitW hpre).2
 obtain⟨d,r,rfl,h1,h2⟩:=hasAllW_cons hsh
 obtain rfl:=hasAllW_nil h2
 obtain⟨xs,rfl,h3⟩:=hasW_list h1
 obtain⟨ns,rfl⟩:=items_int h3
 have hlen:ns.length≤n:=by
  unfold OpenLaw.pre at hc
  have h4:(WTm.not (.lt (.lit (.int (n:Int))) (.len (.arg 0)))).holds [] { args:=[.list (ns.map .int)] }=true:=by
   have h4:=(holds_andW hc).1
   rw[hn] at h4
   exact h4
  have h5:=condW_of h4 (w_not (w_lt w_lit (w_len_list (w_arg rfl))))
  rw[List.length_map] at h5
  refine Nat.le_of_not_lt fun q=>?_
  have q':(n:Int)<((ns.length:Nat):Int):=by omega
  first
   | (rw[decide_eq_true q'] at h5;exact absurd h5 (by decide))
   | (simp at h5;omega)
 cases hwl with
 | cons w1 w2 =>
  cases w2
  cases w1 with
  | list ho hall=>exact⟨_,_,ns,rfl,rfl,ho,ints_of_wellAll ns _ hall,hlen⟩
theorem post_true(l:OpenLaw)(args:List WData):l.row.toRowW.claim.post args (.bool true) args=true :=
 postW_of (r:=l.row.toRowW) (X:=(true == true))
  (show WShape.has [] (.bool true) .bool=true by first|rfl|decide|simp[WShape.has,WShape.arms,WShape.armsAll])
  (show (WTm.eq .res (.lit (.bool true))).value [] { args:=args,res:=some (.bool true),after:=args }=some (.bool (true == true)) from w_eq_bool (w_res rfl) w_lit) rfl
section
variable{prog:Program}{w:World}{A:Around}{E:Value→Shared→Prop}{s:Shared}{K:Frag}
end
end Att
namespace L2
open PySem PySem.Spec PyProof.Rows
theorem vals_ints:∀ {vs:List Value} {ns:List Int},IntsAre vs ns→Vals (ns.map V.int) vs
 | _,_,.nil=>.nil
 | _,_,.cons n t h=>.cons ⟨t,rfl⟩ (vals_ints h)
end L2
namespace L2
open PySem PySem.Spec PyProof.Rows
end L2
namespace L2
open PySem PySem.Spec PyProof.Rows
noncomputable def defArgs(s:Stmt):Arguments:=match s with
 | .FunctionDef _ a _ _ _ _ _ _ _ _=>a
 | _=>{ posonlyargs:=[],args:=[],vararg:=none,kwonlyargs:=[],kw_defaults:=[],kwarg:=none,defaults:=[] }
noncomputable def defBody(s:Stmt):List Stmt:=match s with
 | .FunctionDef _ _ b _ _ _ _ _ _ _=>b
 | _=>[]
noncomputable def defScope(s:Stmt):Scope:=match s with
 | .FunctionDef _ _ _ _ _ _ sc _ _ _=>sc
 | _=>{ kind:=.function,names:=[],isGenerator:=false,isCoroutine:=false }
noncomputable abbrev E0:XK:=fun _ _ _=>False
section
variable{P:Program}{w:World}{K:W.Frag}{mg:Str→Option Value}{base:Heap}
end
theorem small1000{n:Nat}(h:n≤1000):n<sizeLine:=Nat.lt_of_le_of_lt h (by decide)
section
variable{X:Cx}
theorem pv(i:Nat){x:Str}{pos:Pos}(hN:X.N[i]?=some x:=by rfl)(hv:Vis X.env.scope x:=by first|exact Or.inl rfl|exact Or.inr (Or.inl rfl)|exact Or.inr (Or.inr rfl))(hd:(x == ("__debug__" : Str))=false:=by decide)
  (hcd:(x == ("__classdict__" : Str))=false:=by decide):PE X (.Name x pos) (tVar i):=pe_var hN hv hd hcd
end
theorem iteT{A B:Prop}(h:A):if true=true then A else B:=by
 rw[if_pos rfl]
 exact h
theorem ite2{c A B:Prop}[Decidable c](h1:c→A)(h2:¬ c→B):if c then A else B:=by
 by_cases h:c
 ·rw[if_pos h]
  exact h1 h
 ·rw[if_neg h]
  exact h2 h
noncomputable def Same(H H':Hp):Prop:=∀ b o,H b=some o→H' b=some o
theorem Same.refl(H:Hp):Same H H:=fun _ _ h=>h
theorem Same.trans{H H1 H2:Hp}(a:Same H H1)(b:Same H1 H2):Same H H2:=fun c o h=>b c o (a c o h)
theorem Same.free{H H':Hp}(e:Same H H'){l:Addr}(h:H' l=Option.none):H l=Option.none:=by
 cases q:H l with
 | none=>rfl
 | some o =>
  rw[e l o q] at h
  cases h
theorem Same.seq{K:W.Frag}{H H':Hp}{a:Addr}{xs:List V}(e:Same H H')(h:SqL K H a xs):SqL K H' a xs:=by
 rcases h with (h|⟨o,h⟩)|h
 ·exact .inl (.inl (e _ _ h))
 ·exact .inl (.inr ⟨o,e _ _ h⟩)
 ·exact .inr h
end L2
namespace L2
open PySem PySem.Spec PyProof.Rows
section
variable{κ:Type}[DecidableEq κ]
noncomputable def valV(kvs:List (κ×V))(k:κ):Option V:=(kvs.find? fun kv=>decide (kv.1=k)).map (·.2)
theorem valV_pos{p:κ×V}{r:List (κ×V)}{k:κ}(e:p.1=k):valV (p::r) k=some p.2:=by simp[valV,List.find?_cons,e]
theorem valV_neg{p:κ×V}{r:List (κ×V)}{k:κ}(e:¬ p.1=k):valV (p::r) k=valV r k:=by simp[valV,List.find?_cons,e]
theorem RelO.isSome_eq{o:Option V}{u:Option Value}(r:RelO o u):o.isSome=u.isSome:=by
 cases o with
 | none=>cases u with
  | none=>rfl
  | some _=>exact (show False from r).elim
 | some _=>cases u with
  | none=>exact (show False from r).elim
  | some _=>rfl
theorem KV.val{kvs:List (κ×V)}{vs:List (κ×Value)}(r:KV kvs vs)(k:κ):RelO (valV kvs k) (valueAt vs k):=by
 unfold KV at r
 induction r with
 | nil=>exact True.intro
 | @cons p q ps qs h t ih =>
  obtain⟨h1,h2⟩:=h
  by_cases e:p.1=k
  ·have e':q.1=k:=h1.symm.trans e
   have b:valueAt (q::qs) k=some q.2:=by simp[valueAt,List.find?_cons,e']
   rw[valV_pos e,b];exact h2
  ·have e':¬ q.1=k:=fun z=>e (h1.trans z)
   have b:valueAt (q::qs) k=valueAt qs k:=by simp[valueAt,List.find?_cons,e']
   rw[valV_neg e,b];exact ih
end
theorem kV_is{P:Program}{w:World}{k:Key}{u:Value}(r:RelV (kV k) u):(mixKind P w).is k u=true:=by
 cases k with
 | inl i=>obtain⟨t,e⟩:=(show ∃ t,u=Value.int i t from r);subst e;exact mixKind_int P w i t
 | inr x=>obtain⟨t,e⟩:=(show ∃ t,u=Value.str x t from r);subst e;exact mixKind_str P w x t
theorem items_are{P:Program}{w:World}:∀ {ks:List Key} {us:List Value},Vals (ks.map kV) us→ItemsAre (mixKind P w) ks us
 | [],_,r=>by rw[List.map_nil] at r;cases r;exact .nil
 | k::ks,_,r=>by
  rw[List.map_cons] at r
  cases r with
  | cons h t=>exact .cons (kV_is h) (items_are t)
noncomputable abbrev KT(H:Hp):List (List Key×V)→List (List Key×Addr×Value)→Prop:=Paired fun p q=>p.1=q.1∧H q.2.1=some (.tup (p.1.map kV))∧RelV p.2 q.2.2
theorem KT.val{H:Hp}{kvs:List (List Key×V)}{xs:List (List Key×Addr×Value)}(r:KT H kvs xs)(k:List Key):RelO (valV kvs k) ((atKey xs k).map (·.2)):=by
 induction r with
 | nil=>exact True.intro
 | @cons p q ps qs h t ih =>
  obtain⟨h1,_,h2⟩:=h
  by_cases e:p.1=k
  ·have e':q.1=k:=h1.symm.trans e
   have b:atKey (q::qs) k=some q.2:=by simp[atKey,List.find?_cons,e']
   rw[valV_pos e,b];exact h2
  ·have e':¬ q.1=k:=fun z=>e (h1.trans z)
   have b:atKey (q::qs) k=atKey qs k:=by simp[atKey,List.find?_cons,e']
   rw[valV_neg e,b];exact ih
section
variable{P:Program}{w:World}{H:Hp}{h:Heap}{a:Addr}
theorem rd_of{u:HO}(ok:HOk P w H h)(e:Rd H a u):ObjOk P w H h a u:=e.ok ok
theorem dk_rd{kvs:List (Key×V)}(ok:HOk P w H h)(e:Rd H a (.dK kvs)):kvs.length≤sizeLine∧(a == sysModules)=false∧∃ vs,KV kvs vs∧h.DictOf (mixKind P w) a vs :=
 show ObjOk P w H h a (.dK kvs) from rd_of ok e
theorem key_of{ks:List Key}(ok:HOk P w H h)(e:H a=some (.tup (ks.map kV))):(tupleKind (mixKind P w)).is h ks a:=by
 obtain⟨_,its,r,o,h1,h2,n,h3⟩:=(show ObjOk P w H h a (.tup (ks.map kV)) from ok a _ e)
 exact⟨o,its.toArray,n,h1,h2,h3,by simpa using items_are r⟩
theorem dt_rd{kvs:List (List Key×V)}(ok:HOk P w H h)(e:Rd H a (.dT kvs)):kvs.length≤sizeLine∧(a == sysModules)=false ∧
  ∃ xs,KT H kvs xs∧h.DictOfH (tupleKind (mixKind P w)) a xs:=by
 obtain⟨z,y,xs,r,o,es,ep,h1,h2,h3,h4,h5⟩:=(show ObjOk P w H h a (.dT kvs) from rd_of ok e)
 refine⟨z,y,xs,r,o,es,ep,h1,h2,h3,h4,fun x hx=>?_,h5⟩
 have all:∀ {l:List (List Key×V)} {m:List (List Key×Addr×Value)},KT H l m→∀ x∈m,(tupleKind (mixKind P w)).is h x.1 x.2.1:=by
  intro l m q
  induction q with
  | nil=>intro x hx;exact nomatch hx
  | @cons p q ps qs hq t ih =>
   intro x hx
   rcases List.mem_cons.mp hx with e|hx
   ·subst e
    exact key_of ok (by rw[← hq.1];exact hq.2.1)
   ·exact ih x hx
 exact all r x hx
end
noncomputable def DGet(H:Hp)(a:Addr)(y:V)(r:Option V):Prop :=
 (∃ kvs k,Rd H a (.dK kvs)∧y=kV k∧r=valV kvs k)∨∃ kvs k b,Rd H a (.dT kvs)∧y=.ref b∧H b=some (.tup (k.map kV))∧r=valV kvs k
section
variable{X:Cx}{pins:List (Addr×Obj)}{σ:St}{H:Hp}{s:Shared}{a:Addr}{y v:V}{u r:Value}{o:Option V}{A:Around}{E:Value→Shared→Prop}
theorem d_getItem{Q:Value→Shared→Prop}(hu:A.units+1<cLine)(I:Inv X pins σ H s)(g:DGet H a y (some v))(ry:RelV y u)(h:∀ w' s',Inv X pins σ H s'→RelV v w'→Q w' s') :
  wpAny (model X.prog X.w) A (getItem (.ref a) u) Q E s:=by
 rcases g with⟨kvs,k,e,ey,l⟩|⟨kvs,k,b,e,ey,eb,l⟩
 ·subst ey
  obtain⟨z,hd,vs,rel,dd⟩:=dk_rd I.hok e
  obtain⟨w',hw,rw'⟩:=RelO.some_of (v:=v) (o:=valueAt vs k) (by rw[l];exact rel.val k)
  exact wpAny_getItem_of (kV_is ry) dd.mapOf hw (h w' _ (I.tok _) rw')
 ·subst ey
  cases (show u=Value.ref b from ry)
  obtain⟨z,hd,xs,rel,dd⟩:=dt_rd I.hok e
  obtain⟨w',hw,rw'⟩:=RelO.some_of (v:=v) (o:=(atKey xs k).map (·.2)) (by rw[l];exact rel.val k)
  obtain⟨p,hp,hp2⟩:=Option.map_eq_some_iff.mp hw
  refine wpAny_getItem_heap (tupleKind_room_in1 hu) (key_of I.hok eb) dd hp ?_
  rw[hp2]
  exact h w' _ (I.tok _) rw'
theorem d_in{Q:Value→Shared→Prop}(hu:A.units+1<cLine)(I:Inv X pins σ H s)(g:DGet H a y o)(ry:RelV y u)(h:∀ s',Inv X pins σ H s'→Q (.bool o.isSome) s') :
  wpAny (model X.prog X.w) A (compareOp .In u (.ref a)) Q E s:=by
 rcases g with⟨kvs,k,e,ey,l⟩|⟨kvs,k,b,e,ey,eb,l⟩
 ·subst ey
  obtain⟨z,hd,vs,rel,dd⟩:=dk_rd I.hok e
  refine wpAny_in_of (kV_is ry) hd dd.mapOf ?_
  rw[← (rel.val k).isSome_eq,← l]
  exact h _ (I.tok _)
 ·subst ey
  cases (show u=Value.ref b from ry)
  obtain⟨z,hd,xs,rel,dd⟩:=dt_rd I.hok e
  refine wpAny_in_heap (tupleKind_room_in1 hu) (key_of I.hok eb) hd dd ?_
  have q:=(rel.val k).isSome_eq
  rw[Option.isSome_map] at q
  rw[← q,← l]
  exact h _ (I.tok _)
theorem d_notIn{Q:Value→Shared→Prop}(hu:A.units+1<cLine)(I:Inv X pins σ H s)(g:DGet H a y o)(ry:RelV y u)(h:∀ s',Inv X pins σ H s'→Q (.bool (!o.isSome)) s') :
  wpAny (model X.prog X.w) A (compareOp .NotIn u (.ref a)) Q E s:=by
 rcases g with⟨kvs,k,e,ey,l⟩|⟨kvs,k,b,e,ey,eb,l⟩
 ·subst ey
  obtain⟨z,hd,vs,rel,dd⟩:=dk_rd I.hok e
  refine wpAny_notIn_of (kV_is ry) hd dd.mapOf ?_
  rw[← (rel.val k).isSome_eq,← l]
  exact h _ (I.tok _)
 ·subst ey
  cases (show u=Value.ref b from ry)
  obtain⟨z,hd,xs,rel,dd⟩:=dt_rd I.hok e
  refine wpAny_notIn_heap (tupleKind_room_in1 hu) (key_of I.hok eb) hd dd ?_
  have q:=(rel.val k).isSome_eq
  rw[Option.isSome_map] at q
  rw[← q,← l]
  exact h _ (I.tok _)
end
section
variable{X:Cx}{pins:List (Addr×Obj)}{σ:St}{H:Hp}{s:Shared}{a:Addr}{kvs:List (Key×V)}{k:Key}{u:Value}{A:Around}{E:Value→Shared→Prop}
end
theorem dict_typeIs{X:Cx}{pins:List (Addr×Obj)}{σ:St}{H:Hp}{s:Shared}{a:Addr}{y:V}{o:Option V}(I:Inv X pins σ H s)(g:DGet H a y o):s.TypeIs (.ref a) "dict" := by
 rcases g with⟨kvs,k,e,_,_⟩|⟨kvs,k,b,e,_,_,_⟩
 ·obtain⟨_,_,vs,_,dd⟩:=dk_rd I.hok e
  exact dd.typeIs
 ·obtain⟨_,_,xs,_,dd⟩:=dt_rd I.hok e
  exact dd.typeIs
section
variable{X:Cx}{o i e value:Expr}{pos pos' tpos:Pos}{td ty tv:TE}
end
section
variable{X:Cx}{pos:Pos}
end
section
variable{X:Cx}{pins:List (Addr×Obj)}{σ:St}{H:Hp}{s:Shared}{a:Addr}{y d:V}{u r:Value}{o:Option V}{A:Around}{E:Value→Shared→Prop}
end
section
variable{X:Cx}{o e f:Expr}{apos cpos:Pos}{td ty tx:TE}
end
section
variable{X:Cx}{pins:List (Addr×Obj)}{σ:St}{H:Hp}{s:Shared}{a:Addr}{kvs:List (Key×V)}{A:Around}{E:Value→Shared→Prop}
end
section
variable{X:Cx}{pins:List (Addr×Obj)}{σ:St}{H:Hp}{s:Shared}{a:Addr}{y:V}{u:Value}{A:Around}{E:Value→Shared→Prop}
end
end L2
section
namespace L2
open PySem PySem.Spec PyProof.Rows
theorem cellsFrom_inj:∀ (names:List (Str×NameKind)) (n:Nat) (acc:List (Str×Addr)),
  (∀ x y c,acc.lookup x=some c→acc.lookup y=some c→x=y)→(∀ x c,acc.lookup x=some c→c<n) →
  ∀ x y c,(cellsFrom n names acc).lookup x=some c→(cellsFrom n names acc).lookup y=some c→x=y
 | [],_,_,h,_=>h
 | (z,k)::r,n,acc,h,hb=>by
  unfold cellsFrom
  split
  ·refine cellsFrom_inj r (n+1) ((z,n)::acc) ?_ ?_
   ·intro x y c hx hy
    rw[List.lookup_cons] at hx hy
    cases ex:x == z with
    | true =>
     rw[ex] at hx
     have e1:n=c:=Option.some.inj hx
     cases ey:y == z with
     | true=>rw[beq_iff_eq.mp ex,beq_iff_eq.mp ey]
     | false =>
      rw[ey] at hy
      have:=hb y c hy
      rw[← e1] at this
      exact absurd this (Nat.lt_irrefl _)
    | false =>
     rw[ex] at hx
     cases ey:y == z with
     | true =>
      rw[ey] at hy
      have e1:n=c:=Option.some.inj hy
      have:=hb x c hx
      rw[← e1] at this
      exact absurd this (Nat.lt_irrefl _)
     | false =>
      rw[ey] at hy
      exact h x y c hx hy
   ·intro x c hx
    rw[List.lookup_cons] at hx
    cases ex:x == z with
    | true =>
     rw[ex] at hx
     have e1:n=c:=Option.some.inj hx
     rw[← e1]
     exact Nat.lt_succ_self n
    | false =>
     rw[ex] at hx
     exact Nat.lt_succ_of_lt (hb x c hx)
  ·exact cellsFrom_inj r n acc h hb
theorem cellsFrom_low(x:Str)(lo:Nat):∀ (names:List (Str×NameKind)) (n:Nat) (acc:List (Str×Addr)),lo≤n →
  ((x,NameKind.cell)∈names∨∀ c,acc.lookup x=some c→lo≤c)→∀ c,(cellsFrom n names acc).lookup x=some c→lo≤c
 | [],_,_,_,h=>h.elim (fun z=>nomatch z) id
 | (z,k)::r,n,acc,hl,h=>by
  unfold cellsFrom
  split
  ·refine cellsFrom_low x lo r (n+1) ((z,n)::acc) (by omega) ?_
   by_cases ex:x=z
   ·refine .inr fun c hc=>?_
    rw[List.lookup_cons,ex,beq_self_eq_true] at hc
    have:n=c:=Option.some.inj hc
    omega
   ·rcases h with h|h
    ·rcases List.mem_cons.mp h with e|h
     ·exact absurd (Prod.mk.inj e).1 ex
     ·exact .inl h
    ·refine .inr fun c hc=>h c ?_
     rw[List.lookup_cons,beq_false_of_ne ex] at hc
     exact hc
  ·rename_i hk
   refine cellsFrom_low x lo r n acc hl ?_
   rcases h with h|h
   ·rcases List.mem_cons.mp h with e|h
    ·rw[← (Prod.mk.inj e).2] at hk
     exact absurd rfl hk
    ·exact .inl h
   ·exact .inr h
theorem cellsFrom_out{x:Str}:∀ (names:List (Str×NameKind)) (n:Nat) (acc:List (Str×Addr)),(∀ y∈names,y.1=x→y.2≠.cell)→(cellsFrom n names acc).lookup x=acc.lookup x
 | [],_,_,_=>rfl
 | (z,k)::r,n,acc,h=>by
  unfold cellsFrom
  split
  ·rename_i hk
   rw[cellsFrom_out r (n+1) ((z,n)::acc) fun y hy=>h y (List.mem_cons_of_mem _ hy),List.lookup_cons]
   have:x≠z:=fun e=>h (z,k) List.mem_cons_self e.symm (by simpa using hk)
   rw[beq_false_of_ne this]
  ·exact cellsFrom_out r n acc fun y hy=>h y (List.mem_cons_of_mem _ hy)
theorem cellsFrom_or(x:Str):∀ (names:List (Str×NameKind)) (n:Nat) (acc:List (Str×Addr)) (c:Addr),(cellsFrom n names acc).lookup x=some c→n≤c∨acc.lookup x=some c
 | [],_,_,_,h=>.inr h
 | (z,k)::r,n,acc,c,h=>by
  unfold cellsFrom at h
  split at h
  ·rcases cellsFrom_or x r (n+1) ((z,n)::acc) c h with q|q
   ·exact .inl (by omega)
   ·rw[List.lookup_cons] at q
    cases ex:x == z with
    | true=>rw[ex] at q;have:n=c:=Option.some.inj q;exact .inl (by omega)
    | false=>rw[ex] at q;exact .inr q
  ·exact cellsFrom_or x r n acc c h
theorem cellsFrom_isCell:∀ (names:List (Str×NameKind)) (h:Heap) (acc:List (Str×Addr)),(∀ x c,acc.lookup x=some c→∃ v,h.IsCell c v) →
  ∀ x c,(cellsFrom h.objs.size names acc).lookup x=some c→∃ v,(pushCells h names).IsCell c v
 | [],_,_,h=>h
 | (z,k)::r,h,acc,ha=>by
  unfold cellsFrom pushCells
  split
  ·have:=cellsFrom_isCell r (h.push { cls:=.type "cell",data:=.cell none }) ((z,h.objs.size)::acc) (fun x c hx=>by
    rw[List.lookup_cons] at hx
    cases ex:x == z with
    | true =>
     rw[ex] at hx
     cases hx
     exact⟨none,_,Heap.get?_push_size _ rfl,rfl⟩
    | false =>
     rw[ex] at hx
     obtain⟨v,q⟩:=ha x c hx
     exact⟨v,q.keeps fun b o e=>Heap.get?_push_of_some _ e⟩)
   rwa [Heap.size_push] at this
  ·exact cellsFrom_isCell r h acc ha
theorem newEnvC{M:Model}{A:Around}{E:Value→Shared→Prop}{s:Shared}{scope:Scope}{globals:Addr}{cl:List (Str×Addr)}{qual:Str}{env:Env}{Q:Env→Shared→Prop}
  (hQ:Q (newEnv scope s.heap.objs.size globals (cellsFrom (s.heap.objs.size+1) scope.names cl) qual none .none (some env) builtinsNs)
   { s with heap:=pushCells (s.heap.push { cls:=.type "dict",data:=.dict #[] }) scope.names }) :
  wpAny M A (newFunctionEnv scope globals cl [] qual none .none (some env)) Q E s:=by
 simp only[newFunctionEnv,Option.isSome_some,if_true]
 refine wpAny_bind (wpAny_alloc ?_)
 refine wpAny_bind (wpAny_layCells _ (fun name kind cells=>by cases hkc:kind == NameKind.cell<;>simp[hkc]) _ _ _ _ ?_)
 rw[show ({ s with heap:=s.heap.push { cls:=.type "dict",data:=.dict #[] } }:Shared).heap.objs.size=s.heap.objs.size+1 from Heap.size_push ..]
 rw[List.forIn_nil]
 exact wpAny_bind (wpAny_pure (wpAny_pure hQ))
theorem closure_go{env:Env}:∀ (l:List (Str×NameKind)) (acc:List (Str×Addr)),(∀ y∈l,y.2=.free→∃ c,env.cells.lookup y.1=some c) →
  (∀ x c,acc.lookup x=some c→env.cells.lookup x=some c) →
  ∃ cl,(forIn l acc fun (x:Str×NameKind) r=>if (x.2 == .free)=true then (do let a ← cellOf env x.1;pure (ForInStep.yield ((x.1,a)::r))) else pure (ForInStep.yield r):Sem (List (Str×Addr)))=pure cl ∧
   (∀ x c,cl.lookup x=some c→env.cells.lookup x=some c)∧(∀ x,((∃ c,acc.lookup x=some c)∨(x,NameKind.free)∈l)→∃ c,cl.lookup x=some c)
 | [],acc,_,ha=>⟨acc,by rw[List.forIn_nil],ha,fun x hx=>hx.elim id fun z=>nomatch z⟩
 | (z,k)::r,acc,hl,ha=>by
  by_cases hk:k=.free
  ·subst hk
   obtain⟨c,hc⟩:=hl (z,.free) List.mem_cons_self rfl
   obtain⟨cl,h1,h2,h3⟩:=closure_go r ((z,c)::acc) (fun y hy=>hl y (List.mem_cons_of_mem _ hy)) (fun x c' hx=>by
    rw[List.lookup_cons] at hx
    cases ex:x == z with
    | true=>rw[ex] at hx;cases hx;rw[beq_iff_eq.mp ex];exact hc
    | false=>rw[ex] at hx;exact ha x c' hx)
   refine⟨cl,?_,h2,fun x hx=>h3 x ?_⟩
   ·rw[List.forIn_cons]
    have e:cellOf env z=pure c:=by unfold cellOf;rw[show env.cells.lookup z=some c from hc]
    simp only[beq_self_eq_true,if_true,e]
    exact h1
   ·rcases hx with⟨c',hx⟩|hx
    ·refine .inl ?_
     rw[List.lookup_cons]
     cases ex:x == z with
     | true=>exact⟨c,rfl⟩
     | false=>exact⟨c',hx⟩
    ·rcases List.mem_cons.mp hx with e|hx
     ·refine .inl ⟨c,?_⟩
      rw[(Prod.mk.inj e).1,List.lookup_cons,beq_self_eq_true]
     ·exact .inr hx
  ·obtain⟨cl,h1,h2,h3⟩:=closure_go r acc (fun y hy=>hl y (List.mem_cons_of_mem _ hy)) ha
   refine⟨cl,?_,h2,fun x hx=>h3 x ?_⟩
   ·rw[List.forIn_cons]
    have e:(k == NameKind.free)=false:=by simpa using hk
    simp only[e,Bool.false_eq_true,if_false]
    exact h1
   ·rcases hx with hx|hx
    ·exact .inl hx
    ·rcases List.mem_cons.mp hx with e|hx
     ·exact absurd (Prod.mk.inj e).2.symm hk
     ·exact .inr hx
theorem closure_ex{scope:Scope}{env:Env}(h:∀ y∈scope.names,y.2=.free→∃ c,env.cells.lookup y.1=some c) :
  ∃ cl,closureFor scope env=pure cl∧(∀ x c,cl.lookup x=some c→env.cells.lookup x=some c)∧(∀ x,(x,NameKind.free)∈scope.names→∃ c,cl.lookup x=some c):=by
 obtain⟨cl,h1,h2,h3⟩:=closure_go scope.names [] h (fun x c e=>by simp at e)
 refine⟨cl,?_,h2,fun x hx=>h3 x (.inr hx)⟩
 unfold closureFor
 simp only[bind_pure]
 exact h1
noncomputable def relabelS(scope sc:Scope):Scope :=
 { scope with names:=scope.names.map fun (n,k)=>if (k == .free && sc.kind == .function && sc.names.lookup n == some .cell) then (n,.cell) else (n,k) }
theorem relabel_eq(scope:Scope)(env:Env):relabel scope env=relabelS scope env.scope:=rfl
theorem lookup_map_val{α β:Type}(g:Str→α→β)(x:Str):∀ l:List (Str×α),(l.map fun (n,k)=>(n,g n k)).lookup x=(l.lookup x).map (g x)
 | []=>rfl
 | (n,k)::r=>by
  rw[List.map_cons,List.lookup_cons,List.lookup_cons]
  cases e:x == n with
  | true=>rw[beq_iff_eq.mp e];rfl
  | false=>exact lookup_map_val g x r
theorem lookup_relabelS(scope sc:Scope)(x:Str):(relabelS scope sc).names.lookup x=(scope.names.lookup x).map fun k=>if (k == .free && sc.kind == .function && sc.names.lookup x == some .cell) then NameKind.cell else k:=by
 have e:(relabelS scope sc).names=scope.names.map fun (n,k)=>(n,if (k == .free && sc.kind == .function && sc.names.lookup n == some .cell) then NameKind.cell else k):=by
  unfold relabelS
  refine List.map_congr_left fun y _=>?_
  obtain⟨n,k⟩:=y
  show (if _ then _ else _)=(n,if _ then _ else _)
  split<;>rfl
 rw[e]
 exact lookup_map_val (fun n k=>if (k == .free && sc.kind == .function && sc.names.lookup n == some .cell) then NameKind.cell else k) x scope.names
noncomputable def capOk(N0:List Str)(sc0 scope:Scope):List Str→List (Option Nat)→Bool
 | [],[]=>true
 | x::N,none::c=>capOk N0 sc0 scope N c
 | x::N,some j::c=>(N0[j]? == some x) && (sc0.names.lookup x == some .cell || sc0.names.lookup x == some .free) && (scope.names.lookup x == some .free) && (scope.names.all fun y=>y.1 != x || y.2 != .cell) && capOk N0 sc0 scope N c
 | _,_=>false
noncomputable def compOk(N0:List Str)(sc0 scope:Scope)(N:List Str)(cap:List (Option Nat)):Bool :=
 (scope.kind == .function) && (scope.names.all fun y=>y.2 != .local || scope.names.lookup y.1 == some .local) && (scope.names.all fun y=>y.2 != .free || (sc0.names.lookup y.1 == some .cell || sc0.names.lookup y.1 == some .free)) &&
 (scope.names.all fun y=>y.2 != .cell || scope.names.lookup y.1 == some .cell) && capOk N0 sc0 scope N cap
noncomputable def capS(cap:List (Option Nat))(σ:St):St:=cap.map fun o=>match o with
 | none=>none
 | some j=>(σ[j]?).join
theorem capOk_len{N0:List Str}{sc0 scope:Scope}:∀ {N:List Str} {cap:List (Option Nat)},capOk N0 sc0 scope N cap=true→cap.length=N.length
 | [],[],_=>rfl
 | x::N,none::c,h=>by
  have:=capOk_len (N:=N) (cap:=c) h
  simp[this]
 | x::N,some j::c,h=>by
  simp only[capOk,Bool.and_eq_true] at h
  have:=capOk_len (N:=N) (cap:=c) h.2
  simp[this]
 | [],_::_,h=>by simp[capOk] at h
 | _::_,[],h=>by simp[capOk] at h
theorem capOk_at{N0:List Str}{sc0 scope:Scope}:∀ {N:List Str} {cap:List (Option Nat)} {i j:Nat} {x:Str},capOk N0 sc0 scope N cap=true→N[i]?=some x→cap[i]?=some (some j) →
  N0[j]?=some x∧(sc0.names.lookup x=some .cell∨sc0.names.lookup x=some .free)∧scope.names.lookup x=some .free∧∀ y∈scope.names,y.1=x→y.2≠.cell
 | [],[],i,j,x,_,h,_=>by simp at h
 | y::N,none::c,0,j,x,_,_,h=>by simp at h
 | y::N,none::c,i+1,j,x,h,h1,h2=>capOk_at (N:=N) (cap:=c) (i:=i) h (by simpa using h1) (by simpa using h2)
 | y::N,some j'::c,0,j,x,h,h1,h2=>by
  simp at h1 h2
  subst h1 h2
  simp only[capOk,Bool.and_eq_true,Bool.or_eq_true,beq_iff_eq,List.all_eq_true,bne_iff_ne] at h
  exact⟨h.1.1.1.1,h.1.1.1.2,h.1.1.2,fun z hz e=>(h.1.2 z hz).elim (fun q=>absurd e q) id⟩
 | y::N,some j'::c,i+1,j,x,h,h1,h2=>by
  simp only[capOk,Bool.and_eq_true] at h
  exact capOk_at (N:=N) (cap:=c) (i:=i) h.2 (by simpa using h1) (by simpa using h2)
 | [],_::_,_,_,_,h,_,_=>by simp[capOk] at h
 | _::_,[],_,_,_,h,_,_=>by simp[capOk] at h
noncomputable def cxC(X:Cx)(scope:Scope)(cl:List (Str×Addr))(N:List Str)(s:Shared)(H:Hp)(fp:List Addr):Cx where
 prog:=X.prog
 w:=X.w
 K:=X.K
 mg:=X.mg
 base:=X.base
 A:=X.A
 N:=N
 s₀:=s
 H₀:=H
 env:=compEnvC scope (cellsFrom (s.heap.objs.size+1+1) scope.names cl) (s.heap.objs.size+1) X.env
 outer:=X.stack
 stack:=X.stack
 ex:=fp
 fn:=fun x=>scope.names.lookup x == some .cell
 calm:=X.calm
 pn:=[]
 xe:=fun _ _=>False
theorem cxC_inv{X:Cx}{pins:List (Addr×Obj)}{σ:St}{H:Hp}{s:Shared}{scope sc0:Scope}{cl:List (Str×Addr)}{N N0:List Str}{cap:List (Option Nat)}{fp:List Addr}
  (I:Inv X pins σ H s) (hf:∀ b∈fp,FpOk X pins H b) (ho:∀ b∈fp,∃ o,s.heap.get? b=some o∧∀ v,o.data≠.cell v)
  (hs0:X.env.scope=sc0) (hN:X.N=N0) (ok:compOk N0 sc0 scope N cap=true)
  (hcl:∀ x c,cl.lookup x=some c→X.env.cells.lookup x=some c) (hfr:∀ x,(x,NameKind.free)∈scope.names→∃ c,cl.lookup x=some c) :
  Inv (cxC X scope cl N s H fp) [] (capS cap σ) (upd H s.heap.objs.size (.lst [])) { s with heap:=pushCells ((s.heap.push { cls:=.type "list",data:=.seq ([]:List Value).toArray }).push { cls:=.type "dict",data:=.dict #[] }) scope.names }:=by
 simp only[compOk,Bool.and_eq_true,beq_iff_eq] at ok
 obtain⟨⟨⟨⟨hk,hloc⟩,hfree⟩,hcell⟩,hcap⟩:=ok
 have e1:(s.heap.push { cls:=.type "list",data:=.seq ([]:List Value).toArray }).objs.size=s.heap.objs.size+1:=Heap.size_push ..
 have e2:((s.heap.push { cls:=.type "list",data:=.seq ([]:List Value).toArray }).push { cls:=.type "dict",data:=.dict #[] }).objs.size=s.heap.objs.size+1+1:=by rw[Heap.size_push,e1]
 have k1:∀ b o,s.heap.get? b=some o→(pushCells ((s.heap.push { cls:=.type "list",data:=.seq ([]:List Value).toArray }).push { cls:=.type "dict",data:=.dict #[] }) scope.names).get? b=some o :=
  fun b o e=>pushCells_keeps _ _ b o (Heap.get?_push_of_some _ (Heap.get?_push_of_some _ e))
 have kD:(pushCells ((s.heap.push { cls:=.type "list",data:=.seq ([]:List Value).toArray }).push { cls:=.type "dict",data:=.dict #[] }) scope.names).get? s.heap.objs.size=some { cls:=.type "list",data:=.seq ([]:List Value).toArray } :=
  pushCells_keeps _ _ _ _ (Heap.get?_push_of_some _ (Heap.get?_push_size _ rfl))
 have kC:(pushCells ((s.heap.push { cls:=.type "list",data:=.seq ([]:List Value).toArray }).push { cls:=.type "dict",data:=.dict #[] }) scope.names).Ns (s.heap.objs.size+1) fun _=>none:=by
  have q:=(Heap.Ns.new (s.heap.push { cls:=.type "list",data:=.seq ([]:List Value).toArray }) (.type "dict")).keeps (pushCells_keeps scope.names _)
  rw[e1] at q
  exact q
 have hD:H s.heap.objs.size=none:=I.hok.fresh (Nat.le_refl _)
 have clLt:∀ x c,cl.lookup x=some c→c<s.heap.objs.size:=fun x c e=>by
  obtain⟨v,q⟩:=I.cell x c (hcl x c e)
  exact q.lt
 have cells:∀ x c,(cellsFrom (s.heap.objs.size+1+1) scope.names cl).lookup x=some c→s.heap.objs.size+1+1≤c∨cl.lookup x=some c:=fun x c e=>cellsFrom_or x _ _ _ c e
 have fpLt:∀ b∈fp,b<s.heap.objs.size:=fun b hb=>by
  obtain⟨o,e,_⟩:=ho b hb
  exact Heap.lt_size e
 refine⟨⟨I.ok.mod,hk,I.ok.glob,I.ok.blt,Nat.le_succ _,?_,?_,?_,I.ok.hd,I.ok.frames,.inl rfl,?_,I.bs,Nat.le_trans I.ok.bsz I.sz,?_,?_,I.stack,I.stkFree⟩,
  rfl,I.bare,?_,?_,?_,?_,?_,fun p hp=>absurd (show p∈([]:List (Addr×Obj)) from hp) (by simp),?_,?_⟩
 ·-- inj
  refine cellsFrom_inj scope.names _ cl (fun x y c h1 h2=>I.ok.inj x y c (hcl x c h1) (hcl y c h2)) fun x c h=>?_
  exact Nat.lt_succ_of_lt (Nat.lt_succ_of_lt (clLt x c h))
 ·-- has
  intro x hx
  have hx:(relabel scope X.env).names.lookup x=some .cell∨(relabel scope X.env).names.lookup x=some .free:=hx
  rw[relabel_eq,lookup_relabelS] at hx
  have:scope.names.lookup x=some .cell∨scope.names.lookup x=some .free:=by
   cases e:scope.names.lookup x with
   | none=>rw[e] at hx;simp at hx
   | some k =>
    rw[e] at hx
    cases k<;>simp at hx<;>simp
  refine Option.isSome_iff_exists.mp (PySem.W.cellsFrom_some scope.names _ cl ?_)
  rcases this with h|h
  ·exact .inl h
  ·exact .inr (Option.isSome_iff_exists.mpr (hfr x (PySem.mem_of_lookup h)))
 ·-- cab
  intro x c hx hc
  have hx:scope.names.lookup x=some .cell:=by simpa [cxC] using hx
  have:=cellsFrom_low x (s.heap.objs.size+1+1) scope.names (s.heap.objs.size+1+1) cl (Nat.le_refl _) (.inl (PySem.mem_of_lookup hx)) c hc
  exact Nat.le_trans (Nat.le_succ _) (Nat.le_trans (Nat.le_succ _) this)
 ·-- exf
  intro b hb
  have hlt:=fpLt b hb
  refine⟨Nat.ne_of_lt (Nat.lt_succ_of_lt hlt),fun x c e=>?_⟩
  rcases cells x c e with q|q
  ·exact Nat.ne_of_gt (Nat.lt_of_lt_of_le (Nat.lt_succ_of_lt (Nat.lt_succ_of_lt hlt)) q)
  ·exact (hf b hb).2.2.2.2.1 x c (hcl x c q)
 ·-- noex
  intro b o e hb
  rcases (hf b hb).2.2.2.1 with q|q
  ·exact I.ok.noex b o e q
  ·exact absurd (Nat.lt_of_lt_of_le (Heap.lt_size (I.ok.bs b o e).1) q) (Nat.lt_irrefl _)
 ·-- exfs
  intro b hb z
  rcases List.mem_cons.mp (I.stkSub b z) with q|q
  ·exact (hf b hb).2.1 q
  ·exact (hf b hb).2.2.1 q
 ·-- base
  exact Un.laid k1 (Nat.le_refl _) hD
 ·-- loc
  refine⟨_,kC,fun i x v h1 h2 h3=>?_⟩
  have h2:(capS cap σ)[i]?=some (some v):=h2
  unfold capS at h2
  rw[List.getElem?_map] at h2
  cases e:cap[i]? with
  | none=>rw[e] at h2;cases h2
  | some o =>
   rw[e] at h2
   cases o with
   | none=>cases h2
   | some j =>
    have h2:some ((σ[j]?).join)=some (some v):=h2
    have h2:(σ[j]?).join=some v:=Option.some.inj h2
    obtain⟨q1,q2,q3,q4⟩:=capOk_at hcap h1 e
    have q5:σ[j]?=some (some v):=by
     cases es:σ[j]? with
     | none=>rw[es] at h2;cases h2
     | some w'=>rw[es] at h2;cases w' with
      | none=>cases h2
      | some w''=>have:some w''=some v:=h2;rw[this]
    obtain⟨m,hn,hl⟩:=I.loc
    have hk0:X.env.kindOf x=some .cell∨X.env.kindOf x=some .free:=by
     show X.env.scope.names.lookup x=_∨X.env.scope.names.lookup x=_
     rw[hs0];exact q2
    obtain⟨u,r,l⟩:=hl j x v (by rw[hN];exact q1) q5 (hk0.elim (fun z=>.inr (.inl z)) fun z=>.inr (.inr z))
    refine⟨u,r,?_⟩
    rcases l with⟨z,_⟩|⟨_,c,e1,z⟩
    ·rcases hk0 with y|y<;>(rw[y] at z;cases z)
    ·obtain⟨c',hc'⟩:=hfr x (PySem.mem_of_lookup q3)
     have ec:c'=c:=by
      have:=hcl x c' hc'
      rw[e1] at this
      exact (Option.some.inj this).symm
     subst ec
     refine .inr ⟨?_,c',?_,z.keeps k1⟩
     ·show (relabel scope X.env).names.lookup x=_∨(relabel scope X.env).names.lookup x=_
      rw[relabel_eq,lookup_relabelS,q3]
      by_cases hz:(NameKind.free == NameKind.free && X.env.scope.kind == ScopeKind.function && X.env.scope.names.lookup x == some NameKind.cell)=true
      ·left;show some (if _ then _ else _)=_;rw[if_pos hz]
      ·right;show some (if _ then _ else _)=_;rw[if_neg hz]
     ·show (cellsFrom (s.heap.objs.size+1+1) scope.names cl).lookup x=some c'
      rw[cellsFrom_out _ _ _ q4]
      exact hc'
 ·-- cell
  intro x c e
  have e:(cellsFrom (s.heap.objs.size+1+1) scope.names cl).lookup x=some c:=e
  rw[← e2] at e
  exact cellsFrom_isCell scope.names _ cl (fun y d hy=>by
   obtain⟨v,q⟩:=I.cell y d (hcl y d hy)
   exact⟨v,q.keeps fun b o z=>Heap.get?_push_of_some _ (Heap.get?_push_of_some _ z)⟩) x c e
 ·-- free
  show upd H s.heap.objs.size (.lst []) (s.heap.objs.size+1)=none
  rw[upd_ne (Nat.ne_of_gt (Nat.lt_succ_self _))]
  exact I.hok.fresh (Nat.le_succ _)
 ·-- freeC
  intro x c e
  rcases cells x c e with q|q
  ·have q2:s.heap.objs.size<c:=Nat.lt_of_lt_of_le (Nat.lt_succ_of_lt (Nat.lt_succ_self _)) q
   rw[upd_ne (Nat.ne_of_gt q2)]
   exact I.hok.fresh (Nat.le_of_lt q2)
  ·have:=clLt x c q
   rw[upd_ne (Nat.ne_of_lt this)]
   exact I.freeC x c (hcl x c q)
 ·-- hok
  refine I.hok.laid k1 (Nat.le_refl _) ⟨Nat.zero_le _,[],0,.nil,kD⟩
 ·show (capS cap σ).length=N.length
  unfold capS
  rw[List.length_map,capOk_len hcap]
end L2
end
section
namespace L2
open PySem PySem.Spec PyProof.Rows
noncomputable def PIfs(X:Cx)(ifs:List Expr)(t:TT):Prop:=∀ (pins:List (Addr×Obj)) (s:Shared) (σ:St) (H:Hp) (Q:Bool→Hp→Prop),Inv X pins σ H s→t σ H Q →
 wpAny (model X.prog X.w) X.A (forIn ifs true fun c r=>if r=true then do let ok ← isTrue c X.env (eval c X.env);pure (ForInStep.yield ok) else pure (ForInStep.yield r)) (TP X pins σ Q) X.xe s
noncomputable def tAll:TT:=fun _ H Q=>Q true H
theorem pifs_nil{X:Cx}:PIfs X [] tAll:=fun _ _ _ H _ I h=>wpAny_tests_nil ⟨H,I,h⟩
noncomputable def CompW(J:It)(g:TG)(tt:TT)(te:TE)(D:Addr)(σ:St)(H:Hp)(Qe:Hp→Prop):Prop :=
 ∃ W:Nat→Nat→St→Hp→Prop,(∃ m,W 0 m σ H)∧∀ i m σ H,W i m σ H →
  (J.stop i H∧Qe H)∨(J.go i H∧∃ N:St→Hp→Prop,(∀ σ' H',N σ' H'→∃ m',m' < m∧W (i+1) m' σ' H') ∧
   ∀ x H',J.yld i H x H'→g x σ H' fun σ2 H2=>tt σ2 H2 fun b H3=>if b=true then te σ2 H3 fun y H4=>∃ xs,H4 D=some (.lst xs)∧xs.length<sizeLine∧N σ2 (upd H4 D (.lst (xs++[y]))) else N σ2 H3)
theorem comp_turns{X:Cx}{tg iter elt:Expr}{ifs:List Expr}{scope:Scope}{pos:Pos}{it D:Addr}{fp:List Addr}{tn:Nat→Heap→Prop}{J:It}{g:TG}{tt:TT}{te:TE}{R:Result→Shared→Prop}{s:Shared}{σ:St}{H:Hp}{Qe:Hp→Prop}
  (hc:X.calm=true) (hxe:∀ e s,X.xe e s→False) (hg:PG X tg g) (ht:PIfs X ifs tt) (he:PE X elt te) (T:Turn X.prog X.w X.K tg J fp it tn)
  (fpk:∀ H',(∀ b∈fp,H' b=none)→∀ b∈fp,FpOk X [] H' b) (I:Inv X [] σ H s) (st:tn 0 s.heap) (fr:∀ b∈fp,H b=none)
  (h:CompW J g tt te D σ H Qe) (hR:∀ σ' H' s',Inv X [] σ' H' s'→Qe H'→R (.ok .next) s') :
  codeAny (model X.prog X.w) X.A (.compLoop (.ListComp elt [⟨tg,iter,ifs,0⟩] scope pos) 0 (.ref it) (.ref D) X.env) R s:=by
 obtain⟨W,⟨m0,w0⟩,turn⟩:=h
 refine codeAny_loop rfl (fun n s'=>∃ i σ' H',Inv X [] σ' H' s'∧tn i s'.heap∧(∀ b∈fp,H' b=none)∧W i n σ' H') (fun n s3 hI=>?_) m0 ⟨0,σ,H,I,st,fr,w0⟩
 obtain⟨i,σ3,H3,I3,st3,fr3,w3⟩:=hI
 show wpAny _ X.A ((compTurn (.ListComp elt [⟨tg,iter,ifs,0⟩] scope pos) 0 (.ref it) (.ref D) X.env).onRaise (fun x=>do noteFrame x X.env;theTreesLotGoes x)) _ _ s3
 refine wpAny_noted ?_
 rw[compTurn_list]
 refine wpAny_bind (wpAny_standAt (wpAny_bind ?_))
 rcases turn i n σ3 H3 w3 with⟨stop,qn⟩|⟨go,N,hN,step⟩
 ·refine wpAny_mono (T.done X rfl rfl rfl hc i [] s3 σ3 H3 (fun _ _=>False) I3 (fpk H3 fr3) st3 stop) (fun r s4 hr=>?_) (fun _ _ f=>f.elim)
  obtain⟨hr,I4⟩:=hr
  subst hr
  exact wpAny_pure (hR σ3 H3 s4 I4 qn)
 ·refine wpAny_mono (T.item X rfl rfl rfl hc i [] s3 σ3 H3 (fun _ _=>False) I3 (fpk H3 fr3) st3 go) (fun r s4 hr=>?_) (fun _ _ f=>f.elim)
  obtain⟨u,hr,h4⟩:=hr
  subst hr
  refine wpAny_bind (wpAny_mono h4 (fun _ s5 h5=>?_) fun _ _ f=>f.elim)
  obtain⟨x,H5,I5,r5,y5,st5,fr5⟩:=h5
  have I5':=I5.pinned (fpk H5 fr5) (T.obj _ _ st5)
  refine wpAny_bind (wpAny_mono (hg _ s5 σ3 H5 x u _ I5' r5 (step x H5 y5)) (fun _ s6 h6=>?_) fun e s f=>(hxe e s f).elim)
  obtain⟨σ6,H6,I6,q6⟩:=h6
  refine wpAny_bind (wpAny_mono (ht _ s6 σ6 H6 _ I6 q6) (fun ok s7 h7=>?_) fun e s f=>(hxe e s f).elim)
  obtain⟨H7,I7,q7⟩:=h7
  have again:∀ {s7:Shared} {σ7:St} {H7:Hp},Inv X ([]++pinsAt fp s5.heap) σ7 H7 s7→N σ7 H7→∃ m,m<n∧∃ i σ' H',Inv X [] σ' H' s7∧tn i s7.heap∧(∀ b∈fp,H' b=none)∧W i m σ' H':=fun {s7 σ7 H7} I7 n7=>by
   obtain⟨m',hm,w7⟩:=hN σ7 H7 n7
   refine⟨m',hm,i+1,σ7,H7,I7.unpinned,T.keep _ _ _ st5 fun b hb o e=>(I7.pin (b,o) (List.mem_append_right _ (List.mem_append_right _ (mem_pinsAt hb e)))).1,fun b hb=>?_,w7⟩
   obtain⟨o,e,d⟩:=T.obj _ _ st5 b hb
   exact (I7.pin (b,o) (List.mem_append_right _ (List.mem_append_right _ (mem_pinsAt hb e)))).2.1
  cases ok with
  | false=>exact wpAny_pure ⟨rfl,again I7 q7⟩
  | true =>
   refine wpAny_bind (wpAny_bind (wpAny_mono (he _ s7 σ6 H7 _ I7 q7) (fun y s8 h8=>wpAny_bind ?_) fun e s f=>(hxe e s f).elim))
   obtain⟨v8,H8,I8,r8,xs,hD,hz,n8⟩:=h8
   refine wpAny_mono (mt_append (X:=X) _ s8 σ6 H8 (.ref D) [v8] (.ref D) [y] (fun _ H9=>N σ6 H9) I8 rfl (.cons r8 .nil) ⟨D,xs,v8,rfl,rfl,hD,hz,n8⟩) (fun _ s9 h9=>?_) fun e s f=>(hxe e s f).elim
   obtain⟨_,H9,I9,_,n9⟩:=h9
   exact wpAny_pure (wpAny_pure ⟨rfl,again I9 n9⟩)
theorem cxC_back{X:Cx}{pins pins':List (Addr×Obj)}{σ σ':St}{H H':Hp}{s s':Shared}{scope:Scope}{cl:List (Str×Addr)}{N:List Str}{fp:List Addr}(I:Inv X pins σ H s)(hf:∀ b∈fp,FpOk X pins H b)
  (J:Inv (cxC X scope cl N s H fp) pins' σ' H' s'):Inv X pins σ H' s' :=
 I.call' (ch:=fp) J.os J.base J.hok J.bare fun b hb=>⟨(hf b hb).2.2.2.1,(hf b hb).2.1,(hf b hb).2.2.2.2.1,(hf b hb).2.2.2.2.2⟩
noncomputable def tComp(cap:List (Option Nat))(wi:TI)(g:TG)(tt:TT)(te:TE):TE:=fun σ H Q=>wi σ H fun J H1=>∀ D,H1 D=none→CompW J g tt te D (capS cap σ) (upd H1 D (.lst [])) fun H2=>Q (.ref D) H2
theorem comp_core{X:Cx}{sc0 scope:Scope}{N0 N:List Str}{cap:List (Option Nat)}{tg iter elt:Expr}{ifs:List Expr}{pos pos':Pos}{wi:TI}{g:TG}{tt:TT}{te:TE}{use:Option (Value→Sem Unit)}{Qv:Value→Shared→Prop}
  {pins:List (Addr×Obj)} {s:Shared} {σ:St} {H:Hp} {Q:VK}
  (hc:X.calm=true) (hs0:X.env.scope=sc0) (hN:X.N=N0) (ok:compOk N0 sc0 scope N cap=true) (hi:PI X tg iter wi)
  (hg:∀ cl s H fp,PG (cxC X scope cl N s H fp) tg g) (ht:∀ cl s H fp,PIfs (cxC X scope cl N s H fp) ifs tt) (he:∀ cl s H fp,PE (cxC X scope cl N s H fp) elt te) (hfs:∀ x,foldedSetIterable iter X.env x=pure x)
  (I:Inv X pins σ H s) (h:tComp cap wi g tt te σ H Q)
  (hend:∀ (D C:Addr) (m:Str→Option Value) (H':Hp) (s':Shared),Inv X pins σ H' s'→s'.heap.Ns C m→H' C=none→C≠X.env.locals→X.s₀.heap.objs.size≤C→(∀ x c,X.env.cells.lookup x=some c→c≠C)→(∀ p∈X.pn++pins,p.1≠C)→Q (.ref D) H' →
   compPost (model X.prog X.w) X.A X.xe use Qv (.ref D) C (.ok .next) s') :
  wpAny (model X.prog X.w) X.A (comprehension (.ListComp elt [⟨tg,iter,ifs,0⟩] scope pos) scope X.env pos' (newList []) false (eval iter X.env) use) Qv X.xe s:=by
 have ok':=ok
 simp only[compOk,Bool.and_eq_true,beq_iff_eq,List.all_eq_true,Bool.or_eq_true,bne_iff_ne] at ok'
 obtain⟨⟨⟨⟨hk,hloc⟩,hfree⟩,hcell⟩,hcap⟩:=ok'
 obtain⟨cl,hcl1,hcl2,hcl3⟩:=closure_ex (scope:=scope) (env:=X.env) (fun y hy e=>I.ok.has y.1 (by
  show X.env.scope.names.lookup y.1=_∨X.env.scope.names.lookup y.1=_
  rw[hs0]
  rcases hfree y hy with z|z
  ·exact absurd e z
  ·exact z))
 refine wpAny_comprehension_free rfl hfs hcl1 hk (fun y hy e=>by
  rcases hloc y hy with z|z
  ·exact absurd e z
  ·exact z) (wpAny_mono (hi pins s σ H _ I h) (fun v s1 h1=>wpAny_mono h1 (fun itv s2 h2=>?_) fun _ _ e=>e) fun _ _ e=>e)
 obtain⟨it,fp,tn,J,H2,e,I2,T,st2,f2,q2⟩:=h2
 subst e
 refine wpAny_newObj_type (newEnvC ?_)
 have I3:=cxC_inv I2 f2 (T.obj _ _ st2) hs0 hN ok hcl2 hcl3
 have eC:(s2.heap.push { cls:=.type "list",data:=.seq ([]:List Value).toArray }).objs.size=s2.heap.objs.size+1:=Heap.size_push ..
 show codeAny _ _ (.compStart (.ListComp elt [⟨tg,iter,ifs,0⟩] scope pos) 0 (.ref it) (.ref s2.heap.objs.size)
  (compEnvC scope (cellsFrom ((s2.heap.push { cls:=.type "list",data:=.seq ([]:List Value).toArray }).objs.size+1) scope.names cl) ((s2.heap.push { cls:=.type "list",data:=.seq ([]:List Value).toArray }).objs.size) X.env))
  (compPost _ _ _ use Qv (.ref s2.heap.objs.size) ((s2.heap.push { cls:=.type "list",data:=.seq ([]:List Value).toArray }).objs.size)) _
 rw[eC]
 have fpk:∀ H',(∀ b∈fp,H' b=none)→∀ b∈fp,FpOk (cxC X scope cl N s2 H2 fp) [] H' b:=fun H' hn b hb =>
  ⟨hn b hb,(I3.ok.exf b hb).1,I3.ok.exfs b hb,.inl hb,(I3.ok.exf b hb).2,fun p hp=>absurd (show p∈([]:List (Addr×Obj)) from hp) (by simp)⟩
 have fpLt:∀ b∈fp,b<s2.heap.objs.size:=fun b hb=>by
  obtain⟨o,e,_⟩:=T.obj _ _ st2 b hb
  exact Heap.lt_size e
 have k1:∀ b o,s2.heap.get? b=some o→(pushCells ((s2.heap.push { cls:=.type "list",data:=.seq ([]:List Value).toArray }).push { cls:=.type "dict",data:=.dict #[] }) scope.names).get? b=some o :=
  fun b o e=>pushCells_keeps _ _ b o (Heap.get?_push_of_some _ (Heap.get?_push_of_some _ e))
 have st3:=T.keep 0 s2.heap (pushCells ((s2.heap.push { cls:=.type "list",data:=.seq ([]:List Value).toArray }).push { cls:=.type "dict",data:=.dict #[] }) scope.names) st2 fun b _ o e=>k1 b o e
 have loop:=comp_turns (X:=cxC X scope cl N s2 H2 fp) (iter:=iter) (scope:=scope) (pos:=pos) (it:=it) (D:=s2.heap.objs.size) (R:=compPost (model X.prog X.w) X.A X.xe use Qv (.ref s2.heap.objs.size) (s2.heap.objs.size+1)) hc (fun _ _ f=>f) (hg cl s2 H2 fp) (ht cl s2 H2 fp) (he cl s2 H2 fp) T fpk I3 st3
  (fun b hb=>by rw[upd_ne (Nat.ne_of_lt (fpLt b hb))];exact (f2 b hb).1) (q2 _ (I2.hok.fresh (Nat.le_refl _))) (fun σ' H' s' J' q=>by
   obtain⟨m,hm,_⟩:=id J'.loc
   refine hend _ _ m H' s' (cxC_back I2 f2 J') hm J'.free ?_ ?_ ?_ ?_ q
   ·exact Nat.ne_of_gt (Nat.lt_succ_of_lt I2.lt)
   ·exact Nat.le_succ_of_le I2.sz
   ·intro x c e
    obtain⟨v,q⟩:=I2.cell x c e
    exact Nat.ne_of_lt (Nat.lt_succ_of_lt q.lt)
   ·intro p hp
    exact Nat.ne_of_lt (Nat.lt_succ_of_lt (Heap.lt_size (I2.pin p hp).1)))
 exact codeAny_compStart_list loop (T.self X.A 0 _ _ _ st3 loop)
theorem ps_setC{X:Cx}{sc0 scope:Scope}{N0 N:List Str}{cap:List (Option Nat)}{tg iter elt:Expr}{ifs:List Expr}{pos spos pos':Pos}{wi:TI}{g:TG}{tt:TT}{te:TE}{i:Nat}{x:Str}
  (hNd:X.N.Nodup) (hix:X.N[i]?=some x) (hx:X.env.scope.names.lookup x=some .local)
  (hc:X.calm=true) (hs0:X.env.scope=sc0) (hN:X.N=N0) (ok:compOk N0 sc0 scope N cap=true) (hi:PI X tg iter wi)
  (hg:∀ cl s H fp,PG (cxC X scope cl N s H fp) tg g) (ht:∀ cl s H fp,PIfs (cxC X scope cl N s H fp) ifs tt) (he:∀ cl s H fp,PE (cxC X scope cl N s H fp) elt te) (hfs:∀ x,foldedSetIterable iter X.env x=pure x:=by intro _;rfl)
  (hsw:swapsWith (.ListComp elt [⟨tg,iter,ifs,0⟩] scope pos) (some (.Name x pos')) spos.line X.env=pure true:=by rfl) :
  PS X (.Assign [.Name x pos'] (.ListComp elt [⟨tg,iter,ifs,0⟩] scope pos) spos) (tAsg (tComp cap wi g tt te) (gName i)):=by
 intro pins s σ H D I h
 rw[exec_Assign_Name_used _ _ _ _ hsw]
 refine wpAny_bind (wpAny_standAt (wpAny_bind ?_))
 show wpAny _ X.A (do let _ ← comprehension (.ListComp elt [⟨tg,iter,ifs,0⟩] scope pos) scope X.env _ (newList []) false (eval iter X.env) (some (assign (.Name x pos') X.env))) _ _ s
 refine wpAny_bind (wpAny_mono (comp_core (use:=some (assign (.Name x pos') X.env)) (Qv:=fun _ s'=>SP X pins D .next s') hc hs0 hN ok hi hg ht he hfs I h fun A C m H' s' J hm hC1 hC2 hC3 hC4 hC5 q=>?_) (fun _ s' hq=>wpAny_pure (wpAny_pure hq)) fun _ _ e=>e)
 show wpAny _ X.A (assign (.Name x pos') X.env (.ref A)) _ _ s'
 refine wpAny_assign_Name (store_ok2 (v:=.ref A) J hNd hix (.inl hx) rfl (fun s2 J2 hs2=>?_) (.inr hx))
 obtain⟨a,hs2,ha⟩:=hs2
 have hCa:C≠a:=by
  rcases ha with z|z
  ·rw[z];exact hC2
  ·exact fun e=>hC4 _ _ z e.symm
 refine⟨m,hm.sameBut hs2 hCa,fun h' hs=>?_⟩
 exact⟨_,H',J2.turned (t':=s2.toks) (fun b o hb e=>(hs.2 b hb).trans e) hC1 hC2 (.inr hC3) hC4 hC5,q⟩
end L2
end
section
namespace L2
open PySem PySem.Spec PyProof.Rows
structure FunD(K:W.Frag)(x qual:Str)(st:Stmt)(dV:Value)(f:Addr)(fd:FuncData):Prop where
 ex:∃ (oc:Value) (od:Option Addr) (kV doc pm:Value) (an:Option Addr) (cdv ct:Value) (osl:Array (Option Value)),
  fd=PySem.W.fnOf x qual (defArgs st) (defBody st) (defScope st) dV kV doc pm an cdv ct∧K.lookup f=some ⟨oc,od,.func fd,osl⟩∧PySem.W.codeIn K cdv qual=true
 kp:PySem.W.keepIn K (.ref f)=true
section
variable{P:Program}{w:World}{K:W.Frag}{mg:Str→Option Value}{base:Heap}{CX:CXT}
theorem FunD.ok{x qual:Str}{st:Stmt}{dV:Value}{f:Addr}{fd:FuncData}{N ps:List Str}{k:Nat}{sp:Sp}(F:FunD K x qual st dV f fd)(S:FnScope N ps (defScope st))(len:∀ vs H Q E,sp vs H Q E→vs.length=ps.length)
  (hbody:∀ (cdv:Value) (A:Around) (outer:List Env) (s:Shared) (H:Hp) (vs:List V) (Q:VK) (E:XK),Room k (A.deeper (envOfC qual (defScope st) s.heap.objs.size f cdv))→sp vs H Q E →
   ∃ t,PSs (cxOf CX P w K mg base N qual (defScope st) f cdv A outer s H E).nox (defBody st) t∧t { nx:=fun _ H'=>Q .non H',rt:=Q } (start N vs) H):FnOk P w K mg base CX (k+1) f fd ps sp:=by
 obtain⟨oc,od,kV,doc,pm,an,cdv,ct,osl,rfl,lk,hcd⟩:=F.ex
 refine fn_of lk hcd S len fun A outer s H vs Q E hr hsp=>?_
 obtain⟨t,h,q⟩:=hbody cdv A outer s H vs Q E hr hsp
 exact⟨t,h.nox,q⟩
end
structure Cal(P:Program)(w:World)(K:W.Frag)(mg:Str→Option Value)(base:Heap)(CX:CXT)(k:Nat)(x:Str)(ps:List Str)(dvs:List V)(sp:Sp):Prop where
 ex:∃ (f:Addr) (fd:FuncData) (ds:List Value),FnOk P w K mg base CX k f fd ps sp∧mg x=some (.ref f)∧PySem.W.keepIn K (.ref f)=true∧Binds K fd ps ds∧Vals dvs ds
structure Tx(K:W.Frag)(mg:Str→Option Value)(x:Str)(st:Stmt)(ps:List Str)(dvss:List (List V)):Prop where
 ex:∃ (dV:Value) (f:Addr) (fd:FuncData),FunD K x x st dV f fd∧mg x=some (.ref f)∧∀ dvs∈dvss,∃ ds,Binds K fd ps ds∧Vals dvs ds
theorem Cal.mono{P:Program}{w:World}{K:W.Frag}{mg:Str→Option Value}{base:Heap}{CX:CXT}{j k:Nat}{x:Str}{ps:List Str}{dvs:List V}{sp:Sp}(c:Cal P w K mg base CX j x ps dvs sp)(h:j≤k):Cal P w K mg base CX k x ps dvs sp :=
 let ⟨f,fd,ds,h1,h2⟩:=c.ex
 ⟨f,fd,ds,h1.mono h,h2⟩
theorem Tx.cal{P:Program}{w:World}{K:W.Frag}{mg:Str→Option Value}{base:Heap}{CX:CXT}{x:Str}{st:Stmt}{N ps:List Str}{dvss:List (List V)}{k:Nat}{sp:Sp}(T:Tx K mg x st ps dvss)(S:FnScope N ps (defScope st))
  (len:∀ vs H Q E,sp vs H Q E→vs.length=ps.length)
  (hbody:∀ (f:Addr) (cdv:Value) (A:Around) (outer:List Env) (s:Shared) (H:Hp) (vs:List V) (Q:VK) (E:XK),Room k (A.deeper (envOfC x (defScope st) s.heap.objs.size f cdv))→sp vs H Q E →
   ∃ t,PSs (cxOf CX P w K mg base N x (defScope st) f cdv A outer s H E).nox (defBody st) t∧t { nx:=fun _ H'=>Q .non H',rt:=Q } (start N vs) H) :
  ∀ dvs∈dvss,Cal P w K mg base CX (k+1) x ps dvs sp:=by
 obtain⟨dV,f,fd,F,m,b⟩:=T.ex
 intro dvs hd
 obtain⟨ds,b1,b2⟩:=b dvs hd
 exact⟨f,fd,ds,F.ok S len (fun cdv A outer s H vs Q E hr h=>hbody f cdv A outer s H vs Q E hr h),m,F.kp,b1,b2⟩
section
variable{X:Cx}{CX:CXT}{k:Nat}{ps:List Str}{sp:Sp}{dvs:List V}{E:XK}{x:Str}{p pos:Pos}{e:Expr}{es:List Expr}{t:TA}
theorem pe_cal(c:Cal X.prog X.w X.K X.mg X.base CX k x ps dvs sp)(hr:Room k X.A)(hg:Gl X x)(hx:Passes CX X E)(ha:PA X (e::es) t)(hdb:(x == ("__debug__" : Str))=false:=by decide)
  (he:starEach (e::es) X.env=(false,eval e X.env)::starEach es X.env:=by rfl) (hpl:(backTo pos (starEach es X.env)).any (·.1)=false:=by rfl) :
  PE X (.Call (.Name x p) (e::es) [] pos) (tCall sp dvs E t):=by
 obtain⟨f,fd,ds,h1,h2,h3,h4,h5⟩:=c.ex
 exact pe_call h1 hr hg h2 h3 h4 h5 hx ha hdb he hpl
end
section
variable{X:Cx}
noncomputable def clsV:V→Option Value
 | .ty n=>some (.type n)
 | .ref a=>some (.ref a)
 | _=>none
theorem clsV_rel{c:V}{cv u:Value}(h:clsV c=some cv)(r:RelV c u):u=cv:=by
 cases c<;>simp[clsV] at h
 ·subst h;exact r
 ·subst h;exact r
noncomputable def rIsi(K:W.Frag):List V→Hp→VK→Prop:=fun xs H Q=>∃ x c t cv b,xs=[x,c]∧clsV c=some cv∧TyOf K H x t∧PySem.W.kitOne K t cv=some b∧Q (.bl b) H
noncomputable def rLen(K:W.Frag):List V→Hp→VK→Prop:=fun xs H Q=>∃ p ys,xs=[.ref p]∧(SqL K H p ys∨SqT K H p ys)∧Q (.int ys.length) H
noncomputable def rLst(K:W.Frag):List V→Hp→VK→Prop:=fun xs H Q=>∃ p ys,xs=[.ref p]∧(SqL K H p ys∨SqT K H p ys)∧∀ l,H l=none→Q (.ref l) (upd H l (.lst ys))
noncomputable def rTpl(K:W.Frag):List V→Hp→VK→Prop:=fun xs H Q=>∃ p ys,xs=[.ref p]∧((SqL K H p ys∧∀ l,H l=none→Q (.ref l) (upd H l (.tup ys)))∨(SqT K H p ys∧Q (.ref p) H))
theorem call_lenS:CallR X (.builtin "len") (rLen X.K):=call_len_seq
theorem call_listS:CallR X (.type "list") (rLst X.K):=call_list_of
theorem call_tupS:CallR X (.type "tuple") (rTpl X.K):=call_tuple_of
theorem call_isiS:CallR X (.builtin "isinstance") (rIsi X.K):=by
 intro pins s σ H xs us Q I r h
 obtain⟨x,c,t,cv,b,rfl,hc,ty,e,q⟩:=h
 obtain⟨u,w',rfl,r1,r2⟩:=vals2 r
 rw[clsV_rel hc r2]
 exact isinst_ok I r1 ty e fun tk=>⟨.bl b,H,I.tok tk,rfl,q⟩
end
section
variable{X:Cx}
end
noncomputable def XObj(ea:Addr)(c:Value)(d:Option Addr):Heap→Prop:=fun h=>∃ o vs,h.get? ea=some o∧o.cls=c∧o.dict=d∧o.data=.fields vs
noncomputable def hX(ea:Addr)(c:Value)(d:Option Addr):HO:=.ext (XObj ea c d)
noncomputable def XDct(d:Addr)(fs:List (Str×V)):Heap→Prop:=fun h=>∃ mA,h.Ns1 d mA∧(∀ f,RelO (fs.lookup f) (mA f))∧PySem.Within mA (fs.map (·.1))
noncomputable def hXD(d:Addr)(fs:List (Str×V)):HO:=.ext (XDct d fs)
noncomputable def keyD:Key→PyData
 | .inl i=>.int i
 | .inr x=>.str x
noncomputable abbrev dJ:PyData:=.dict [(.none,.none)]
mutual
inductive Rep(K:W.Frag)(H:Hp):V→PyData→Prop
 | non:Rep K H .non .none
 | bl (b:Bool):Rep K H (.bl b) (.bool b)
 | int (i:Int):Rep K H (.int i) (.int i)
 | str (x:Str):Rep K H (.str x) (.str x)
 | lst {a:Addr} {xs:List V} {ds:List PyData}:SqL K H a xs→Reps K H xs ds→Rep K H (.ref a) (.list ds)
 | tup {a:Addr} {xs:List V} {ds:List PyData}:H a=some (.tup xs)→Reps K H xs ds→Rep K H (.ref a) (.tuple ds)
 | exc {ea C:Addr} {kvs:List (PyData×PyData)}:H ea=some (hX ea (.ref C) none)→kvs=[(.none,.int C)]→Rep K H (.ref ea) (.dict kvs)
 | excF {ea C a:Addr} {vs:List (Str×V)} {ds:List PyData} {kvs:List (PyData×PyData)}:H ea=some (hX ea (.ref C) (some a))→H a=some (hXD a vs)→Reps K H (vs.map Prod.snd) ds→kvs=(.none,.int C)::(vs.map fun p=>PyData.str p.1).zip ds→Rep K H (.ref ea) (.dict kvs)
 | dK {a:Addr} {ks:List (Key×V)} {ds:List PyData} {kvs:List (PyData×PyData)}:Rd H a (.dK ks)→Reps K H (ks.map Prod.snd) ds→kvs=(ks.map fun p=>keyD p.1).zip ds→Rep K H (.ref a) (.dict kvs)
 | dT {a:Addr} {ks:List (List Key×V)} {ds:List PyData} {kvs:List (PyData×PyData)}:Rd H a (.dT ks)→Reps K H (ks.map Prod.snd) ds→kvs=(ks.map fun p=>PyData.tuple (p.1.map keyD)).zip ds→Rep K H (.ref a) (.dict kvs)
 | dN {a:Addr} {ks:List ((Key×List Key)×V)} {ds:List PyData} {kvs:List (PyData×PyData)}:ks≠[]→Rd H a (.dN ks)→Reps K H (ks.map Prod.snd) ds→kvs=(ks.map fun p=>PyData.tuple [keyD p.1.1,.tuple (p.1.2.map keyD)]).zip ds→Rep K H (.ref a) (.dict kvs)
 | junk {v:V}:Rep K H v dJ
inductive Reps(K:W.Frag)(H:Hp):List V→List PyData→Prop
 | nil:Reps K H [] []
 | cons {x:V} {d:PyData} {xs:List V} {ds:List PyData}:Rep K H x d→Reps K H xs ds→Reps K H (x::xs) (d::ds)
end
section
variable{X:Cx}{pins:List (Addr×Obj)}{σ:St}{H H':Hp}{s:Shared}{K:W.Frag}
theorem Rep.indF{K:W.Frag}{H:Hp}{M:V→PyData→Prop}{N:List V→List PyData→Prop}(h1:M .non .none)(h2:∀ b,M (.bl b) (.bool b))(h3:∀ i,M (.int i) (.int i))(h4:∀ x,M (.str x) (.str x))
  (h5:∀ {a xs ds},SqL K H a xs→N xs ds→M (.ref a) (.list ds)) (h6:∀ {a xs ds},H a=some (.tup xs)→N xs ds→M (.ref a) (.tuple ds)) (h7:∀ v l,M v (.dict l)) (n:N [] []) (c:∀ {x d xs ds},M x d→N xs ds→N (x::xs) (d::ds)):(∀ {v d},Rep K H v d→M v d)∧∀ {vs ds},Reps K H vs ds→N vs ds :=
 ⟨fun h=>Rep.rec (motive_1:=fun v d _=>M v d) (motive_2:=fun v d _=>N v d) h1 h2 h3 h4 (fun h _=>h5 h) (fun h _=>h6 h) (fun _ _=>h7 _ _) (fun _ _ _ _ _=>h7 _ _) (fun _ _ _ _=>h7 _ _) (fun _ _ _ _=>h7 _ _) (fun _ _ _ _ _=>h7 _ _) (h7 _ _) n (fun _ _=>c) h,
  fun h=>Reps.rec (motive_1:=fun v d _=>M v d) (motive_2:=fun v d _=>N v d) h1 h2 h3 h4 (fun h _=>h5 h) (fun h _=>h6 h) (fun _ _=>h7 _ _) (fun _ _ _ _ _=>h7 _ _) (fun _ _ _ _=>h7 _ _) (fun _ _ _ _=>h7 _ _) (fun _ _ _ _ _=>h7 _ _) (h7 _ _) n (fun _ _=>c) h⟩
theorem Rep.reads(I:Inv X pins σ H s){v:V}{d:PyData}{u:Value}(hn:d.canLay0=true)(h:Rep X.K H v d)(r:RelV v u):∃ as,Reads s.heap u d as:=by
 refine (Rep.indF (M:=fun v d=>∀ u,d.canLay0=true→RelV v u→∃ as,Reads s.heap u d as) (N:=fun vs ds=>∀ us,PyData.canLayAll0 ds=true→Vals vs us→∃ as,ReadsAll s.heap us ds as) ?_ ?_ ?_ ?_ ?_ ?_ ?_ ?_ ?_).1 h u hn r
 ·intro u _ r;cases (show u=Value.none from r);exact⟨_,Reads.none⟩
 ·intro b u _ r;cases (show u=Value.bool b from r);exact⟨_,Reads.bool b⟩
 ·intro i u _ r;obtain⟨t,q⟩:=(show ∃ t,u=Value.int i t from r);cases q;exact⟨_,Reads.int i t⟩
 ·intro x u _ r;obtain⟨t,q⟩:=(show ∃ t,u=Value.str x t from r);cases q;exact⟨_,Reads.str x t⟩
 ·intro a xs ds h ih u hn r
  cases (show u=Value.ref a from r)
  obtain⟨its,rv,p,_⟩:=I.list h
  obtain⟨as,q⟩:=ih _ (by simpa [PyData.canLay0] using hn) rv
  obtain⟨o,h1,h2,n,h3⟩:=p.isList
  exact⟨_,Reads.list h1 h2 h3 (by simpa using q)⟩
 ·intro a xs ds h ih u hn r
  cases (show u=Value.ref a from r)
  obtain⟨its,rv,p,_⟩:=I.tuple (SqT.of h)
  obtain⟨as,q⟩:=ih _ (by simpa [PyData.canLay0] using hn) rv
  obtain⟨o,h1,h2,n,h3⟩:=p
  exact⟨_,Reads.tuple h1 h2 h3 (by simpa using q)⟩
 ·intro v l u hn;simp[PyData.canLay0] at hn
 ·intro us _ q;cases q;exact⟨_,ReadsAll.nil⟩
 ·intro x d xs ds i1 i2 us hn q
  simp only[PyData.canLayAll0,Bool.and_eq_true] at hn
  cases q with
  | cons q qs =>
   obtain⟨as,h1⟩:=i1 _ hn.1 q
   obtain⟨bs,h2⟩:=i2 _ hn.2 qs
   exact⟨_,ReadsAll.cons h1 h2⟩
theorem Same.tupS(e:Same H H'){a:Addr}{xs:List V}(h:SqT K H a xs):SqT K H' a xs:=by
 rcases h with (h|⟨o,h⟩)|h
 ·exact .inl (.inl (e _ _ h))
 ·exact .inl (.inr ⟨o,e _ _ h⟩)
 ·exact .inr h
noncomputable def Low(G G':Hp):Prop:=∀ b o,G b=some o→(∀ ob c,o≠.frz ob (.own c))→G' b=some o
theorem Low.rd(e:Low H H'){a:Addr}{u:HO}(n:∀ ob c,u≠.frz ob (.own c))(n2:∀ c,u≠.own c)(h:Rd H a u):Rd H' a u:=h.imp (fun h=>e _ _ h n) fun⟨o,h⟩=>⟨o,e _ _ h fun ob c z=>by cases z;exact n2 _ rfl⟩
theorem Low.seq(e:Low H H'){a:Addr}{xs:List V}(h:SqL K H a xs):SqL K H' a xs:=by
 rcases h with (h|⟨o,h⟩)|h
 ·exact .inl (.inl (e _ _ h fun _ _ z=>by cases z))
 ·exact .inl (.inr ⟨o,e _ _ h fun _ _ z=>by cases z⟩)
 ·exact .inr h
theorem Rep.low(e:Low H H'){v:V}{d:PyData}(h:Rep K H v d):Rep K H' v d :=
 Rep.rec (motive_1:=fun v d _=>Rep K H' v d) (motive_2:=fun v d _=>Reps K H' v d) .non .bl .int .str (fun h _ i=>.lst (e.seq h) i) (fun h _ i=>.tup (e _ _ h (by intro _ _ z;cases z)) i) (fun h z=>.exc (e _ _ h (by intro _ _ z;cases z)) z) (fun h k _ z i=>.excF (e _ _ h (by intro _ _ z;cases z)) (e _ _ k (by intro _ _ z;cases z)) i z)
  (fun h _ z i=>.dK (e.rd (by intro _ _ z;cases z) (by intro _ z;cases z) h) i z) (fun h _ z i=>.dT (e.rd (by intro _ _ z;cases z) (by intro _ z;cases z) h) i z) (fun n h _ z i=>.dN n (e.rd (by intro _ _ z;cases z) (by intro _ z;cases z) h) i z) .junk .nil (fun _ _=>.cons) h
theorem Reps.imp(f:∀ {v d},Rep K H v d→Rep K H' v d):∀ {vs:List V} {ds:List PyData},Reps K H vs ds→Reps K H' vs ds
 | _,_,.nil=>.nil
 | _,_,.cons r rs=>.cons (f r) (Reps.imp f rs)
theorem Rep.same(e:Same H H'){v:V}{d:PyData}(h:Rep K H v d):Rep K H' v d:=h.low fun b o z _=>e b o z
theorem Reps.same(e:Same H H'){vs:List V}{ds:List PyData}(h:Reps K H vs ds):Reps K H' vs ds:=Reps.imp (fun r=>r.same e) h
theorem Reps.length:∀ {vs:List V} {ds:List PyData},Reps K H vs ds→vs.length=ds.length
 | _,_,.nil=>rfl
 | _,_,.cons _ rs=>by rw[List.length_cons,List.length_cons,Reps.length rs]
theorem Reps.get:∀ {vs:List V} {ds:List PyData} {i:Nat} {d:PyData},Reps K H vs ds→ds[i]?=some d→∃ v,vs[i]?=some v∧Rep K H v d
 | _,_,i,d,.nil,e=>by simp at e
 | _,_,0,d,.cons r _,e=>by simp at e;subst e;exact⟨_,rfl,r⟩
 | _,_,i+1,d,.cons _ rs,e=>by
  obtain⟨v,h1,h2⟩:=Reps.get (i:=i) rs (by simpa using e)
  exact⟨v,by simpa using h1,h2⟩
theorem Reps.append:∀ {vs ws:List V} {ds es:List PyData},Reps K H vs ds→Reps K H ws es→Reps K H (vs++ws) (ds++es)
 | _,_,_,_,.nil,h=>h
 | _,_,_,_,.cons r rs,h=>.cons r (Reps.append rs h)
theorem Reps.ints(ns:List Int):Reps K H (ns.map V.int) (ns.map PyData.int):=by
 induction ns with
 | nil=>exact .nil
 | cons n ns ih=>exact .cons (.int n) ih
theorem same_new{p:Addr}{o:HO}(h:H p=none):Same H (upd H p o):=fun b u e=>by rw[upd_ne (ne_of_none e h)];exact e
noncomputable def dOk(d:PyData):Prop:=SeqAt.shaped d=true
noncomputable def rEqD(K:W.Frag):R2:=fun x y H Q=>∃ d e,Rep K H x d∧Rep K H y e∧dOk d∧dOk e∧Q (.bl (PyData.eqv d e)) H
noncomputable def rNeD(K:W.Frag):R2:=fun x y H Q=>∃ d e,Rep K H x d∧Rep K H y e∧dOk d∧dOk e∧Q (.bl (!PyData.eqv d e)) H
theorem op_eqD(hu:X.A.units+64<cLine):OpR X (compareOp .Eq) (rEqD X.K):=by
 intro pins s σ H x y v u Q I rx ry h
 obtain⟨d,e,h1,h2,h3,h4,q⟩:=h
 obtain⟨as,k1⟩:=Rep.reads I (SeqAt.canLay_of_shaped h3) h1 rx
 obtain⟨bs,k2⟩:=Rep.reads I (SeqAt.canLay_of_shaped h4) h2 ry
 exact eq_dataH k1 k2 h3 h4 hu ⟨.bl _,H,I,rfl,q⟩
theorem op_neD(hu:X.A.units+64<cLine):OpR X (compareOp .NotEq) (rNeD X.K):=by
 intro pins s σ H x y v u Q I rx ry h
 obtain⟨d,e,h1,h2,h3,h4,q⟩:=h
 obtain⟨as,k1⟩:=Rep.reads I (SeqAt.canLay_of_shaped h3) h1 rx
 obtain⟨bs,k2⟩:=Rep.reads I (SeqAt.canLay_of_shaped h4) h2 ry
 exact ne_dataH k1 k2 h3 h4 hu ⟨.bl _,H,I,rfl,q⟩
end
structure Enc{α:Type}(f:α→PyData)(n:Nat):Prop where
 eqv:∀ a b,PyData.eqv (f a) (f b)=true↔a=b
 lay:∀ a,(f a).canLay0=true
 dep:∀ a,(f a).depth≤n
theorem Enc.ok{α:Type}{f:α→PyData}{n:Nat}(E:Enc f n)(hn:n≤32)(a:α):dOk (f a):=by
 unfold dOk SeqAt.shaped
 rw[E.lay a,Bool.true_and]
 exact decide_eq_true (Nat.le_trans (E.dep a) (Nat.le_trans hn (by decide)))
theorem Enc.int:Enc PyData.int 0:=⟨fun a b=>by simp[PyData.eqv],fun _=>by simp[PyData.canLay0],fun _=>by simp[PyData.depth]⟩
theorem eqvAll_map{α:Type}{f:α→PyData}(h:∀ a b,PyData.eqv (f a) (f b)=true↔a=b):∀ xs ys:List α,PyData.eqvAll (xs.map f) (ys.map f)=true↔xs=ys
 | [],[]=>by simp[PyData.eqvAll]
 | [],_::_=>by simp[PyData.eqvAll]
 | _::_,[]=>by simp[PyData.eqvAll]
 | x::xs,y::ys=>by simp[PyData.eqvAll,h x y,eqvAll_map h xs ys]
theorem layAll_map{α:Type}{f:α→PyData}(h:∀ a,(f a).canLay0=true):∀ xs:List α,PyData.canLayAll0 (xs.map f)=true
 | []=>rfl
 | x::xs=>by simp[PyData.canLayAll0,h x,layAll_map h xs]
theorem depAll_map{α:Type}{f:α→PyData}{n:Nat}(h:∀ a,(f a).depth≤n):∀ xs:List α,PyData.depthAll (xs.map f)≤n
 | []=>Nat.zero_le _
 | x::xs=>by
  have h1:=h x
  have h2:=depAll_map h xs
  simp only[List.map_cons,PyData.depthAll]
  omega
theorem Enc.list{α:Type}{f:α→PyData}{n:Nat}(E:Enc f n):Enc (fun xs:List α=>PyData.list (xs.map f)) (n+1) :=
 ⟨fun a b=>by simp only[PyData.eqv];exact eqvAll_map E.eqv a b,fun a=>by simp only[PyData.canLay0];exact layAll_map E.lay a,fun a=>by simp only[PyData.depth];have:=depAll_map E.dep a;omega⟩
theorem Enc.tuple{α:Type}{f:α→PyData}{n:Nat}(E:Enc f n):Enc (fun xs:List α=>PyData.tuple (xs.map f)) (n+1) :=
 ⟨fun a b=>by simp only[PyData.eqv];exact eqvAll_map E.eqv a b,fun a=>by simp only[PyData.canLay0];exact layAll_map E.lay a,fun a=>by simp only[PyData.depth];have:=depAll_map E.dep a;omega⟩
theorem Enc.dec{α:Type}{f:α→PyData}{n:Nat}[DecidableEq α](E:Enc f n)(a b:α):PyData.eqv (f a) (f b)=decide (a=b):=by
 by_cases h:a=b
 ·rw[decide_eq_true h];exact (E.eqv a b).mpr h
 ·rw[decide_eq_false h];exact Bool.eq_false_iff.mpr fun z=>h ((E.eqv a b).mp z)
end L2
end
section
namespace L2
open PySem PySem.Spec PyProof.Rows
section
variable{σ:St}{H:Hp}{Q:VK}{v:V}{ta tb te:TE}{nx bk ct:St→Hp→Prop}{rt:VK}{t u:TS}{i j:Int}
theorem rd_tyL{K:W.Frag}{a:Addr}{xs:List V}{P:Prop}(h:H a=some (.lst xs))(q:P):tyV K "list" (.ref a) H∧P:=⟨.inl ⟨rfl,xs,SqL.of h⟩,q⟩
theorem rd_isi{K:W.Frag}{x c:V}{t cv:Value}{b:Bool}(hc:clsV c=some cv)(ty:TyOf K H x t)(e:PySem.W.kitOne K t cv=some b)(q:Q (.bl b) H):rIsi K [x,c] H Q:=⟨x,c,t,cv,b,rfl,hc,ty,e,q⟩
end
end L2
end
section
namespace L2
open PySem PySem.Spec PyProof.Rows
section
variable{K:W.Frag}{h:Heap}{mg:Str→Option Value}
theorem tx_mk{x:Str}{st:Stmt}{ps:List Str}{f:Addr}{oc kV doc pm cd ct:Value}{od an:Option Addr}{sl:Array (Option Value)}(X:K.In h)(G:h.Ns mainGlobals mg)
  (a:PySem.W.nsIn K mainGlobals x=some (some (.ref f))) (l:K.lookup f=some ⟨oc,od,.func (PySem.W.fnOf x x (defArgs st) (defBody st) (defScope st) .none kV doc pm an cd ct),sl⟩)
  (c:PySem.W.codeIn K cd x=true) (k:PySem.W.keepIn K (.ref f)=true)
  (hb:∀ (us:List Value),us.length=ps.length→bindArgs (PySem.W.fnOf x x (defArgs st) (defBody st) (defScope st) .none kV doc pm an cd ct) ⟨us,[]⟩=pure (ps.zip us)):Tx K mg x st ps [[]] :=
 ⟨.none,f,_,⟨⟨oc,od,kV,doc,pm,an,cd,ct,sl,rfl,l,c⟩,k⟩,PySem.W.mg_of X G a,fun dvs hd=>by
  have e:dvs=[]:=by simpa using hd
  subst e
  exact⟨[],.all hb,.nil⟩⟩
end
end L2
end
section
namespace L2
open PySem PySem.Spec PyProof.Rows
theorem kit_int_bool{K:W.Frag}:PySem.W.kitOne K (.type "int") (.type "bool")=some false :=
 (by decide +kernel:(if (Value.type "int" == Value.type "bool")=true then some true else if PySem.W.kitMeta "bool" = true then (fastBuiltinMro "int").map (·.contains (Value.type "bool")) else none)=some false)
theorem rd_eqD{α:Type}[DecidableEq α]{f:α→PyData}{n:Nat}{K:W.Frag}{H:Hp}{x y:V}{a b:α}{Q:VK}(E:Enc f n)(h1:Rep K H x (f a))(h2:Rep K H y (f b))(q:Q (.bl (decide (a=b))) H)(hn:n≤32:=by decide):rEqD K x y H Q :=
 ⟨_,_,h1,h2,E.ok hn a,E.ok hn b,by rw[E.dec];exact q⟩
theorem rd_neD{α:Type}[DecidableEq α]{f:α→PyData}{n:Nat}{K:W.Frag}{H:Hp}{x y:V}{a b:α}{Q:VK}(E:Enc f n)(h1:Rep K H x (f a))(h2:Rep K H y (f b))(q:Q (.bl (!decide (a=b))) H)(hn:n≤32:=by decide):rNeD K x y H Q :=
 ⟨_,_,h1,h2,E.ok hn a,E.ok hn b,by rw[E.dec];exact q⟩
theorem Rep.ints{K:W.Frag}{H:Hp}{a:Addr}{ns:List Int}(h:SqL K H a (ns.map V.int)):Rep K H (.ref a) (PyData.list (ns.map PyData.int)):=.lst h (Reps.ints ns)
end L2
end
section
namespace L2
open PySem PySem.Spec PyProof.Rows
section
variable{K:W.Frag}{H H':Hp}{v x:V}{Q:VK}{k i:Int}{d:PyData}{ds:List PyData}
theorem Rep.int_inv(h:Rep K H v (.int i)):v=.int i:=by cases h;rfl
theorem Rep.list_inv(h:Rep K H v (.list ds)):∃ a xs,v=.ref a∧SqL K H a xs∧Reps K H xs ds:=by
 cases h with
 | lst h r=>exact⟨_,_,rfl,h,r⟩
theorem Rep.tuple_inv(h:Rep K H v (.tuple ds)):∃ a xs,v=.ref a∧SqT K H a xs∧Reps K H xs ds:=by
 cases h with
 | tup h r=>exact⟨_,_,rfl,SqT.of h,r⟩
theorem atI_of{α:Type}{xs:List α}{y:α}(h0:0≤k)(h:xs[k.toNat]?=some y):atI xs k=some y:=by
 obtain⟨j,rfl⟩:∃ j:Nat,k=j:=⟨k.toNat,by omega⟩
 exact atI_nat (by simpa using h)
theorem rd_lenRL(h:Rep K H x (.list ds))(q:Q (.int ds.length) H):rLen K [x] H Q:=by
 obtain⟨a,xs,rfl,h1,h2⟩:=h.list_inv
 exact⟨a,xs,rfl,.inl h1,by rw[h2.length];exact q⟩
mutual
noncomputable def noLst:PyData→Bool
 | .none=>true
 | .bool _=>true
 | .int _=>true
 | .str _=>true
 | .list _=>false
 | .tuple ds=>noLsts ds
 | .dict _=>false
noncomputable def noLsts:List PyData→Bool
 | []=>true
 | d::ds=>noLst d && noLsts ds
end
theorem noLsts_map{α:Type}{f:α→PyData}(h:∀ a,noLst (f a)=true):∀ xs:List α,noLsts (xs.map f)=true
 | []=>rfl
 | x::xs=>by simp[noLsts,h x,noLsts_map h xs]
theorem Same.updF{D:Addr}{o:HO}(s:Same H H')(hD:H D=none):Same H (upd H' D o):=fun b u e=>by rw[upd_ne (ne_of_none e hD)];exact s b u e
noncomputable def dI(ns:List Int):PyData:=.list (ns.map .int)
end
end L2
end
section
namespace L2
open PySem PySem.Spec PyProof.Rows
end L2
end
section
namespace L2
open PySem PySem.Spec PyProof.Rows
section
variable{X:Cx}{K:W.Frag}
theorem call_listK(h:X.K=K):CallR X (.type "list") (rLst K):=h▸call_listS
theorem call_tupK(h:X.K=K):CallR X (.type "tuple") (rTpl K):=h▸call_tupS
theorem op_catTK(h:X.K=K):OpR X (binaryOp .Add) (rCatT K):=h▸op_catT
theorem op_eqDK(h:X.K=K)(hu:X.A.units+64<cLine):OpR X (compareOp .Eq) (rEqD K):=h▸op_eqD hu
theorem op_neDK(h:X.K=K)(hu:X.A.units+64<cLine):OpR X (compareOp .NotEq) (rNeD K):=h▸op_neD hu
variable{o e:Expr}{es:List Expr}{to:TE}{t:TA}{name:Str}{apos cpos:Pos}{T id:String}{r:V→List V→Hp→VK→Prop}
theorem pe_bm0K(h:X.K=K)(pa:PlainAttrs T)(slot:Slot T name id)(hty:typeOf (.builtin id)=pure (.type "method_descriptor"))(hm:MtR X id r)(ho:PE X o to)
  (hbase:attributeBase o name X.env (eval o X.env)=eval o X.env:=by rfl) (hline:(apos.endLine == cpos.line)=true:=by rfl):PE X (.Call (.Attribute o name apos) [] [] cpos) (tBM0 K T r to):=h▸pe_bm0 pa slot hty hm ho hbase hline
theorem pe_bmK(h:X.K=K)(pa:PlainAttrs T)(slot:Slot T name id)(hty:typeOf (.builtin id)=pure (.type "method_descriptor"))(hm:MtR X id r)(ho:PE X o to)(ha:PA X (e::es) t)
  (hbase:attributeBase o name X.env (eval o X.env)=eval o X.env:=by rfl)
  (hfew:((backTo cpos (starEach (e::es) X.env)).all (fun x=>!x.1) && (backToKw cpos (keywordEach [] X.env)).all (fun x=>x.1.isSome)
   && decide ((e::es).length+([]:List Keyword).length+(if ([]:List Keyword).isEmpty then 0 else 1)<30))=true:=by rfl)
  (hline:(apos.endLine == cpos.line)=true:=by rfl) (hs:starEach (e::es) X.env=(false,eval e X.env)::starEach es X.env:=by rfl) (hplain:(backTo cpos (starEach es X.env)).any (·.1)=false:=by rfl) :
  PE X (.Call (.Attribute o name apos) (e::es) [] cpos) (tBM K T r to t):=h▸pe_bm pa slot hty hm ho ha hbase hfew hline hs hplain
end
end L2
end
section
namespace L2
open PySem PySem.Spec PyProof.Rows
end L2
end
section
namespace L2
open PySem PySem.Spec PyProof.Rows
noncomputable def tyD:PyData→String
 | .none => "NoneType"
 | .bool _ => "bool"
 | .int _ => "int"
 | .str _ => "str"
 | .list _ => "list"
 | .tuple _ => "tuple"
 | .dict _ => "dict"
noncomputable def isD:PyData→Bool
 | .dict _=>true
 | _=>false
noncomputable def rIsiD(K:W.Frag):List V→Hp→VK→Prop:=fun xs H Q=>∃ x c d cv b,xs=[x,c]∧clsV c=some cv∧isD d=false∧Rep K H x d∧PySem.W.kitOne K (.type (tyD d)) cv=some b∧Q (.bl b) H
theorem call_isiD{X:Cx}:CallR X (.builtin "isinstance") (rIsiD X.K):=by
 intro pins s σ H xs us Q I r h
 obtain⟨x,c,d,cv,b,rfl,hc,nd,hd,e,q⟩:=h
 obtain⟨u,w',rfl,rx,r2⟩:=vals2 r
 rw[clsV_rel hc r2]
 have fin:∀ tk,EP X pins σ Q (.bool b) { s with toks:=tk }:=fun tk=>⟨.bl b,H,I.tok tk,rfl,q⟩
 cases hd with
 | non=>cases (show u=Value.none from rx);exact PySem.W.kia_one PySem.W.kitx_none I.kIn True.intro e (fun z=>nomatch z) fin
 | bl y=>cases (show u=Value.bool y from rx);exact PySem.W.kia_one PySem.W.kitx_bool I.kIn True.intro e (fun z=>nomatch z) fin
 | int i=>obtain⟨t,q'⟩:=(show ∃ t,u=Value.int i t from rx);cases q';exact PySem.W.kia_one PySem.W.kitx_int I.kIn True.intro e (fun z=>nomatch z) fin
 | str y=>obtain⟨t,q'⟩:=(show ∃ t,u=Value.str y t from rx);cases q';exact PySem.W.kia_one PySem.W.kitx_str I.kIn True.intro e (fun z=>nomatch z) fin
 | @lst a ys ds h1 h2 =>
  cases (show u=Value.ref a from rx)
  obtain⟨its,rv,p,_⟩:=I.list h1
  obtain⟨o,k1,k2,_⟩:=p.isList
  exact PySem.W.kia_one PySem.W.kitx_list I.kIn ⟨o,k1,k2⟩ e (fun z=>nomatch z) fin
 | @tup a ys ds h1 h2 =>
  cases (show u=Value.ref a from rx)
  obtain⟨its,rv,p,_⟩:=I.tuple (SqT.of h1)
  obtain⟨o,k1,k2,_⟩:=p
  exact PySem.W.kia_one PySem.W.kitx_tuple I.kIn ⟨o,k1,k2⟩ e (fun z=>nomatch z) fin
 | exc _ _=>cases nd
 | excF _ _ _ _=>cases nd
 | dK _ _ _=>cases nd
 | dT _ _ _=>cases nd
 | dN _ _ _ _=>cases nd
 | junk=>cases nd
noncomputable def rIsi2(K:W.Frag):List V→Hp→VK→Prop:=fun xs H Q=>rIsi K xs H Q∨rIsiD K xs H Q
theorem call_isi2K{X:Cx}{K:W.Frag}(h:X.K=K):CallR X (.builtin "isinstance") (rIsi2 K):=h▸CallR.or call_isiS call_isiD
theorem rd_isi2{K:W.Frag}{H:Hp}{Q:VK}{x c:V}{t cv:Value}{b:Bool}(hc:clsV c=some cv)(ty:TyOf K H x t)(e:PySem.W.kitOne K t cv=some b)(q:Q (.bl b) H):rIsi2 K [x,c] H Q:=.inl (rd_isi hc ty e q)
theorem rd_isiD{K:W.Frag}{H:Hp}{Q:VK}{x c:V}{d:PyData}{cv:Value}{b:Bool}(hd:Rep K H x d)(nd:isD d=false)(hc:clsV c=some cv)(e:PySem.W.kitOne K (.type (tyD d)) cv=some b)(q:Q (.bl b) H):rIsi2 K [x,c] H Q:=.inr ⟨x,c,d,cv,b,rfl,hc,nd,hd,e,q⟩
noncomputable abbrev FK:=Value→Option Addr→St→Hp→Prop
noncomputable def toF(E:XK):FK:=fun c d _ H=>E c d H
end L2
end
section
namespace L2
open PySem PySem.Spec PyProof.Rows
theorem d_KT{P:Program}{w:World}{h:Heap}{a:Addr}(x:h.DictOf (mixKind P w) a []):h.DictOfH (tupleKind (mixKind P w)) a []:=by
 obtain⟨o,es,ep,h3,h4,h5,h6,h7,h8⟩:=x
 refine⟨o,es,ep,h3,h4,h5,?_,⟨fun x z=>absurd z (by simp),List.nodup_nil⟩⟩
 generalize es.toList=l at h7
 cases h7
 rfl
theorem d_TK{P:Program}{w:World}{h:Heap}{a:Addr}(x:h.DictOfH (tupleKind (mixKind P w)) a []):h.DictOf (mixKind P w) a []:=by
 obtain⟨o,es,ep,h3,h4,h5,h6,h7,h8⟩:=x
 have e:es.toList=[]:=by simpa using h6
 refine⟨o,es,ep,h3,h4,h5,fun k hk=>?_,by rw[e];exact .nil,List.nodup_nil⟩
 have:k∈es.toList:=by simpa using hk
 rw[e] at this
 exact nomatch this
noncomputable def KeyN(H:Hp)(b:Addr)(k:Key×List Key):Prop:=∃ c,H b=some (.tup [kV k.1,.ref c])∧H c=some (.tup (k.2.map kV))
theorem keyN_of{P:Program}{w:World}{H:Hp}{h:Heap}{b:Addr}{k:Key×List Key}(ok:HOk P w H h)(e:KeyN H b k):(pairKind (mixKind P w)).is h k b:=by
 obtain⟨c,e1,e2⟩:=e
 obtain⟨_,its,r,o,h1,h2,n,h3⟩:=(show ObjOk P w H h b (.tup [kV k.1,.ref c]) from ok b _ e1)
 cases r with
 | cons r1 r =>
  cases r with
  | cons r2 r =>
   cases r
   have r2:_=Value.ref c:=r2
   subst r2
   exact⟨o,_,n,_,c,h1,h2,h3,rfl,kV_is r1,key_of ok e2⟩
noncomputable abbrev KN(H:Hp):List ((Key×List Key)×V)→List ((Key×List Key)×Addr×Value)→Prop:=Paired fun p q=>p.1=q.1∧(∃ b,H q.2.1=some (.tup [kV p.1.1,.ref b])∧H b=some (.tup (p.1.2.map kV)))∧RelV p.2 q.2.2
theorem KN.val{H:Hp}{kvs:List ((Key×List Key)×V)}{xs:List ((Key×List Key)×Addr×Value)}(r:KN H kvs xs)(k:Key×List Key):RelO (valV kvs k) ((atKey xs k).map (·.2)):=by
 induction r with
 | nil=>exact True.intro
 | @cons p q ps qs h t ih =>
  by_cases e:p.1=k
  ·have b:atKey (q::qs) k=some q.2:=by simp[atKey,List.find?_cons,h.1.symm.trans e]
   rw[valV_pos e,b];exact h.2.2
  ·have e':¬ q.1=k:=fun z=>e (h.1.trans z)
   have b:atKey (q::qs) k=atKey qs k:=by simp[atKey,List.find?_cons,e']
   rw[valV_neg e,b];exact ih
theorem dn_rd{P:Program}{w:World}{H:Hp}{h:Heap}{a:Addr}{kvs:List ((Key×List Key)×V)}(ok:HOk P w H h)(e:Rd H a (.dN kvs)):kvs.length≤sizeLine∧(a == sysModules)=false∧∃ xs,KN H kvs xs∧h.DictOfH (pairKind (mixKind P w)) a xs:=by
 obtain⟨z,y,xs,r,o,es,ep,h1,h2,h3,h4,h5⟩:=(show ObjOk P w H h a (.dN kvs) from rd_of ok e)
 refine⟨z,y,xs,r,o,es,ep,h1,h2,h3,h4,fun x hx=>?_,h5⟩
 have all:∀ {l:List ((Key×List Key)×V)} {m:List ((Key×List Key)×Addr×Value)},KN H l m→∀ x∈m,(pairKind (mixKind P w)).is h x.1 x.2.1:=by
  intro l m q
  induction q with
  | nil=>intro x hx;exact nomatch hx
  | @cons p q ps qs hq t ih =>
   intro x hx
   rcases List.mem_cons.mp hx with e|hx
   ·subst e
    exact keyN_of ok (by rw[← hq.1];exact hq.2.1)
   ·exact ih x hx
 exact all r x hx
theorem d_KN{P:Program}{w:World}{h:Heap}{a:Addr}(x:h.DictOf (mixKind P w) a []):h.DictOfH (pairKind (mixKind P w)) a []:=by
 obtain⟨o,es,ep,h3,h4,h5,h6,h7,h8⟩:=x
 refine⟨o,es,ep,h3,h4,h5,?_,⟨fun x z=>absurd z (by simp),List.nodup_nil⟩⟩
 generalize es.toList=l at h7
 cases h7
 rfl
theorem dk_rdE{P:Program}{w:World}{H:Hp}{h:Heap}{a:Addr}(ok:HOk P w H h)(e:Rd H a (.dK [])∨Rd H a (.dT [])):(a == sysModules)=false∧h.DictOf (mixKind P w) a []:=by
 rcases e with e|e
 ·obtain⟨z,hd,vs,rel,dd⟩:=dk_rd ok e
  cases rel
  exact⟨hd,dd⟩
 ·obtain⟨z,hd,vs,rel,dd⟩:=dt_rd ok e
  cases rel
  exact⟨hd,d_TK dd⟩
theorem pair_room{P:Program}{w:World}{A:Around}(hu:A.units+2<cLine):(pairKind (mixKind P w)).room A.in1:=⟨by show A.units+1<cLine;omega,by show A.units+1+1<cLine;omega⟩
noncomputable def DGetN(H:Hp)(a:Addr)(y:V)(r:Option V):Prop:=∃ kvs k b,Rd H a (.dN kvs)∧y=.ref b∧KeyN H b k∧r=valV kvs k
noncomputable def DGetA(H:Hp)(a:Addr)(y:V)(r:Option V):Prop:=DGet H a y r∨DGetN H a y r
noncomputable def DGet0(H:Hp)(a:Addr)(y:V)(r:Option V):Prop:=DGet H a y r∨(r=none∧(∃ k,y=kV k)∧Rd H a (.dT []))∨(r=none∧(∃ (k:List Key) (b:Addr),y=.ref b∧H b=some (.tup (k.map kV)))∧Rd H a (.dK []))∨DGetN H a y r∨(r=none∧(∃ (k:Key×List Key) (b:Addr),y=.ref b∧KeyN H b k)∧(Rd H a (.dK [])∨Rd H a (.dT [])))
section
variable{X:Cx}{pins:List (Addr×Obj)}{σ:St}{H:Hp}{s:Shared}{a:Addr}{y v:V}{u r:Value}{o:Option V}{A:Around}{E:Value→Shared→Prop}
theorem d_getN{k:Key×List Key}{b:Addr}{kvs:List ((Key×List Key)×V)}{Q:Value→Shared→Prop}(hu:A.units+2<cLine)(I:Inv X pins σ H s)(e:Rd H a (.dN kvs))(eb:KeyN H b k)(l:some v=valV kvs k)(ry:RelV (.ref b) u)(h:∀ w' s',Inv X pins σ H s'→RelV v w'→Q w' s') :
  wpAny (model X.prog X.w) A (getItem (.ref a) u) Q E s:=by
 cases (show u=Value.ref b from ry)
 obtain⟨z,hd,xs,rel,dd⟩:=dn_rd I.hok e
 obtain⟨w',hw,rw'⟩:=RelO.some_of (v:=v) (o:=(atKey xs k).map (·.2)) (by rw[l];exact rel.val k)
 obtain⟨p,hp,hp2⟩:=Option.map_eq_some_iff.mp hw
 refine wpAny_getItem_heap (pair_room hu) (keyN_of I.hok eb) dd hp ?_
 rw[hp2]
 exact h w' _ (I.tok _) rw'
theorem d_in0{Q:Value→Shared→Prop}(hu:A.units+2<cLine)(I:Inv X pins σ H s)(g:DGet0 H a y o)(ry:RelV y u)(h:∀ s',Inv X pins σ H s'→Q (.bool o.isSome) s') :
  wpAny (model X.prog X.w) A (compareOp .In u (.ref a)) Q E s:=by
 rcases g with g|⟨rfl,⟨k,rfl⟩,e⟩|⟨rfl,⟨k,b,rfl,eb⟩,e⟩|⟨kvs,k,b,e,rfl,eb,rfl⟩|⟨rfl,⟨k,b,rfl,eb⟩,e⟩
 ·exact d_in (by omega) I g ry h
 ·obtain⟨z,hd,vs,rel,dd⟩:=dt_rd I.hok e
  cases rel
  exact wpAny_in_of (kV_is ry) hd (d_TK dd).mapOf (h _ (I.tok _))
 ·obtain⟨z,hd,vs,rel,dd⟩:=dk_rd I.hok e
  cases rel
  cases (show u=Value.ref b from ry)
  exact wpAny_in_heap (tupleKind_room_in1 (by omega)) (key_of I.hok eb) hd (d_KT dd) (h _ (I.tok _))
 ·obtain⟨z,hd,xs,rel,dd⟩:=dn_rd I.hok e
  cases (show u=Value.ref b from ry)
  refine wpAny_in_heap (pair_room hu) (keyN_of I.hok eb) hd dd ?_
  have q:=(rel.val k).isSome_eq
  rw[Option.isSome_map] at q
  rw[← q]
  exact h _ (I.tok _)
 ·obtain⟨hd,dd⟩:=dk_rdE I.hok e
  cases (show u=Value.ref b from ry)
  exact wpAny_in_heap (pair_room hu) (keyN_of I.hok eb) hd (d_KN dd) (h _ (I.tok _))
theorem d_notIn0{Q:Value→Shared→Prop}(hu:A.units+2<cLine)(I:Inv X pins σ H s)(g:DGet0 H a y o)(ry:RelV y u)(h:∀ s',Inv X pins σ H s'→Q (.bool (!o.isSome)) s') :
  wpAny (model X.prog X.w) A (compareOp .NotIn u (.ref a)) Q E s:=by
 rcases g with g|⟨rfl,⟨k,rfl⟩,e⟩|⟨rfl,⟨k,b,rfl,eb⟩,e⟩|⟨kvs,k,b,e,rfl,eb,rfl⟩|⟨rfl,⟨k,b,rfl,eb⟩,e⟩
 ·exact d_notIn (by omega) I g ry h
 ·obtain⟨z,hd,vs,rel,dd⟩:=dt_rd I.hok e
  cases rel
  exact wpAny_notIn_of (kV_is ry) hd (d_TK dd).mapOf (h _ (I.tok _))
 ·obtain⟨z,hd,vs,rel,dd⟩:=dk_rd I.hok e
  cases rel
  cases (show u=Value.ref b from ry)
  exact wpAny_notIn_heap (tupleKind_room_in1 (by omega)) (key_of I.hok eb) hd (d_KT dd) (h _ (I.tok _))
 ·obtain⟨z,hd,xs,rel,dd⟩:=dn_rd I.hok e
  cases (show u=Value.ref b from ry)
  refine wpAny_notIn_heap (pair_room hu) (keyN_of I.hok eb) hd dd ?_
  have q:=(rel.val k).isSome_eq
  rw[Option.isSome_map] at q
  rw[← q]
  exact h _ (I.tok _)
 ·obtain⟨hd,dd⟩:=dk_rdE I.hok e
  cases (show u=Value.ref b from ry)
  exact wpAny_notIn_heap (pair_room hu) (keyN_of I.hok eb) hd (d_KN dd) (h _ (I.tok _))
end
section
variable{X:Cx}
noncomputable def rInDc(neg:Bool):R2:=fun x y H Q=>∃ a r,y=.ref a∧DGet0 H a x r∧Q (.bl (if neg then !r.isSome else r.isSome)) H
theorem op_inDc(hu:X.A.units+64<cLine):OpR X (compareOp .In) (rInDc false):=by
 intro pins s σ H x y v u Q I rx ry h
 obtain⟨a,r,rfl,g,q⟩:=h
 cases ry
 exact d_in0 (by omega) I g rx fun s' J=>⟨.bl _,H,J,rfl,q⟩
theorem op_notInDc(hu:X.A.units+64<cLine):OpR X (compareOp .NotIn) (rInDc true):=by
 intro pins s σ H x y v u Q I rx ry h
 obtain⟨a,r,rfl,g,q⟩:=h
 cases ry
 exact d_notIn0 (by omega) I g rx fun s' J=>⟨.bl _,H,J,rfl,q⟩
noncomputable def rIxDc:R2:=fun x y H Q=>∃ a v,x=.ref a∧DGetA H a y (some v)∧Q v H
theorem ix_dct(hu:X.A.units+64<cLine):IxR X rIxDc:=by
 intro value slice pins s σ H x y v u Q I rx ry h hs
 obtain⟨a,w',rfl,g,q⟩:=h
 cases rx
 have hT:s.TypeIs (.ref a) "dict" := by
  rcases g with g|⟨kvs,k,b,e,_⟩
  ·exact dict_typeIs I g
  ·obtain⟨_,_,xs,_,o,es,ep,h1,h2,_⟩:=dn_rd I.hok e
   exact⟨o,h1,h2.1⟩
 unfold subscriptTail
 refine wpAny_bind ?_
 rw[getitemInPython_of_ne hT.not_modules]
 refine wpAny_bind (wpAny_specialOf hT PySem.F.slot_dict_getitem.lookup ?_)
 have fin:wpAny (model X.prog X.w) X.A (subscripted slice false (.ref a) u) (fun r s₃=>wpAny (model X.prog X.w) X.A (letTemporaryGo value (.ref a) r >>= fun _=>pure r) (EP X pins σ Q) X.xe s₃) X.xe s:=by
  rw[hs]
  rcases g with g|⟨kvs,k,b,e,rfl,eb,l⟩
  ·exact wpAny_operating (d_getItem (by omega) I g ry fun r s' J rr=>wpAny_bind (wpAny_letTemporaryGo (wpAny_pure ⟨w',H,J,rr,q⟩)))
  ·exact wpAny_operating (d_getN (by omega) I e eb l ry fun r s' J rr=>wpAny_bind (wpAny_letTemporaryGo (wpAny_pure ⟨w',H,J,rr,q⟩)))
 first
  | exact wpAny_pure (wpAny_bind fin)
  | exact wpAny_bind (wpAny_pure (wpAny_bind fin))
  | exact wpAny_bind fin
end
section
variable{κ:Type}[DecidableEq κ]{α:Type}[DecidableEq α]
end
section
variable{X:Cx}{K:W.Frag}
noncomputable def anyD(d:PyData)(es:List PyData):Bool:=es.any fun e=>PyData.eqv e d
noncomputable def rInD(K:W.Frag)(neg:Bool):R2:=fun x y H Q=>∃ d es,Rep K H x d∧(Rep K H y (.list es)∨Rep K H y (.tuple es))∧d.canLay0=true∧PyData.canLayAll0 es=true∧d.depth≤32∧Q (.bl (if neg then !anyD d es else anyD d es)) H
theorem op_inD(hK:X.K=K)(hu:X.A.units+64<cLine):OpR X (compareOp .In) (rInD K false):=by
 subst hK
 intro pins s σ H x y v u Q I rx ry h
 obtain⟨d,es,h1,h2,h3,h4,h5,q⟩:=h
 obtain⟨as,k1⟩:=Rep.reads I h3 h1 rx
 rcases h2 with h2|h2
 ·obtain⟨bs,k2⟩:=Rep.reads I (by simpa [PyData.canLay0] using h4) h2 ry
  exact SeqAt.in_list_reads k2 k1 h4 h3 (by omega) ⟨.bl _,H,I,rfl,q⟩
 ·obtain⟨bs,k2⟩:=Rep.reads I (by simpa [PyData.canLay0] using h4) h2 ry
  exact SeqAt.in_tuple_reads k2 k1 h4 h3 (by omega) ⟨.bl _,H,I,rfl,q⟩
theorem op_notInD(hK:X.K=K)(hu:X.A.units+64<cLine):OpR X (compareOp .NotIn) (rInD K true):=by
 subst hK
 intro pins s σ H x y v u Q I rx ry h
 obtain⟨d,es,h1,h2,h3,h4,h5,q⟩:=h
 obtain⟨as,k1⟩:=Rep.reads I h3 h1 rx
 rcases h2 with h2|h2
 ·obtain⟨bs,k2⟩:=Rep.reads I (by simpa [PyData.canLay0] using h4) h2 ry
  exact SeqAt.notIn_list_reads k2 k1 h4 h3 (by omega) ⟨.bl _,H,I,rfl,q⟩
 ·obtain⟨bs,k2⟩:=Rep.reads I (by simpa [PyData.canLay0] using h4) h2 ry
  exact SeqAt.notIn_tuple_reads k2 k1 h4 h3 (by omega) ⟨.bl _,H,I,rfl,q⟩
end
theorem anyD_enc{α:Type}[DecidableEq α]{f:α→PyData}{m:Nat}(F:Enc f m)(c:α):∀ xs:List α,anyD (f c) (xs.map f)=decide (c∈xs)
 | []=>by simp[anyD]
 | x::xs=>by
  have ih:=anyD_enc F c xs
  unfold anyD at ih ⊢
  rw[List.map_cons,List.any_cons,ih,F.dec]
  by_cases e:x=c
  ·subst e;simp
  ·have e':¬ c=x:=fun z=>e z.symm
   simp[e,e']
theorem lay_all{α:Type}{f:α→PyData}{m:Nat}(F:Enc f m):∀ xs:List α,PyData.canLayAll0 (xs.map f)=true
 | []=>by simp[PyData.canLayAll0]
 | x::xs=>by simp[PyData.canLayAll0,F.lay x,lay_all F xs]
noncomputable def rInS(neg:Bool):R2:=fun x y H Q=>∃ i j,x=.str i∧y=.str j∧Q (.bl (if neg then !(!(Builtin.Str.occurrences j i 0 j.length 1).isEmpty) else !(Builtin.Str.occurrences j i 0 j.length 1).isEmpty)) H
noncomputable def rInA(K:W.Frag)(neg:Bool):R2:=fun x y H Q=>rInD K neg x y H Q∨rInDc neg x y H Q∨rInS neg x y H Q
theorem op_inA{X:Cx}{K:W.Frag}(hK:X.K=K)(hu:X.A.units+64<cLine):OpR X (compareOp .In) (rInA K false):=(op_inD hK hu).or ((op_inDc hu).or op_in_str)
theorem op_notInA{X:Cx}{K:W.Frag}(hK:X.K=K)(hu:X.A.units+64<cLine):OpR X (compareOp .NotIn) (rInA K true):=(op_notInD hK hu).or ((op_notInDc hu).or op_notIn_str)
end L2
end
section
namespace VL
open PySem PySem.Spec L2
inductive AV where
 | d (x:PyData)
 | own (xs:List AV)
 | tup (xs:List AV)
 | dic (kvs:List (PyData×PyData))
 | obj (φ:V→Hp→Prop)
inductive TV where
 | av (a:AV)
 | bor (x:PyData)
 | raw (v:V)
noncomputable abbrev Sl:=List (Option AV)
noncomputable abbrev Fp:=Addr→Nat
mutual
noncomputable def AV.data:AV→PyData
 | .d x=>x
 | .own xs=>.list (AV.datas xs)
 | .tup xs=>.tuple (AV.datas xs)
 | .dic kvs=>.dict kvs
 | .obj _=>dJ
noncomputable def AV.datas:List AV→List PyData
 | []=>[]
 | x::xs=>x.data::AV.datas xs
end
theorem AV.datas_map:∀ xs:List AV,AV.datas xs=xs.map AV.data
 | []=>rfl
 | x::xs=>by rw[AV.datas,AV.datas_map xs];rfl
noncomputable def DicAt(K:W.Frag)(G:Hp)(o:HO)(kvs:List (PyData×PyData)):Prop :=
 (∃ (ks:List (Key×V)) (ds:List PyData),o=.dK ks∧Reps K G (ks.map Prod.snd) ds∧kvs=(ks.map fun p=>keyD p.1).zip ds) ∨
 (∃ (ks:List (List Key×V)) (ds:List PyData),o=.dT ks∧Reps K G (ks.map Prod.snd) ds∧kvs=(ks.map fun p=>PyData.tuple (p.1.map keyD)).zip ds) ∨
 ∃ (ks:List ((Key×List Key)×V)) (ds:List PyData),ks≠[]∧o=.dN ks∧Reps K G (ks.map Prod.snd) ds∧kvs=(ks.map fun p=>PyData.tuple [keyD p.1.1,.tuple (p.1.2.map keyD)]).zip ds
theorem DicAt.mono{K:W.Frag}{G G':Hp}{o:HO}{kvs:List (PyData×PyData)}(h:DicAt K G o kvs)(m:Same G G'):DicAt K G' o kvs:=by
 rcases h with⟨ks,ds,e,r,z⟩|⟨ks,ds,e,r,z⟩|⟨ks,ds,n,e,r,z⟩
 ·exact .inl ⟨ks,ds,e,r.same m,z⟩
 ·exact .inr (.inl ⟨ks,ds,e,r.same m,z⟩)
 ·exact .inr (.inr ⟨ks,ds,n,e,r.same m,z⟩)
theorem DicAt.rep{K:W.Frag}{G:Hp}{o:HO}{kvs:List (PyData×PyData)}{a:Addr}(h:DicAt K G o kvs)(e:G a=some o):Rep K G (.ref a) (.dict kvs):=by
 rcases h with⟨ks,ds,rfl,r,z⟩|⟨ks,ds,rfl,r,z⟩|⟨ks,ds,n,rfl,r,z⟩
 ·exact .dK (.inl e) r z
 ·exact .dT (.inl e) r z
 ·exact .dN n (.inl e) r z
noncomputable def Mu:HO→Prop
 | .lst _=>True
 | .dK _=>True
 | .dT _=>True
 | .dN _=>True
 | _=>False
theorem DicAt.mu{K:W.Frag}{G:Hp}{o:HO}{kvs:List (PyData×PyData)}(h:DicAt K G o kvs):Mu o:=by
 rcases h with⟨ks,ds,rfl,_⟩|⟨ks,ds,rfl,_⟩|⟨ks,ds,_,rfl,_⟩<;>trivial
mutual
inductive RA(K:W.Frag)(G H:Hp):V→AV→Fp→Prop
 | d {v:V} {x:PyData} {p:Fp}:Rep K G v x→(∀ b,p b=0)→RA K G H v (.d x) p
 | own {a:Addr} {vs:List V} {xs:List AV} {p q:Fp}:H a=some (.lst vs)→RAs K G H vs xs p→(∀ b,q b=(if b=a then 1 else 0)+p b)→RA K G H (.ref a) (.own xs) q
 | tup {a:Addr} {vs:List V} {xs:List AV} {p:Fp}:G a=some (.tup vs)→RAs K G H vs xs p→RA K G H (.ref a) (.tup xs) p
 | dic {a:Addr} {o:HO} {kvs:List (PyData×PyData)} {q:Fp}:H a=some o→DicAt K G o kvs→(∀ b,q b=if b=a then 1 else 0)→RA K G H (.ref a) (.dic kvs) q
 | obj {v:V} {φ:V→Hp→Prop} {p:Fp}:φ v G→(∀ G1 G2:Hp,Same G1 G2→φ v G1→φ v G2)→(∀ b,p b=0)→RA K G H v (.obj φ) p
inductive RAs(K:W.Frag)(G H:Hp):List V→List AV→Fp→Prop
 | nil {p:Fp}:(∀ b,p b=0)→RAs K G H [] [] p
 | cons {v:V} {x:AV} {vs:List V} {xs:List AV} {p q r:Fp}:RA K G H v x p→RAs K G H vs xs q→(∀ b,r b=p b+q b)→RAs K G H (v::vs) (x::xs) r
end
theorem RA.ind{K:W.Frag}{G H:Hp}{M:V→AV→Fp→Prop}{N:List V→List AV→Fp→Prop}(h1:∀ {v x p},Rep K G v x→(∀ b,p b=0)→M v (.d x) p)(h2:∀ {a vs xs p q},H a=some (.lst vs)→N vs xs p→(∀ b,q b=(if b=a then 1 else 0)+p b)→M (.ref a) (.own xs) q)
  (h3:∀ {a vs xs p},G a=some (.tup vs)→N vs xs p→M (.ref a) (.tup xs) p) (h4:∀ {a o kvs q},H a=some o→DicAt K G o kvs→(∀ b,q b=if b=a then 1 else 0)→M (.ref a) (.dic kvs) q) (h5:∀ {v φ p},φ v G→(∀ G1 G2:Hp,Same G1 G2→φ v G1→φ v G2)→(∀ b,p b=0)→M v (.obj φ) p)
  (n:∀ {p},(∀ b,p b=0)→N [] [] p) (c:∀ {v x vs xs p q r},M v x p→N vs xs q→(∀ b,r b=p b+q b)→N (v::vs) (x::xs) r):(∀ {v a p},RA K G H v a p→M v a p)∧∀ {vs xs p},RAs K G H vs xs p→N vs xs p :=
 ⟨fun h=>RA.rec (motive_1:=fun v a p _=>M v a p) (motive_2:=fun v a p _=>N v a p) h1 (fun h _ e i=>h2 h i e) (fun h _ i=>h3 h i) h4 h5 n (fun _ _ e i j=>c i j e) h,fun h=>RAs.rec (motive_1:=fun v a p _=>M v a p) (motive_2:=fun v a p _=>N v a p) h1 (fun h _ e i=>h2 h i e) (fun h _ i=>h3 h i) h4 h5 n (fun _ _ e i j=>c i j e) h⟩
inductive RSl(K:W.Frag)(G H:Hp):St→Sl→Fp→Prop
 | nil {p:Fp}:(∀ b,p b=0)→RSl K G H [] [] p
 | no {o:Option V} {σ:St} {ρ:Sl} {p:Fp}:RSl K G H σ ρ p→RSl K G H (o::σ) (none::ρ) p
 | so {v:V} {a:AV} {σ:St} {ρ:Sl} {p q r:Fp}:RA K G H v a p→RSl K G H σ ρ q→(∀ b,r b=p b+q b)→RSl K G H (some v::σ) (some a::ρ) r
inductive RT(K:W.Frag)(G H:Hp):V→TV→Fp→Prop
 | av {v:V} {a:AV} {p:Fp}:RA K G H v a p→RT K G H v (.av a) p
 | bor {v:V} {x:PyData} {p:Fp}:Rep K H v x→(∀ b,p b=0)→RT K G H v (.bor x) p
 | raw {v:V} {p:Fp}:(∀ b,p b=0)→RT K G H v (.raw v) p
inductive RTs(K:W.Frag)(G H:Hp):List V→List TV→Fp→Prop
 | nil {p:Fp}:(∀ b,p b=0)→RTs K G H [] [] p
 | cons {v:V} {x:TV} {vs:List V} {xs:List TV} {p q r:Fp}:RT K G H v x p→RTs K G H vs xs q→(∀ b,r b=p b+q b)→RTs K G H (v::vs) (x::xs) r
noncomputable def hid(H:Hp)(p q:Fp):Hp:=fun b=>if p b+q b=0 then H b else none
structure SR(K:W.Frag)(H0:Hp)(σ:St)(ρ:Sl)(ts:List V)(as:List TV)(H:Hp):Prop where
 ex:∃ p q,RSl K (hid H p q) H σ ρ p∧RTs K (hid H p q) H ts as q∧(∀ b,p b+q b≤1)∧∀ b,0<p b+q b→H0 b=none
 same:Same H0 H
section
variable{K:W.Frag}{G G' H H' H0:Hp}{σ:St}{ρ:Sl}{ts:List V}{as:List TV}
theorem RA.monoB(hG:Same G G'):(∀ {v:V} {a:AV} {p:Fp},RA K G H v a p→(∀ b o,0<p b→H b=some o→H' b=some o)→RA K G' H' v a p)∧∀ {vs:List V} {xs:List AV} {p:Fp},RAs K G H vs xs p→(∀ b o,0<p b→H b=some o→H' b=some o)→RAs K G' H' vs xs p :=
 RA.ind (M:=fun v a p=>(∀ b o,0<p b→H b=some o→H' b=some o)→RA K G' H' v a p) (N:=fun vs xs p=>(∀ b o,0<p b→H b=some o→H' b=some o)→RAs K G' H' vs xs p) (fun r e _=>.d (r.same hG) e) (fun {a _ _ _ _} h i e hH=>.own (hH a _ (by have:=e a;simp at this;omega) h) (i fun b o z=>hH b o (by have:=e b;omega)) e)
  (fun h i hH=>.tup (hG _ _ h) (i hH)) (fun {a _ _ _} h d e hH=>.dic (hH a _ (by have:=e a;simp at this;omega) h) (d.mono hG) e) (fun h m e _=>.obj (m _ _ hG h) m e) (fun e _=>.nil e) fun i j e hH=>.cons (i fun b o z=>hH b o (by have:=e b;omega)) (j fun b o z=>hH b o (by have:=e b;omega)) e
theorem RA.mono(hG:Same G G'){v:V}{a:AV}{p:Fp}(hH:∀ b o,0<p b→H b=some o→H' b=some o)(h:RA K G H v a p):RA K G' H' v a p:=(RA.monoB hG).1 h hH
theorem RAs.mono(hG:Same G G'){vs:List V}{xs:List AV}{p:Fp}(hH:∀ b o,0<p b→H b=some o→H' b=some o)(h:RAs K G H vs xs p):RAs K G' H' vs xs p:=(RA.monoB hG).2 h hH
theorem RA.lstB:(∀ {v:V} {a:AV} {p:Fp},RA K G H v a p→∀ b,0<p b→∃ o,H b=some o∧Mu o)∧∀ {vs:List V} {xs:List AV} {p:Fp},RAs K G H vs xs p→∀ b,0<p b→∃ o,H b=some o∧Mu o:=by
 refine RA.ind (M:=fun v a p=>∀ b,0<p b→∃ o,H b=some o∧Mu o) (N:=fun vs xs p=>∀ b,0<p b→∃ o,H b=some o∧Mu o) (fun r e b z=>absurd (e b) (Nat.ne_of_gt z)) (fun {a vs xs p q} h i e b z=>?_) (fun h i b z=>i b z) (fun {a o kvs q} h d e b z=>?_) (fun _ _ e b z=>absurd (e b) (Nat.ne_of_gt z)) (fun e b z=>absurd (e b) (Nat.ne_of_gt z)) fun {v x vs xs p q r} i j e b z=>?_
 ·by_cases hb:b=a
  ·subst hb;exact⟨_,h,trivial⟩
  ·exact i b (by have:=e b;simp[hb] at this;omega)
 ·by_cases hb:b=a
  ·subst hb;exact⟨_,h,d.mu⟩
  ·have:=e b;simp[hb] at this;omega
 ·have:=e b
  rcases Nat.eq_zero_or_pos (p b) with h|h
  ·exact j b (by omega)
  ·exact i b h
theorem RA.lst{v:V}{a:AV}{p:Fp}(h:RA K G H v a p):∀ b,0<p b→∃ o,H b=some o∧Mu o:=RA.lstB.1 h
theorem RAs.lst{vs:List V}{xs:List AV}{p:Fp}(h:RAs K G H vs xs p):∀ b,0<p b→∃ o,H b=some o∧Mu o:=RA.lstB.2 h
theorem RSl.mono(hG:Same G G'){p:Fp}(r:RSl K G H σ ρ p):(∀ b o,0<p b→H b=some o→H' b=some o)→RSl K G' H' σ ρ p:=by
 induction r with
 | nil e=>exact fun _=>.nil e
 | no _ ih=>exact fun h=>.no (ih h)
 | so r _ e ih=>exact fun h=>.so (r.mono hG (fun b o z=>h b o (by have:=e b;omega))) (ih fun b o z=>h b o (by have:=e b;omega)) e
theorem RSl.lst{p:Fp}(r:RSl K G H σ ρ p):∀ b,0<p b→∃ o,H b=some o∧Mu o:=by
 induction r with
 | nil e=>intro b z;have:=e b;omega
 | no _ ih=>exact ih
 | @so v a σ ρ p1 q1 r1 r _ e ih =>
  intro b z
  have:=e b
  rcases Nat.eq_zero_or_pos (p1 b) with h|h
  ·exact ih b (by omega)
  ·exact r.lst b h
theorem RT.mono{v:V}{a:TV}{p:Fp}(hG:Same G G')(hH:Same H H')(r:RT K G H v a p):RT K G' H' v a p:=by
 cases r with
 | av r=>exact .av (r.mono hG fun b o _=>hH b o)
 | bor r e=>exact .bor (r.same hH) e
 | raw e=>exact .raw e
theorem RT.lst{v:V}{a:TV}{p:Fp}(r:RT K G H v a p):∀ b,0<p b→∃ o,H b=some o∧Mu o:=by
 cases r with
 | av r=>exact r.lst
 | bor r e=>intro b z;have:=e b;omega
 | raw e=>intro b z;have:=e b;omega
theorem RTs.mono{p:Fp}(hG:Same G G')(hH:Same H H')(r:RTs K G H ts as p):RTs K G' H' ts as p:=by
 induction r with
 | nil e=>exact .nil e
 | cons r _ e ih=>exact .cons (r.mono hG hH) ih e
theorem RTs.lst{p:Fp}(r:RTs K G H ts as p):∀ b,0<p b→∃ o,H b=some o∧Mu o:=by
 induction r with
 | nil e=>intro b z;have:=e b;omega
 | @cons v x vs xs p1 q1 r1 r _ e ih =>
  intro b z
  have:=e b
  rcases Nat.eq_zero_or_pos (p1 b) with h|h
  ·exact ih b (by omega)
  ·exact r.lst b h
noncomputable def Stb(as:List TV):Prop:=∀ a∈as,∃ x,a=.av (.d x)
theorem Stb.nil:Stb []:=fun _ h=>nomatch h
theorem Stb.cons{x:PyData}(h:Stb as):Stb (.av (.d x)::as):=fun b hb=>by
 rcases List.mem_cons.mp hb with e|e
 ·exact⟨x,e⟩
 ·exact h b e
theorem RTs.monoS{p:Fp}(hG:Same G G')(r:RTs K G H ts as p):Stb as→(∀ b o,0<p b→H b=some o→H' b=some o)→RTs K G' H' ts as p:=by
 induction r with
 | nil e=>exact fun _ _=>.nil e
 | cons r _ e ih =>
  intro hS hH
  refine .cons ?_ (ih (fun a ha=>hS a (.tail _ ha)) fun b o z=>hH b o (by have:=e b;omega)) e
  cases r with
  | av r=>exact .av (r.mono hG fun b o z=>hH b o (by have:=e b;omega))
  | bor _ _=>obtain⟨x,e⟩:=hS _ (.head _);cases e
  | raw e=>exact .raw e
theorem same_hid{p q:Fp}(h:Same H H'):Same (hid H p q) (hid H' p q):=fun b o e=>by
 unfold hid at e ⊢
 split at e
 ·rename_i z;rw[if_pos z];exact h b o e
 ·cases e
theorem hid_le{p q:Fp}:Same (hid H p q) H:=fun b o e=>by
 unfold hid at e
 split at e
 ·exact e
 ·cases e
theorem hid_more{p q p' q':Fp}(h:∀ b,p b+q b=0→p' b+q' b=0):Same (hid H p q) (hid H p' q'):=fun b o e=>by
 unfold hid at e ⊢
 split at e
 ·rename_i z;rw[if_pos (h b z)];exact e
 ·cases e
theorem hid_eq{p q p' q':Fp}(h:∀ b,p b+q b=p' b+q' b):hid H p q=hid H p' q':=by
 funext b;unfold hid;rw[h b]
theorem SR.ext(h:SR K H0 σ ρ ts as H)(e:Same H H'):SR K H0 σ ρ ts as H':=by
 obtain⟨⟨p,q,h1,h2,h3,h4⟩,s⟩:=h
 exact⟨⟨p,q,h1.mono (same_hid e) (fun b o _=>e b o),h2.mono (same_hid e) e,h3,h4⟩,s.trans e⟩
theorem tup_hid{p q:Fp}{a:Addr}{xs:List V}(hl:∀ b,0<p b+q b→∃ o,H b=some o∧Mu o)(h:H a=some (.tup xs)):VL.hid H p q a=some (.tup xs):=by
 unfold VL.hid
 rw[if_pos]
 ·exact h
 ·rcases Nat.eq_zero_or_pos (p a+q a) with z|z
  ·exact z
  ·obtain⟨vs,e,mu⟩:=hl a z;rw[h] at e;cases e;exact mu.elim
theorem Rep.hidB{p q:Fp}(hl:∀ b,0<p b+q b→∃ o,H b=some o∧Mu o):(∀ {v:V} {x:PyData},Rep K H v x→noLst x=true→Rep K (VL.hid H p q) v x)∧∀ {vs:List V} {xs:List PyData},Reps K H vs xs→noLsts xs=true→Reps K (VL.hid H p q) vs xs :=
 Rep.indF (M:=fun v x=>noLst x=true→Rep K (VL.hid H p q) v x) (N:=fun vs xs=>noLsts xs=true→Reps K (VL.hid H p q) vs xs) (fun _=>.non) (fun b _=>.bl b) (fun i _=>.int i) (fun x _=>.str x) (fun _ _ hn=>by simp[noLst] at hn) (fun h i hn=>.tup (tup_hid hl h) (i (by simpa [noLst] using hn))) (fun _ _ hn=>by simp[noLst] at hn) (fun _=>.nil) fun i j hn=>by
  simp only[noLsts,Bool.and_eq_true] at hn
  exact .cons (i hn.1) (j hn.2)
theorem Rep.hid{p q:Fp}(hl:∀ b,0<p b+q b→∃ o,H b=some o∧Mu o){v:V}{x:PyData}(hn:noLst x=true)(h:Rep K H v x):Rep K (VL.hid H p q) v x:=(Rep.hidB hl).1 h hn
theorem Reps.hid{p q:Fp}(hl:∀ b,0<p b+q b→∃ o,H b=some o∧Mu o){vs:List V}{xs:List PyData}(hn:noLsts xs=true)(h:Reps K H vs xs):Reps K (VL.hid H p q) vs xs:=(Rep.hidB hl).2 h hn
theorem RA.frzB(hG:Same G G'):(∀ {v:V} {a:AV} {p:Fp},RA K G H v a p→(∀ b o,0<p b→H b=some o→G' b=some o)→Rep K G' v a.data)∧∀ {vs:List V} {xs:List AV} {p:Fp},RAs K G H vs xs p→(∀ b o,0<p b→H b=some o→G' b=some o)→Reps K G' vs (AV.datas xs) :=
 RA.ind (M:=fun v a p=>(∀ b o,0<p b→H b=some o→G' b=some o)→Rep K G' v a.data) (N:=fun vs xs p=>(∀ b o,0<p b→H b=some o→G' b=some o)→Reps K G' vs (AV.datas xs)) (fun r _ _=>r.same hG) (fun {a _ _ _ _} e i z h=>.lst (SqL.of (h a _ (by have:=z a;simp at this;omega) e)) (i fun b o y=>h b o (by have:=z b;omega)))
  (fun e i h=>.tup (hG _ _ e) (i h)) (fun {a _ _ _} e d z h=>(d.mono hG).rep (h a _ (by have:=z a;simp at this;omega) e)) (fun _ _ _ _=>.junk) (fun _ _=>.nil) fun i j z h=>.cons (i fun b o y=>h b o (by have:=z b;omega)) (j fun b o y=>h b o (by have:=z b;omega))
theorem RA.frz(hG:Same G G'){v:V}{a:AV}{p:Fp}(hH:∀ b o,0<p b→H b=some o→G' b=some o)(h:RA K G H v a p):Rep K G' v a.data:=(RA.frzB hG).1 h hH
theorem RAs.frz(hG:Same G G'){vs:List V}{xs:List AV}{p:Fp}(hH:∀ b o,0<p b→H b=some o→G' b=some o)(h:RAs K G H vs xs p):Reps K G' vs (AV.datas xs):=(RA.frzB hG).2 h hH
theorem RA.rep(hG:Same G H){v:V}{a:AV}{p:Fp}(h:RA K G H v a p):Rep K H v a.data:=h.frz hG fun _ _ _ z=>z
theorem RAs.rep(hG:Same G H){vs:List V}{xs:List AV}{p:Fp}(h:RAs K G H vs xs p):Reps K H vs (AV.datas xs):=h.frz hG fun _ _ _ z=>z
noncomputable def TV.data:TV→PyData
 | .av a=>a.data
 | .bor x=>x
 | .raw _=>.none
theorem RT.rep{v:V}{a:TV}{p:Fp}(hG:Same G H)(hr:∀ v,a≠.raw v)(r:RT K G H v a p):Rep K H v a.data:=by
 cases r with
 | av r=>exact r.rep hG
 | bor r _=>exact r
 | raw _=>exact absurd rfl (hr _)
end
end VL
end
section
namespace VL
open PySem PySem.Spec L2
structure Exc where
 cls:Addr
 fs:List (Str×PyData):=[]
noncomputable def XRep(K:W.Frag)(H:Hp)(e:Exc)(c:Value)(d:Option Addr):Prop :=
 c=.ref e.cls∧((e.fs=[]∧d=none)∨∃ a vs,d=some a∧H a=some (hXD a vs)∧vs.map Prod.fst=e.fs.map Prod.fst∧Reps K H (vs.map Prod.snd) (e.fs.map Prod.snd))
class Tabs where
 ts:List (Addr×(Nat→Nat→Str))
variable[Tabs]
noncomputable def TabsIn(H:Hp):Prop:=∀ p∈Tabs.ts,H p.1=some (.tbq p.2)
theorem TabsIn.same{H H':Hp}(t:TabsIn H)(s:Same H H'):TabsIn H':=fun p hp=>s _ _ (t p hp)
structure XOk(K:W.Frag)(E:FK)(X:Exc→Sl→Prop)(H0:Hp):Prop where
 x:∀ e ρ,X e ρ→∀ c d σ H',SR K H0 σ ρ [] [] H'→XRep K H' e c d→E c d σ H'
 t:TabsIn H0
noncomputable def NE:Exc→Sl→Prop:=fun _ _=>False
theorem XOk.ne{K:W.Frag}{E:FK}{H0:Hp}(t:TabsIn H0):XOk K E NE H0:=⟨fun _ _ z=>z.elim,t⟩
structure VEnds where
 nx:Sl→Prop
 rt:TV→Prop
 bk:Sl→Prop:=fun _=>False
 ct:Sl→Prop:=fun _=>False
structure Fit(K:W.Frag)(H0:Hp)(ts:List V)(as:List TV)(DV:VEnds)(D:Ends):Prop where
 nx:∀ ρ,DV.nx ρ→∀ σ H,SR K H0 σ ρ ts as H→D.nx σ H
 bk:∀ ρ,DV.bk ρ→∀ σ H,SR K H0 σ ρ ts as H→D.bk σ H
 ct:∀ ρ,DV.ct ρ→∀ σ H,SR K H0 σ ρ ts as H→D.ct σ H
 rt:∀ a,DV.rt a→∀ v σ ρ H,SR K H0 σ ρ (v::ts) (a::as) H→D.rt v H
noncomputable def TV.sto:TV→Option AV
 | .av a=>some a
 | .bor x=>if noLst x=true then some (.d x) else none
 | .raw _=>none
section
variable(K:W.Frag)(E:FK)(X:Exc→Sl→Prop)
noncomputable def Ev(t:TE)(ρ:Sl)(Q:TV→Prop):Prop :=
 ∀ (H0:Hp) (σ:St) (ts:List V) (as:List TV) (H:Hp) (QV:VK),SR K H0 σ ρ ts as H→XOk K E X H0→(∀ a,Q a→∀ v H',SR K H0 σ ρ (v::ts) (a::as) H'→QV v H')→t σ H QV
noncomputable def Tv(t:TT)(ρ:Sl)(Q:Bool→Prop):Prop :=
 ∀ (H0:Hp) (σ:St) (ts:List V) (as:List TV) (H:Hp) (QV:Bool→Hp→Prop),SR K H0 σ ρ ts as H→XOk K E X H0→(∀ b,Q b→∀ H',SR K H0 σ ρ ts as H'→QV b H')→t σ H QV
noncomputable def Ea(t:TA)(ρ:Sl)(Q:List TV→Prop):Prop :=
 ∀ (H0:Hp) (σ:St) (ts:List V) (as:List TV) (H:Hp) (QV:List V→Hp→Prop),SR K H0 σ ρ ts as H→XOk K E X H0→(∀ bs,Q bs→∀ vs H',SR K H0 σ ρ (vs++ts) (bs++as) H'→vs.length=bs.length→QV vs H')→t σ H QV
noncomputable def Op(r:R2)(a b:TV)(Q:TV→Prop):Prop :=
 ∀ (H0:Hp) (σ:St) (ρ:Sl) (ts:List V) (as:List TV) (H:Hp) (x y:V) (QV:VK),SR K H0 σ ρ (y::x::ts) (b::a::as) H→XOk K E X H0→(∀ c,Q c→∀ v H',SR K H0 σ ρ (v::ts) (c::as) H'→QV v H')→r x y H QV
noncomputable def Bi(r:List V→Hp→VK→Prop)(bs:List TV)(Q:TV→Prop):Prop :=
 ∀ (H0:Hp) (σ:St) (ρ:Sl) (ts:List V) (as:List TV) (H:Hp) (vs:List V) (QV:VK),SR K H0 σ ρ (vs++ts) (bs++as) H→vs.length=bs.length→XOk K E X H0→(∀ c,Q c→∀ v H',SR K H0 σ ρ (v::ts) (c::as) H'→QV v H')→r vs H QV
noncomputable def Sv(t:TS)(ρ:Sl)(DV:VEnds):Prop :=
 ∀ (H0:Hp) (σ:St) (ts:List V) (as:List TV) (H:Hp) (D:Ends),Stb as→SR K H0 σ ρ ts as H→XOk K E X H0→Fit K H0 ts as DV D→t D σ H
end
section
variable{K:W.Frag}{G G' H H' H0:Hp}{σ:St}{ρ:Sl}{ts:List V}{as:List TV}{v x y:V}{a b:TV}
theorem SR.top(h:SR K H0 σ ρ (v::ts) (a::as) H)(hr:∀ v,a≠.raw v):Rep K H v a.data:=by
 obtain⟨⟨p,q,_,h2,_⟩,_⟩:=h
 cases h2 with
 | cons r _ _=>exact r.rep hid_le hr
theorem SR.top_d{x:PyData}(h:SR K H0 σ ρ (v::ts) (.av (.d x)::as) H):Rep K H v x:=h.top (a:=.av (.d x)) (fun _ z=>nomatch z)
theorem SR.raw{u:V}(h:SR K H0 σ ρ (v::ts) (.raw u::as) H):v=u:=by
 obtain⟨⟨p,q,_,h2,_⟩,_⟩:=h
 cases h2 with
 | cons r _ _=>cases r;rfl
theorem SR.pop(h:SR K H0 σ ρ (v::ts) (a::as) H):SR K H0 σ ρ ts as H:=by
 obtain⟨⟨p,q,h1,h2,h3,h4⟩,s⟩:=h
 cases h2 with
 | @cons _ _ _ _ p1 q1 _ r rs e =>
  refine⟨⟨p,q1,h1.mono (hid_more fun b z=>by have:=e b;omega) (fun _ _ _ z=>z),rs.mono (hid_more fun b z=>by have:=e b;omega) (fun _ _ z=>z),fun b=>by have:=e b;have:=h3 b;omega,fun b z=>h4 b (by have:=e b;omega)⟩,s⟩
theorem SR.push(h:SR K H0 σ ρ ts as H){x:PyData}(r:∀ G,Rep K G v x):SR K H0 σ ρ (v::ts) (.av (.d x)::as) H:=by
 obtain⟨⟨p,q,h1,h2,h3,h4⟩,s⟩:=h
 exact⟨⟨p,q,h1,.cons (.av (.d (p:=fun _=>0) (r _) fun _=>rfl)) h2 (fun b=>by simp),h3,h4⟩,s⟩
theorem SR.pushB(h:SR K H0 σ ρ ts as H){x:PyData}(r:Rep K H v x):SR K H0 σ ρ (v::ts) (.bor x::as) H:=by
 obtain⟨⟨p,q,h1,h2,h3,h4⟩,s⟩:=h
 exact⟨⟨p,q,h1,.cons (.bor (p:=fun _=>0) r fun _=>rfl) h2 (fun b=>by simp),h3,h4⟩,s⟩
theorem SR.pushR(h:SR K H0 σ ρ ts as H):SR K H0 σ ρ (v::ts) (.raw v::as) H:=by
 obtain⟨⟨p,q,h1,h2,h3,h4⟩,s⟩:=h
 exact⟨⟨p,q,h1,.cons (.raw (p:=fun _=>0) fun _=>rfl) h2 (fun b=>by simp),h3,h4⟩,s⟩
theorem SR.lsts{p q:Fp}(h1:RSl K G H σ ρ p)(h2:RTs K G H ts as q):∀ b,0<p b+q b→∃ o,H b=some o∧Mu o:=fun b z=>by
 rcases Nat.eq_zero_or_pos (p b) with e|e
 ·exact h2.lst b (by omega)
 ·exact h1.lst b e
theorem SR.pushF(h:SR K H0 σ ρ ts as H){x:PyData}(hx:noLst x=true)(r:Rep K H v x):SR K H0 σ ρ (v::ts) (.av (.d x)::as) H:=by
 obtain⟨⟨p,q,h1,h2,h3,h4⟩,s⟩:=h
 exact⟨⟨p,q,h1,.cons (.av (.d (p:=fun _=>0) (Rep.hid (SR.lsts h1 h2) hx r) fun _=>rfl)) h2 (fun b=>by simp),h3,h4⟩,s⟩
theorem SR.int(h:SR K H0 σ ρ ts as H)(i:Int):SR K H0 σ ρ (.int i::ts) (.av (.d (.int i))::as) H:=h.push fun _=>.int i
theorem SR.bl(h:SR K H0 σ ρ ts as H)(i:Bool):SR K H0 σ ρ (.bl i::ts) (.av (.d (.bool i))::as) H:=h.push fun _=>.bl i
theorem SR.sto{a':AV}(h:SR K H0 σ ρ (v::ts) (a::as) H)(e:a.sto=some a'):SR K H0 σ ρ (v::ts) (.av a'::as) H:=by
 cases a with
 | av a=>cases e;exact h
 | raw u=>cases e
 | bor x =>
  unfold TV.sto at e
  by_cases z:noLst x=true
  ·simp only[z,if_true,Option.some.injEq] at e
   subst e
   exact h.pop.pushF z (h.top (a:=.bor x) fun _ z=>nomatch z)
  ·simp[z] at e
theorem SR.frzT{a:AV}(h:SR K H0 σ ρ (v::ts) (.av a::as) H):SR K H0 σ ρ (v::ts) (.av (.d a.data)::as) H:=by
 obtain⟨⟨p,q,h1,h2,h3,h4⟩,s⟩:=h
 cases h2 with
 | @cons _ _ _ _ p1 q1 _ r rs e =>
  cases r with
  | av r =>
   have m:Same (hid H p q) (hid H p q1):=hid_more fun b z=>by have:=e b;omega
   refine⟨⟨p,q1,h1.mono m (fun _ _ _ z=>z),.cons (.av (.d (p:=fun _=>0) (r.frz m fun b o y z=>?_) fun _=>rfl)) (rs.mono m fun _ _ z=>z) (fun b=>by simp),fun b=>by have:=e b;have:=h3 b;omega,fun b z=>h4 b (by have:=e b;omega)⟩,s⟩
   unfold hid
   rw[if_pos (by have:=e b;have:=h3 b;omega)]
   exact z
theorem RSl.frz{i:Nat}{a:AV}{p:Fp}{ρ:Sl}{σ:St}(r:RSl K G H σ ρ p)(hi:ρ[i]?=some (some a))(hp:∀ b o,0<p b→H b=some o→True) :
  ∃ (p1 p2:Fp) (v:V),(∀ b,p b=p1 b+p2 b)∧σ[i]?=some (some v)∧RA K G H v a p1∧∀ (G' H':Hp) (v':V) (a':AV) (p1' r':Fp),Same G G'→(∀ b o,0<p2 b→H b=some o→H' b=some o)→RA K G' H' v' a' p1'→(∀ b,r' b=p1' b+p2 b)→RSl K G' H' (σ.set i (some v')) (ρ.set i (some a')) r':=by
 induction r generalizing i with
 | nil _=>simp at hi
 | @no o σ ρ p r ih =>
  cases i with
  | zero=>simp at hi
  | succ i =>
   obtain⟨p1,p2,v,e1,e2,e3,e4⟩:=ih (by simpa using hi) (fun _ _ _ _=>trivial)
   exact⟨p1,p2,v,e1,by simpa using e2,e3,fun G' H' v' a' p1' r' m n ra z=>.no (e4 G' H' v' a' p1' r' m n ra z)⟩
 | @so v a0 σ ρ pa pb pr ra r e ih =>
  cases i with
  | zero =>
   have:a0=a:=by simpa using hi
   subst this
   exact⟨pa,pb,v,e,rfl,ra,fun G' H' v' a' p1' r' m n ra' z=>.so ra' (r.mono m n) z⟩
  | succ i =>
   obtain⟨p1,p2,w,e1,e2,e3,e4⟩:=ih (by simpa using hi) (fun _ _ _ _=>trivial)
   refine⟨p1,fun b=>pa b+p2 b,w,fun b=>by have:=e b;have:=e1 b;dsimp only;omega,by simpa using e2,e3,fun G' H' v' a' p1' r' m n ra' z=>?_⟩
   exact .so (ra.mono m fun b o y=>n b o (by dsimp only;omega)) (e4 G' H' v' a' p1' (fun b=>p1' b+p2 b) m (fun b o y=>n b o (by dsimp only;omega)) ra' fun _=>rfl) (fun b=>by have:=z b;dsimp only at this ⊢;omega)
theorem set_same{α:Type}:∀ {l:List α} {i:Nat} {x:α},l[i]?=some x→l.set i x=l
 | [],_,_,h=>by simp at h
 | y::l,0,x,h=>by simp at h;simp[h]
 | y::l,i+1,x,h=>by simp at h;simp[set_same h]
theorem RSl.len{p:Fp}(r:RSl K G H σ ρ p):σ.length=ρ.length:=by
 induction r with
 | nil _=>rfl
 | no _ ih=>simp[ih]
 | so _ _ _ ih=>simp[ih]
theorem RSl.set{i:Nat}{w:V}{a:AV}{p p1:Fp}(r:RSl K G H σ ρ p)(hi:i<ρ.length)(ra:RA K G H w a p1):∃ p2:Fp,(∀ b,p2 b≤p b)∧RSl K G H (σ.set i (some w)) (ρ.set i (some a)) (fun b=>p1 b+p2 b):=by
 induction r generalizing i with
 | nil _=>simp at hi
 | @no o σ ρ p r ih =>
  cases i with
  | zero=>exact⟨p,fun _=>Nat.le_refl _,.so ra r fun _=>rfl⟩
  | succ i =>
   obtain⟨p2,e1,e2⟩:=ih (by simpa using hi)
   exact⟨p2,e1,.no e2⟩
 | @so v a0 σ ρ pa pb pr ra0 r e ih =>
  cases i with
  | zero=>exact⟨pb,fun b=>by have:=e b;omega,.so ra r fun _=>rfl⟩
  | succ i =>
   obtain⟨p2,e1,e2⟩:=ih (by simpa using hi)
   exact⟨fun b=>pa b+p2 b,fun b=>by have:=e b;have:=e1 b;dsimp only;omega,.so ra0 e2 fun b=>by dsimp only;omega⟩
theorem SR.of_le{p p' q q':Fp}(s:Same H0 H)(h3:∀ b,p b+q b≤1)(h4:∀ b,0<p b+q b→H0 b=none)(hp:∀ b,p' b+q' b≤p b+q b)(h1:RSl K (hid H p q) H σ ρ p')(h2:RTs K (hid H p q) H ts as q'):SR K H0 σ ρ ts as H :=
 ⟨⟨p',q',h1.mono (hid_more fun b z=>by have:=hp b;omega) (fun _ _ _ z=>z),h2.mono (hid_more fun b z=>by have:=hp b;omega) (fun _ _ z=>z),fun b=>by have:=hp b;have:=h3 b;omega,fun b z=>h4 b (by have:=hp b;omega)⟩,s⟩
theorem SR.store{i:Nat}{a:AV}(h:SR K H0 σ ρ (v::ts) (.av a::as) H)(hi:i<ρ.length):SR K H0 (σ.set i (some v)) (ρ.set i (some a)) ts as H:=by
 obtain⟨⟨p,q,h1,h2,h3,h4⟩,s⟩:=h
 cases h2 with
 | @cons _ _ _ _ p1 q1 _ r rs e =>
  cases r with
  | av r =>
   obtain⟨p2,e1,e2⟩:=h1.set hi r
   refine SR.of_le (p:=p) (q:=q) (p':=fun b=>p1 b+p2 b) (q':=q1) s h3 h4 (fun b=>?_) e2 rs
   have:=e b;have:=e1 b;omega
theorem RSl.drop{i:Nat}{o:Option V}{p:Fp}(r:RSl K G H σ ρ p):∃ p2:Fp,(∀ b,p2 b≤p b)∧RSl K G H (σ.set i o) (ρ.set i none) p2:=by
 induction r generalizing i with
 | nil e=>exact⟨_,fun _=>Nat.le_refl _,by simpa using .nil e⟩
 | @no o σ ρ p r ih =>
  cases i with
  | zero=>exact⟨p,fun _=>Nat.le_refl _,.no r⟩
  | succ i=>obtain⟨p2,e1,e2⟩:=ih (i:=i);exact⟨p2,e1,.no e2⟩
 | @so v a0 σ ρ pa pb pr ra0 r e ih =>
  cases i with
  | zero=>exact⟨pb,fun b=>by have:=e b;omega,.no r⟩
  | succ i =>
   obtain⟨p2,e1,e2⟩:=ih (i:=i)
   exact⟨fun b=>pa b+p2 b,fun b=>by have:=e b;have:=e1 b;dsimp only;omega,.so ra0 e2 fun b=>rfl⟩
theorem SR.drop{i:Nat}(h:SR K H0 σ ρ ts as H):SR K H0 σ (ρ.set i none) ts as H:=by
 obtain⟨⟨p,q,h1,h2,h3,h4⟩,s⟩:=h
 by_cases hi:i<σ.length
 ·obtain⟨p2,e1,e2⟩:=h1.drop (i:=i) (o:=σ[i])
  rw[set_same (List.getElem?_eq_getElem hi)] at e2
  exact SR.of_le (p:=p) (q:=q) (p':=p2) (q':=q) s h3 h4 (fun b=>by have:=e1 b;omega) e2 h2
 ·have:ρ.set i none=ρ:=List.set_eq_of_length_le (by rw[← h1.len];omega)
  rw[this]
  exact⟨⟨p,q,h1,h2,h3,h4⟩,s⟩
theorem RTs.swap{u w:V}{p:Fp}(r:RTs K G H (u::w::ts) (a::b::as) p):RTs K G H (w::u::ts) (b::a::as) p:=by
 cases r with
 | cons r1 rs e1=>cases rs with
  | cons r2 rs e2=>exact .cons r2 (.cons r1 rs fun _=>rfl) (fun c=>by have:=e1 c;have:=e2 c;omega)
theorem RTs.rot{u:V}:∀ {vs:List V} {bs:List TV} {p:Fp},vs.length=bs.length→RTs K G H (vs++u::ts) (bs++a::as) p→RTs K G H (u::(vs++ts)) (a::(bs++as)) p
 | [],[],_,_,r=>r
 | w::vs,b::bs,p,e,r=>by
  cases r with
  | cons r1 rs e1=>exact RTs.swap (.cons r1 (RTs.rot (by simpa using e) rs) e1)
theorem SR.rot{u:V}{vs:List V}{bs:List TV}(e:vs.length=bs.length)(h:SR K H0 σ ρ (vs++u::ts) (bs++a::as) H):SR K H0 σ ρ (u::(vs++ts)) (a::(bs++as)) H :=
 let ⟨⟨p,q,h1,h2,h3,h4⟩,s⟩:=h
 ⟨⟨p,q,h1,h2.rot e,h3,h4⟩,s⟩
theorem SR.swap{u w:V}(h:SR K H0 σ ρ (u::w::ts) (a::b::as) H):SR K H0 σ ρ (w::u::ts) (b::a::as) H :=
 let ⟨⟨p,q,h1,h2,h3,h4⟩,s⟩:=h
 ⟨⟨p,q,h1,h2.swap,h3,h4⟩,s⟩
theorem RTs.back{u:V}:∀ {vs:List V} {bs:List TV} {p:Fp},vs.length=bs.length→RTs K G H (u::(vs++ts)) (a::(bs++as)) p→RTs K G H (vs++u::ts) (bs++a::as) p
 | [],[],_,_,r=>r
 | w::vs,b::bs,p,e,r=>by
  have r':=RTs.swap r
  cases r' with
  | cons r1 rs e1=>exact .cons r1 (RTs.back (by simpa using e) rs) e1
theorem SR.back{u:V}{vs:List V}{bs:List TV}(e:vs.length=bs.length)(h:SR K H0 σ ρ (u::(vs++ts)) (a::(bs++as)) H):SR K H0 σ ρ (vs++u::ts) (bs++a::as) H :=
 let ⟨⟨p,q,h1,h2,h3,h4⟩,s⟩:=h
 ⟨⟨p,q,h1,h2.back e,h3,h4⟩,s⟩
inductive Stos:List TV→List AV→Prop
 | nil:Stos [] []
 | cons {a:TV} {x:AV} {as:List TV} {xs:List AV}:a.sto=some x→Stos as xs→Stos (a::as) (x::xs)
theorem SR.stos:∀ {vs:List V} {bs:List TV} {xs:List AV},Stos bs xs→vs.length=bs.length→∀ {us:List V} {cs:List TV},us.length=cs.length→SR K H0 σ ρ (us++(vs++ts)) (cs++(bs++as)) H→SR K H0 σ ρ (us++(vs++ts)) (cs++(xs.map TV.av++as)) H
 | [],_,_,.nil,_,_,_,_,h=>h
 | [],_,_,.cons _ _,e,_,_,_,_=>by simp at e
 | w::vs,_,_,.nil,e,_,_,_,_=>by simp at e
 | w::vs,b::bs,x::xs,.cons e1 es,e,us,cs,e2,h=>by
  have h1:SR K H0 σ ρ (us++w::(vs++ts)) (cs++b::(bs++as)) H:=h
  have h2:=(h1.rot e2).sto e1
  have h3:SR K H0 σ ρ ((w::us)++(vs++ts)) ((.av x::cs)++(bs++as)) H:=h2
  have h4:=SR.stos (us:=w::us) (cs:=.av x::cs) es (by simpa using e) (by simp[e2]) h3
  exact SR.back e2 h4
theorem RTs.avs{xs:List AV}:∀ {vs:List V} {bs:List AV} {p:Fp},vs.length=bs.length→RTs K G H (vs++ts) (bs.map TV.av++as) p→∃ p1 p2:Fp,(∀ b,p b=p1 b+p2 b)∧RAs K G H vs bs p1∧RTs K G H ts as p2
 | [],[],p,_,r=>⟨fun _=>0,p,fun b=>by simp,.nil fun _=>rfl,r⟩
 | w::vs,b::bs,p,e,r=>by
  cases r with
  | @cons _ _ _ _ pa pb _ r1 rs e1 =>
   obtain⟨p1,p2,e2,e3,e4⟩:=RTs.avs (xs:=xs) (by simpa using e) rs
   cases r1 with
   | av r1=>exact⟨fun c=>pa c+p1 c,p2,fun c=>by have:=e1 c;have:=e2 c;dsimp only;omega,.cons r1 e3 (fun _=>rfl),e4⟩
theorem hid_upd{l:Addr}{o:HO}{p q p' q':Fp}(h:∀ b u,p b+q b=0→H b=some u→p' b+q' b=0∧b≠l):Same (hid H p q) (hid (upd H l o) p' q'):=fun b u e=>by
 unfold hid at e ⊢
 split at e
 ·rename_i z
  obtain⟨h1,h2⟩:=h b u z e
  rw[if_pos h1,upd_ne h2]
  exact e
 ·cases e
theorem SR.new{l:Addr}{vs:List V}{xs:List AV}(h:SR K H0 σ ρ (vs++ts) (xs.map TV.av++as) H)(e:vs.length=xs.length)(hl:H l=none):SR K H0 σ ρ (.ref l::ts) (.av (.own xs)::as) (upd H l (.lst vs)):=by
 obtain⟨⟨p,q,h1,h2,h3,h4⟩,s⟩:=h
 have hL:=SR.lsts h1 h2
 obtain⟨p1,p2,e2,e3,e4⟩:=RTs.avs (xs:=xs) e h2
 have z:∀ b u,H b=some u→b≠l:=fun b u y w=>by subst w;rw[hl] at y;cases y
 have zl:p l+q l=0:=by
  rcases Nat.eq_zero_or_pos (p l+q l) with w|w
  ·exact w
  ·obtain⟨_,w,_⟩:=hL l w;rw[hl] at w;cases w
 have m:Same (hid H p q) (hid (upd H l (.lst vs)) p (fun b=>((if b=l then 1 else 0)+p1 b)+p2 b)):=hid_upd fun b u y w=>by
  have:=z b u w
  refine⟨?_,this⟩
  have:=e2 b
  simp[*] at *
  omega
 have mo:∀ b u,H b=some u→upd H l (.lst vs) b=some u:=fun b u y=>by rw[upd_ne (z b u y)];exact y
 have s2:Same H (upd H l (.lst vs)):=same_new hl
 refine⟨⟨p,fun b=>((if b=l then 1 else 0)+p1 b)+p2 b,h1.mono m (fun b o _=>mo b o),.cons (.av (.own upd_same (e3.mono m fun b o _=>mo b o) fun _=>rfl)) (e4.mono m s2) (fun _=>rfl),fun b=>?_,fun b w=>?_⟩,s.trans s2⟩
 ·have:=e2 b;have:=h3 b
  by_cases hb:b=l
  ·subst hb;simp;omega
  ·simp[hb];omega
 ·by_cases hb:b=l
  ·subst hb;exact s.free hl
  ·refine h4 b ?_;have:=e2 b;simp[hb] at w;omega
end
end VL
end
section
namespace VL
open PySem PySem.Spec L2
variable[Tabs]
mutual
noncomputable def AV.clean:AV→Bool
 | .d x=>noLst x
 | .own xs=>AV.cleans xs
 | .tup xs=>AV.cleans xs
 | .dic kvs=>noLsts (kvs.map Prod.snd)
 | .obj _=>false
noncomputable def AV.cleans:List AV→Bool
 | []=>true
 | x::xs=>x.clean && AV.cleans xs
end
noncomputable def Rs(K:W.Frag)(H H':Hp)(v:V)(a:AV):Prop:=Same H H'∧∃ p:Fp,(∀ b,p b≤1)∧(∀ b,0<p b→H b=none)∧RA K (hid H' p fun _=>0) H' v a p
section
variable{K:W.Frag}{G G' H H' H0:Hp}{σ:St}{ρ:Sl}{ts:List V}{as:List TV}{v x y:V}{a b:TV}
theorem RA.clB{p q p' q':Fp}(hl:∀ b,0<p' b+q' b→∃ o,H b=some o∧Mu o):(∀ {v:V} {a:AV} {r:Fp},RA K (hid H p q) H v a r→a.clean=true→RA K (hid H p' q') H v a r)∧∀ {vs:List V} {xs:List AV} {r:Fp},RAs K (hid H p q) H vs xs r→AV.cleans xs=true→RAs K (hid H p' q') H vs xs r:=by
 refine RA.ind (M:=fun v a r=>a.clean=true→RA K (hid H p' q') H v a r) (N:=fun vs xs r=>AV.cleans xs=true→RAs K (hid H p' q') H vs xs r) (fun r e hc=>.d (Rep.hid hl (by simpa [AV.clean] using hc) (r.same hid_le)) e) (fun h i e hc=>.own h (i (by simpa [AV.clean] using hc)) e) (fun h i hc=>.tup (tup_hid hl (hid_le _ _ h)) (i (by simpa [AV.clean] using hc))) (fun {a o kvs qq} h d e hc=>.dic h ?_ e) (fun _ _ _ hc=>by simp[AV.clean] at hc) (fun e _=>.nil e) fun i j e hc=>?_
 ·have hn:noLsts (kvs.map Prod.snd)=true:=by simpa [AV.clean] using hc
  have key:∀ {κ:Type} {ks:List (κ×V)} {ds:List PyData} {en:κ→PyData},Reps K (hid H p q) (ks.map Prod.snd) ds→kvs=(ks.map fun p=>en p.1).zip ds→Reps K (hid H p' q') (ks.map Prod.snd) ds:=fun r z=>by
   rw[z,List.map_snd_zip (by rw[List.length_map,← r.length,List.length_map];exact Nat.le_refl _)] at hn
   exact Reps.hid hl hn (r.same hid_le)
  rcases d with⟨ks,ds,e1,r,z⟩|⟨ks,ds,e1,r,z⟩|⟨ks,ds,n,e1,r,z⟩
  ·exact .inl ⟨ks,ds,e1,key r z,z⟩
  ·exact .inr (.inl ⟨ks,ds,e1,key (en:=fun k=>PyData.tuple (k.map keyD)) r z,z⟩)
  ·exact .inr (.inr ⟨ks,ds,n,e1,key (en:=fun k=>PyData.tuple [keyD k.1,.tuple (k.2.map keyD)]) r z,z⟩)
 ·simp only[AV.cleans,Bool.and_eq_true] at hc
  exact .cons (i hc.1) (j hc.2) e
theorem RA.cl{p q p' q':Fp}(hl:∀ b,0<p' b+q' b→∃ o,H b=some o∧Mu o){v:V}{a:AV}{r:Fp}(hc:a.clean=true)(h:RA K (hid H p q) H v a r):RA K (hid H p' q') H v a r:=(RA.clB hl).1 h hc
theorem RAs.cl{p q p' q':Fp}(hl:∀ b,0<p' b+q' b→∃ o,H b=some o∧Mu o){vs:List V}{xs:List AV}{r:Fp}(hc:AV.cleans xs=true)(h:RAs K (hid H p q) H vs xs r):RAs K (hid H p' q') H vs xs r:=(RA.clB hl).2 h hc
theorem SR.got{c:AV}(h:SR K H0 σ ρ ts as H)(r:Rs K H H' v c)(hc:c.clean=true):SR K H0 σ ρ (v::ts) (.av c::as) H':=by
 obtain⟨e,p0,n1,n2,ra⟩:=r
 obtain⟨⟨p,q,h1,h2,h3,h4⟩,s⟩:=h
 have hL:=SR.lsts h1 h2
 have z:∀ b,0<p b+q b→p0 b=0:=fun b w=>by
  obtain⟨vs,y,_⟩:=hL b w
  rcases Nat.eq_zero_or_pos (p0 b) with u|u
  ·exact u
  ·rw[n2 b u] at y;cases y
 have m:Same (hid H p q) (hid H' p (fun b=>p0 b+q b)):=fun b o w=>by
  unfold hid at w ⊢
  split at w
  ·rename_i y
   have:p0 b=0:=by
    rcases Nat.eq_zero_or_pos (p0 b) with u|u
    ·exact u
    ·rw[n2 b u] at w;cases w
   rw[if_pos (show p b+(p0 b+q b)=0 by omega)]
   exact e b o w
  ·cases w
 refine⟨⟨p,fun b=>p0 b+q b,h1.mono m (fun b o _=>e b o),.cons (.av (RA.cl (p':=p) (q':=fun b=>p0 b+q b) (fun b w=>?_) hc ra)) (h2.mono m e) (fun _=>rfl),fun b=>?_,fun b w=>?_⟩,s.trans e⟩
 ·rcases Nat.eq_zero_or_pos (p0 b) with u|u
  ·have w':0<p b+(p0 b+q b):=w
   obtain⟨vs,y,mu⟩:=hL b (by omega);exact⟨vs,e _ _ y,mu⟩
  ·exact ra.lst b u
 ·have:=h3 b;have:=n1 b;have:=z b
  show p b+(p0 b+q b)≤1
  omega
 ·rcases Nat.eq_zero_or_pos (p0 b) with u|u
  ·have w':0<p b+(p0 b+q b):=w
   exact h4 b (by omega)
  ·exact s.free (n2 b u)
theorem SR.gotB{c:AV}(h:SR K H0 σ ρ ts as H)(r:Rs K H H' v c):SR K H0 σ ρ (v::ts) (.bor c.data::as) H':=by
 obtain⟨e,p0,_,_,ra⟩:=r
 exact (h.ext e).pushB (ra.rep hid_le)
noncomputable def NoOwn(ρ:Sl):Prop:=∀ a∈ρ,∀ x,a=some x→(∃ d,x=.d d)∨∃ φ,x=.obj φ
theorem RSl.noOwn{p:Fp}(r:RSl K G H σ ρ p)(h:NoOwn ρ):∀ b,p b=0:=by
 induction r with
 | nil e=>exact e
 | no _ ih=>exact ih fun a ha=>h a (.tail _ ha)
 | so ra _ e ih =>
  rcases h _ (.head _) _ rfl with⟨d,rfl⟩|⟨φ,rfl⟩
  ·intro b
   have:=ih (fun a ha=>h a (.tail _ ha)) b
   cases ra with
   | d _ e2=>have:=e b;have:=e2 b;omega
  ·intro b
   have:=ih (fun a ha=>h a (.tail _ ha)) b
   cases ra with
   | obj _ _ e2=>have:=e b;have:=e2 b;omega
theorem RTs.stb{p:Fp}(r:RTs K G H ts as p)(h:Stb as):∀ b,p b=0:=by
 induction r with
 | nil e=>exact e
 | cons r _ e ih =>
  obtain⟨d,rfl⟩:=h _ (.head _)
  intro b
  have:=ih (fun a ha=>h a (.tail _ ha)) b
  cases r with
  | av ra=>cases ra with
   | d _ e2=>have:=e b;have:=e2 b;omega
noncomputable def Sto(ρ:Sl)(a:TV)(a':AV):Prop:=a.sto=some a'∨(∃ c,a=.av c∧a'=.d c.data)∨(NoOwn ρ∧(∃ x,a=.bor x)∧a'=.d a.data)
theorem SR.stoS{a':AV}(h:SR K H0 σ ρ (v::ts) (a::as) H)(hS:Stb as)(e:Sto ρ a a'):SR K H0 σ ρ (v::ts) (.av a'::as) H:=by
 rcases e with e|⟨c,rfl,rfl⟩|⟨n,⟨x,rfl⟩,rfl⟩
 ·exact h.sto e
 ·exact h.frzT
 ·have t:=h.top (a:=.bor x) fun _ z=>nomatch z
  obtain⟨⟨p,q,h1,h2,h3,h4⟩,s⟩:=h.pop
  have z1:=h1.noOwn n
  have z2:=h2.stb hS
  refine⟨⟨p,q,h1,.cons (.av (.d (p:=fun _=>0) (t.same fun b o w=>?_) fun _=>rfl)) h2 (fun b=>by simp),h3,h4⟩,s⟩
  unfold hid
  rw[if_pos (by have:=z1 b;have:=z2 b;omega)]
  exact w
end
noncomputable def ItOk(K:W.Frag)(J:It)(u:V)(z:PyData)(n:Nat)(f:Nat→PyData):Prop :=
 ∀ G H,Same G H→Rep K G u z→(∀ i,i<n→J.go i H∧∀ x H',J.yld i H x H'→Same H H'∧∀ G',Same G G'→(∀ b o,H' b=some o→H b=none→G' b=some o)→Rep K G' x (f i))∧∀ i,n≤i→J.stop i H
noncomputable def TV.frz:TV→TV
 | .av a=>.av (.d a.data)
 | .bor x=>.bor x
 | .raw v=>.raw v
section
variable(K:W.Frag)(E:FK)(X:Exc→Sl→Prop)
noncomputable def Iv(wi:TI)(ρ:Sl)(Q:Nat→(Nat→PyData)→TV→Prop):Prop :=
 ∀ (H0:Hp) (σ:St) (ts:List V) (as:List TV) (H:Hp) (R:It→Hp→Prop),SR K H0 σ ρ ts as H→XOk K E X H0 →
  (∀ n f h,Q n f h→∀ u J H',(∀ v,h≠.raw v)→SR K H0 σ ρ (u::ts) (h::as) H'→ItOk K J u h.data n f→R J H')→wi σ H R
noncomputable def Gv(g:TG)(x:PyData)(ρ:Sl)(P:Sl→Prop):Prop :=
 ∀ (H0:Hp) (σ:St) (ts:List V) (as:List TV) (H:Hp) (v:V) (Qg:St→Hp→Prop),SR K H0 σ ρ (v::ts) (.av (.d x)::as) H→(∀ ρ',P ρ'→∀ σ' H',SR K H0 σ' ρ' ts as H'→Qg σ' H')→g v σ H Qg
end
noncomputable def Wk(ρ ρ':Sl):Prop:=∀ (K:W.Frag) (H0:Hp) (σ:St) (ts:List V) (as:List TV) (H:Hp),SR K H0 σ ρ ts as H→SR K H0 σ ρ' ts as H
section
variable{K:W.Frag}{E:FK}{X:Exc→Sl→Prop}{ρ:Sl}{Q:TV→Prop}{DV:VEnds}{ta tb te:TE}{i j:Int}{n:Nat}{r:R2}{t u:TS}{a b:TV}
theorem ev_imp{Q':TV→Prop}(h:Ev K E X te ρ Q)(m:∀ a,Q a→Q' a):Ev K E X te ρ Q':=fun H0 σ ts as H QV s x q=>h H0 σ ts as H QV s x fun a qa=>q a (m a qa)
theorem SR.var{K:W.Frag}{H0 H:Hp}{σ:St}{ρ:Sl}{ts:List V}{as:List TV}{i:Nat}{a:AV}(s:SR K H0 σ ρ ts as H)(h:ρ[i]?=some (some a)):∃ v,σ[i]?=some (some v)∧(∀ x,a=.d x→SR K H0 σ ρ (v::ts) (.av (.d x)::as) H)∧SR K H0 σ ρ (v::ts) (.bor a.data::as) H:=by
 obtain⟨⟨p,q,h1,h2,h3,h4⟩,e⟩:=s
 obtain⟨p1,p2,v,e1,e2,e3,e4⟩:=h1.frz h fun _ _ _ _=>trivial
 refine⟨v,e2,fun x z=>?_,SR.pushB ⟨⟨p,q,h1,h2,h3,h4⟩,e⟩ (e3.rep hid_le)⟩
 subst z
 cases e3 with
 | d rp z=>exact⟨⟨p,q,h1,.cons (.av (.d (p:=fun _=>0) rp fun _=>rfl)) h2 (fun b=>by simp),h3,h4⟩,e⟩
theorem ev_var{x:PyData}(h:ρ[n]?=some (some (.d x)))(q:Q (.av (.d x))):Ev K E X (tVar n) ρ Q:=fun H0 σ ts as H QV s _ k=>by
 obtain⟨v,e1,e2,_⟩:=s.var h
 exact⟨v,e1,k _ q v H (e2 x rfl)⟩
theorem ev_varB{a:AV}(h:ρ[n]?=some (some a))(q:Q (.bor a.data)):Ev K E X (tVar n) ρ Q:=fun H0 σ ts as H QV s _ k=>by
 obtain⟨v,e1,_,e2⟩:=s.var h
 exact⟨v,e1,k _ q v H e2⟩
theorem ev_int(q:Q (.av (.d (.int i)))):Ev K E X (tC (.int i)) ρ Q:=fun H0 σ ts as H QV s _ k=>k _ q _ H (s.int i)
theorem ev_bl{c:Bool}(q:Q (.av (.d (.bool c)))):Ev K E X (tC (.bl c)) ρ Q:=fun H0 σ ts as H QV s _ k=>k _ q _ H (s.bl c)
theorem ev_str{c:Str}(q:Q (.av (.d (.str c)))):Ev K E X (tC (.str c)) ρ Q:=fun H0 σ ts as H QV s _ k=>k _ q _ H (s.push fun _=>.str c)
theorem ev_ty{c:String}(q:Q (.raw (.ty c))):Ev K E X (tC (.ty c)) ρ Q:=fun H0 σ ts as H QV s _ k=>k _ q _ H s.pushR
theorem ev_ref{c:Addr}(q:Q (.raw (.ref c))):Ev K E X (tC (.ref c)) ρ Q:=fun H0 σ ts as H QV s _ k=>k _ q _ H s.pushR
theorem ev_op(h:Ev K E X ta ρ fun a=>Ev K E X tb ρ fun b=>Op K E X r a b Q):Ev K E X (tOp r ta tb) ρ Q:=fun H0 σ ts as H QV s x k =>
 h H0 σ ts as H _ s x fun a qa v H' s'=>qa H0 σ _ _ H' _ s' x fun b qb w H2 s2=>qb H0 σ ρ ts as H2 v w QV s2 x k
theorem ints2{H0 H:Hp}{σ:St}{ρ:Sl}{ts:List V}{as:List TV}{x y:V}(s:SR K H0 σ ρ (y::x::ts) (.av (.d (.int j))::.av (.d (.int i))::as) H):x=.int i∧y=.int j∧SR K H0 σ ρ ts as H :=
 ⟨s.pop.top_d.int_inv,s.top_d.int_inv,s.pop.pop⟩
theorem op_i0{g:Int→Int→Int}(q:Q (.av (.d (.int (g i j))))):Op K E X (rI0 fun i j=>.int (g i j)) (.av (.d (.int i))) (.av (.d (.int j))) Q:=fun H0 σ ρ ts as H x y QV s _ k=>by
 obtain⟨rfl,rfl,s'⟩:=ints2 s
 exact⟨i,j,rfl,rfl,k _ q _ H (s'.int _)⟩
theorem op_b0{g:Int→Int→Bool}(q:Q (.av (.d (.bool (g i j))))):Op K E X (rI0 fun i j=>.bl (g i j)) (.av (.d (.int i))) (.av (.d (.int j))) Q:=fun H0 σ ρ ts as H x y QV s _ k=>by
 obtain⟨rfl,rfl,s'⟩:=ints2 s
 exact⟨i,j,rfl,rfl,k _ q _ H (s'.bl _)⟩
theorem op_i{C:Int→Int→Prop}{g:Int→Int→Int}(c:C i j)(q:Q (.av (.d (.int (g i j))))):Op K E X (rI C fun i j=>.int (g i j)) (.av (.d (.int i))) (.av (.d (.int j))) Q:=fun H0 σ ρ ts as H x y QV s _ k=>by
 obtain⟨rfl,rfl,s'⟩:=ints2 s
 exact⟨i,j,rfl,rfl,c,k _ q _ H (s'.int _)⟩
theorem Rep.bl_inv{H:Hp}{v:V}{c:Bool}(h:Rep K H v (.bool c)):v=.bl c:=by cases h;rfl
noncomputable def NR(a:TV):Prop:=∀ v,a≠.raw v
theorem NR.av{c:AV}:NR (.av c):=fun _ z=>nomatch z
theorem NR.bor{c:PyData}:NR (.bor c):=fun _ z=>nomatch z
theorem op_eqd{α:Type}[DecidableEq α]{f:α→PyData}{m:Nat}{c d:α}(F:Enc f m)(ha:a.data=f c)(hb:b.data=f d)(q:Q (.av (.d (.bool (decide (c=d))))))(na:NR a:=by first|exact NR.av|exact NR.bor)(nb:NR b:=by first|exact NR.av|exact NR.bor)(hm:m≤32:=by decide):Op K E X (rEqD K) a b Q:=fun H0 σ ρ ts as H x y QV s _ k =>
 rd_eqD F (ha▸s.pop.top na) (hb▸s.top nb) (k _ q _ H (s.pop.pop.bl _)) hm
theorem op_ned{α:Type}[DecidableEq α]{f:α→PyData}{m:Nat}{c d:α}(F:Enc f m)(ha:a.data=f c)(hb:b.data=f d)(q:Q (.av (.d (.bool (!decide (c=d))))))(na:NR a:=by first|exact NR.av|exact NR.bor)(nb:NR b:=by first|exact NR.av|exact NR.bor)(hm:m≤32:=by decide):Op K E X (rNeD K) a b Q:=fun H0 σ ρ ts as H x y QV s _ k =>
 rd_neD F (ha▸s.pop.top na) (hb▸s.top nb) (k _ q _ H (s.pop.pop.bl _)) hm
theorem Reps.atI{H:Hp}{vs:List V}{ds:List PyData}{k:Int}{y:PyData}(h:Reps K H vs ds)(e:atI ds k=some y):∃ v,L2.atI vs k=some v∧Rep K H v y:=by
 unfold L2.atI at e ⊢
 rw[h.length]
 cases z:ixN ds.length k with
 | none=>rw[z] at e;cases e
 | some j =>
  rw[z] at e
  obtain⟨v,e1,e2⟩:=h.get (i:=j) (d:=y) e
  exact⟨v,e1,e2⟩
noncomputable def Item(a:TV)(y:PyData)(c:TV):Prop:=(a=.av (.d a.data)∧c=.av (.d y))∨(noLst y=true∧c=.av (.d y))∨c=.bor y
theorem SR.item{H0 H:Hp}{σ:St}{ρ:Sl}{ts:List V}{as:List TV}{x:V}{a c:TV}{y:PyData}(s:SR K H0 σ ρ (x::ts) (a::as) H)(na:NR a)(it:Item a y c)(P:V→Prop)(h:∀ G,Rep K G x a.data→Same G H→∃ v,P v∧Rep K G v y):∃ v,P v∧SR K H0 σ ρ (v::ts) (c::as) H:=by
 rcases it with⟨e,rfl⟩|⟨hy,rfl⟩|rfl
 ·rw[e] at s
  obtain⟨⟨p,q,h1,h2,h3,h4⟩,e'⟩:=s
  cases h2 with
  | cons r rs z=>cases r with
   | av r=>cases r with
    | d rp w =>
     obtain⟨v,e1,e2⟩:=h _ rp hid_le
     exact⟨v,e1,⟨p,q,h1,.cons (.av (.d e2 w)) rs z,h3,h4⟩,e'⟩
 ·obtain⟨v,e1,e2⟩:=h _ (s.top na) (.refl H)
  exact⟨v,e1,s.pop.pushF hy e2⟩
 ·obtain⟨v,e1,e2⟩:=h _ (s.top na) (.refl H)
  exact⟨v,e1,s.pop.pushB e2⟩
theorem Item.d{x y:PyData}:Item (.av (.d x)) y (.av (.d y)):=.inl ⟨rfl,rfl⟩
theorem Item.flat{y:PyData}(h:noLst y=true):Item a y (.av (.d y)):=.inr (.inl ⟨h,rfl⟩)
theorem Item.br{y:PyData}:Item a y (.bor y):=.inr (.inr rfl)
theorem op_ixL{ds:List PyData}{y:PyData}{c:TV}{k:Int}(ha:a.data=.list ds)(e:atI ds k=some y)(it:Item a y c)(q:Q c)(na:NR a:=by first|exact NR.av|exact NR.bor):Op K E X (rIxL K) a (.av (.d (.int k))) Q:=fun H0 σ ρ ts as H x w QV s _ kk=>by
 have e2:=s.top_d.int_inv
 subst e2
 obtain⟨v,⟨p,xs,e3,e4,e5⟩,s'⟩:=s.pop.item na it (fun v=>∃ p xs,x=.ref p∧SqL K H p xs∧L2.atI xs k=some v) fun G rp sm=>by
  rw[ha] at rp
  obtain⟨p,xs,rfl,h1,h2⟩:=rp.list_inv
  obtain⟨v,h3,h4⟩:=Reps.atI h2 e
  exact⟨v,⟨p,xs,rfl,sm.seq h1,h3⟩,h4⟩
 exact⟨p,xs,k,v,e3,rfl,e4,e5,kk _ q _ H s'⟩
theorem ea_nil{P:List TV→Prop}(q:P []):Ea K E X tNil ρ P:=fun H0 σ ts as H QV s _ k=>k [] q [] H s rfl
theorem ea_cons{A:TA}{P:List TV→Prop}(h:Ev K E X ta ρ fun a=>Ea K E X A ρ fun bs=>P (a::bs)):Ea K E X (tCons ta A) ρ P:=fun H0 σ ts as H QV s x k =>
 h H0 σ ts as H _ s x fun a qa v H' s'=>qa H0 σ _ _ H' _ s' x fun bs qb vs H2 s2 hl=>k (a::bs) qb (v::vs) H2 (s2.rot hl) (by simp[hl])
theorem ev_cb{r:List V→Hp→VK→Prop}{A:TA}(h:Ea K E X A ρ fun bs=>Bi K E X r bs Q):Ev K E X (tCB r A) ρ Q:=fun H0 σ ts as H QV s x k =>
 h H0 σ ts as H _ s x fun bs qb vs H2 s2 hl=>qb H0 σ ρ ts as H2 vs QV s2 hl x k
theorem Stos.len{bs:List TV}{xs:List AV}(h:Stos bs xs):bs.length=xs.length:=by
 induction h with
 | nil=>rfl
 | cons _ _ ih=>simp[ih]
theorem ev_lst{A:TA}(h:Ea K E X A ρ fun bs=>∃ xs,Stos bs xs∧bs.length≤1000∧Q (.av (.own xs))):Ev K E X (tLst A) ρ Q:=fun H0 σ ts as H QV s x k =>
 h H0 σ ts as H _ s x fun bs ⟨xs,hs,hz,q⟩ vs H2 s2 hl=>⟨Nat.le_of_lt (small1000 (by omega)),fun p hp=>k _ q _ _ (SR.new (SR.stos (us:=[]) (cs:=[]) hs hl rfl s2) (by rw[hl,hs.len]) hp)⟩
theorem SR.newT{H0 H:Hp}{σ:St}{ρ:Sl}{ts:List V}{as:List TV}{l:Addr}{vs:List V}{xs:List AV}(h:SR K H0 σ ρ (vs++ts) (xs.map TV.av++as) H)(e:vs.length=xs.length)(hl:H l=none):SR K H0 σ ρ (.ref l::ts) (.av (.d (.tuple (AV.datas xs)))::as) (upd H l (.tup vs)):=by
 obtain⟨⟨p,q,h1,h2,h3,h4⟩,s⟩:=h
 have hL:=SR.lsts h1 h2
 obtain⟨p1,p2,e2,e3,e4⟩:=RTs.avs (xs:=xs) e h2
 have s2:Same H (upd H l (.tup vs)):=same_new hl
 have zl:p l+q l=0:=by
  rcases Nat.eq_zero_or_pos (p l+q l) with w|w
  ·exact w
  ·obtain⟨_,w,_⟩:=hL l w;rw[hl] at w;cases w
 have m:Same (hid H p q) (hid (upd H l (.tup vs)) p p2):=(hid_more (p':=p) (q':=p2) fun b z=>by have:=e2 b;omega).trans (same_hid s2)
 refine⟨⟨p,p2,h1.mono m (fun b o _=>s2 b o),.cons (.av (.d (p:=fun _=>0) (.tup ?_ (e3.frz m fun b o y z=>?_)) fun _=>rfl)) (e4.mono m s2) (fun b=>by simp),fun b=>by have:=e2 b;have:=h3 b;omega,fun b z=>h4 b (by have:=e2 b;omega)⟩,s.trans s2⟩
 ·unfold hid;rw[if_pos (by have:=e2 l;omega)];exact upd_same
 ·unfold hid;rw[if_pos (by have:=e2 b;have:=h3 b;omega)];exact s2 b o z
theorem ev_tup{A:TA}(h:Ea K E X A ρ fun bs=>∃ xs,Stos bs xs∧bs.length≤1000∧Q (.av (.d (.tuple (AV.datas xs))))):Ev K E X (tTup A) ρ Q:=fun H0 σ ts as H QV s x k =>
 h H0 σ ts as H _ s x fun bs ⟨xs,hs,hz,q⟩ vs H2 s2 hl=>⟨Nat.le_of_lt (small1000 (by omega)),fun p hp=>k _ q _ _ (SR.newT (SR.stos (us:=[]) (cs:=[]) hs hl rfl s2) (by rw[hl,hs.len]) hp)⟩
theorem tv_test{P:Bool→Prop}(h:Ev K E X te ρ fun a=>∃ c,a=.av (.d (.bool c))∧P c):Tv K E X (tTest te) ρ P:=fun H0 σ ts as H QV s x k =>
 h H0 σ ts as H _ s x fun a ⟨c,e,p⟩ v H' s'=>by subst e;exact⟨c,Rep.bl_inv s'.top_d,k c p H' s'.pop⟩
theorem tv_b{P:Bool→Prop}(h:Ev K E X te ρ fun a=>∃ c,a=.av (.d (.bool c))∧P c):Tv K E X (tB te) ρ P:=tv_test h
theorem tv_or{ca cb:TT}{P:Bool→Prop}(h:Tv K E X ca ρ fun c=>if c=true then P true else Tv K E X cb ρ P):Tv K E X (tOr ca cb) ρ P:=fun H0 σ ts as H QV s x k =>
 h H0 σ ts as H _ s x fun c qc H' s'=>by
  cases c with
  | true=>rw[if_pos rfl] at qc ⊢;exact k _ qc H' s'
  | false=>rw[if_neg Bool.false_ne_true] at qc ⊢;exact qc H0 σ ts as H' QV s' x k
theorem tv_not{ca:TT}{P:Bool→Prop}(h:Tv K E X ca ρ fun c=>P (!c)):Tv K E X (tNot ca) ρ P:=fun H0 σ ts as H QV s x k =>
 h H0 σ ts as H _ s x fun c qc H' s'=>k _ qc H' s'
theorem tv_all{P:Bool→Prop}(q:P true):Tv K E X tAll ρ P:=fun H0 σ ts as H QV s x k=>k _ q H s
theorem ev_and(h:Ev K E X ta ρ fun a=>∃ c,a=.av (.d (.bool c))∧if c=true then Ev K E X tb ρ Q else Q (.av (.d (.bool false)))):Ev K E X (tAndV ta tb) ρ Q:=fun H0 σ ts as H QV s x k =>
 h H0 σ ts as H _ s x fun a ⟨c,e,p⟩ v H' s'=>by
  subst e
  refine⟨c,Rep.bl_inv s'.top_d,?_⟩
  cases c with
  | true=>rw[if_pos rfl] at p ⊢;exact p H0 σ ts as H' QV s'.pop x k
  | false=>rw[if_neg Bool.false_ne_true] at p ⊢;exact k _ p _ H' (s'.pop.bl false)
theorem ev_not(h:Ev K E X ta ρ fun a=>∃ c,a=.av (.d (.bool c))∧Q (.av (.d (.bool (!c))))):Ev K E X (tNotV ta) ρ Q:=fun H0 σ ts as H QV s x k =>
 h H0 σ ts as H _ s x fun a ⟨c,e,p⟩ v H' s'=>by
  subst e
  exact⟨c,Rep.bl_inv s'.top_d,k _ p _ H' (s'.pop.bl _)⟩
theorem sv_seq(h:Sv K E X t ρ { DV with nx:=fun ρ'=>Sv K E X u ρ' DV }):Sv K E X (tSeq t u) ρ DV:=fun H0 σ ts as H D st s x f =>
 h H0 σ ts as H { D with nx:=u D } st s x ⟨fun ρ' q σ' H' s'=>q H0 σ' ts as H' D st s' x f,f.bk,f.ct,f.rt⟩
theorem sv_next(h:DV.nx ρ):Sv K E X tNext ρ DV:=fun H0 σ ts as H D st s x f=>f.nx ρ h σ H s
theorem sv_ret(h:Ev K E X te ρ DV.rt):Sv K E X (tRet te) ρ DV:=fun H0 σ ts as H D st s x f =>
 h H0 σ ts as H _ s x fun a q v H' s'=>f.rt a q v σ ρ H' s'
theorem sv_if{c:TT}(h:Tv K E X c ρ fun b=>if b=true then Sv K E X t ρ DV else Sv K E X u ρ DV):Sv K E X (tIfS c t u) ρ DV:=fun H0 σ ts as H D st s x f =>
 h H0 σ ts as H _ s x fun c qc H' s'=>by
  cases c with
  | true=>rw[if_pos rfl] at qc ⊢;exact qc H0 σ ts as H' D st s' x f
  | false=>rw[if_neg Bool.false_ne_true] at qc ⊢;exact qc H0 σ ts as H' D st s' x f
theorem sv_asg(h:Ev K E X te ρ fun a=>∃ a',Sto ρ a a'∧DV.nx (ρ.set n (some a')))(hn:n<ρ.length:=by simp):Sv K E X (tAsg te (gName n)) ρ DV:=fun H0 σ ts as H D st s x f =>
 h H0 σ ts as H _ s x fun a ⟨a',e,q⟩ v H' s'=>f.nx _ q _ H' ((s'.stoS st e).store hn)
theorem gv_name{x:PyData}{P:Sl→Prop}(h:P (ρ.set n (some (.d x))))(hn:n<ρ.length:=by simp):Gv K (gName n) x ρ P:=fun H0 σ ts as H v Qg s k=>k _ h _ H (s.store hn)
end
end VL
end
section
namespace VL
open PySem PySem.Spec L2
variable[Tabs]
theorem small6{n:Nat}(h:n≤1000000):n<sizeLine:=Nat.lt_of_le_of_lt h (by decide)
section
variable{K:W.Frag}{G G' H H' H0:Hp}{σ:St}{ρ:Sl}{ts:List V}{as:List TV}{v x y:V}{a b:TV}
theorem RAs.len:∀ {vs:List V} {xs:List AV} {p:Fp},RAs K G H vs xs p→vs.length=xs.length
 | _,_,_,.nil _=>rfl
 | _,_,_,.cons _ rs _=>by simp[RAs.len rs]
theorem RAs.snoc{w:V}{c:AV}{q:Fp}(r:RA K G H w c q):∀ {vs:List V} {xs:List AV} {p:Fp},RAs K G H vs xs p→RAs K G H (vs++[w]) (xs++[c]) (fun b=>p b+q b)
 | _,_,_,.nil e=>.cons r (.nil (p:=fun _=>0) fun _=>rfl) (fun b=>by have:=e b;simp;omega)
 | _,_,_,.cons (p:=p1) (q:=q1) r1 rs e=>.cons r1 (RAs.snoc r rs) (fun b=>by have:=e b;show _+q b=p1 b+(q1 b+q b);omega)
theorem SR.writeE{i:Nat}{xs xs':List AV}{c:AV}(h:SR K H0 σ ρ (v::ts) (.av c::as) H)(hS:Stb as)(hi:ρ[i]?=some (some (.own xs))) :
  ∃ l vs,σ[i]?=some (some (.ref l))∧H l=some (.lst vs)∧vs.length=xs.length∧∀ vs',(∀ G H' p q,(∀ b o,0<q b→H b=some o→H' b=some o)→RAs K G H' vs xs p→RA K G H' v c q→∃ p':Fp,(∀ b,p' b≤p b+q b)∧RAs K G H' vs' xs' p')→SR K H0 σ (ρ.set i (some (.own xs'))) ts as (upd H l (.lst vs')):=by
 obtain⟨⟨p,q,h1,h2,h3,h4⟩,s⟩:=h
 obtain⟨p1,p2,w,e1,e2,e3,e4⟩:=h1.frz hi fun _ _ _ _=>trivial
 cases h2 with
 | @cons _ _ _ _ q1 q2 _ r rs eq =>
  cases r with
  | av r =>
  cases e3 with
  | @own l vs _ p3 _ hl hr ep =>
   refine⟨l,vs,e2,hl,hr.len,fun vs' hw=>?_⟩
   have hpl:p1 l=1+p3 l:=by have:=ep l;simpa using this
   have ne:∀ b u,p b+q b=0→H b=some u→b≠l:=fun b u z _ y=>by subst y;have:=e1 b;omega
   have m0:Same (hid H p q) (hid (upd H l (.lst vs')) p q):=hid_upd fun b u z w=>⟨z,ne b u z w⟩
   have k1:∀ b o,0<p3 b→H b=some o→upd H l (.lst vs') b=some o:=fun b o z w=>by
    rw[upd_ne (fun y=>by subst y;have:=h3 b;have:=e1 b;omega)];exact w
   have k2:∀ b o,0<q b→H b=some o→upd H l (.lst vs') b=some o:=fun b o z w=>by
    rw[upd_ne (fun y=>by subst y;have:=h3 b;have:=e1 b;omega)];exact w
   have k3:∀ b o,0<p2 b→H b=some o→upd H l (.lst vs') b=some o:=fun b o z w=>by
    rw[upd_ne (fun y=>by subst y;have:=h3 b;have:=e1 b;omega)];exact w
   obtain⟨p',l1,l2⟩:=hw _ _ _ _ (fun b o z=>k2 b o (by have:=eq b;omega)) (hr.mono m0 k1) (r.mono m0 fun b o z=>k2 b o (by have:=eq b;omega))
   have z:=e4 (hid (upd H l (.lst vs')) p q) (upd H l (.lst vs')) (.ref l) (.own xs') (fun b=>(if b=l then 1 else 0)+p' b) (fun b=>((if b=l then 1 else 0)+p' b)+p2 b) m0 k3 (.own upd_same l2 fun _=>rfl) (fun _=>rfl)
   rw[set_same e2] at z
   have s2:Same H0 (upd H l (.lst vs')):=s.updF (h4 l (by have:=e1 l;omega))
   refine SR.of_le (p:=p) (q:=q) (p':=fun b=>((if b=l then 1 else 0)+p' b)+p2 b) (q':=q2) s2 h3 h4 (fun b=>?_) z (rs.monoS m0 hS fun b o y=>k2 b o (by have:=eq b;omega))
   have:=l1 b;have:=ep b;have:=e1 b;have:=eq b
   show ((if b=l then 1 else 0)+p' b)+p2 b+q2 b≤p b+q b
   omega
theorem SR.write{i:Nat}{xs xs':List AV}{c:AV}(h:SR K H0 σ ρ (v::ts) (.av c::as) H)(hS:Stb as)(hi:ρ[i]?=some (some (.own xs))) :
  ∃ l vs,σ[i]?=some (some (.ref l))∧H l=some (.lst vs)∧vs.length=xs.length∧∀ vs',(∀ G H p q,RAs K G H vs xs p→RA K G H v c q→∃ p':Fp,(∀ b,p' b≤p b+q b)∧RAs K G H vs' xs' p')→SR K H0 σ (ρ.set i (some (.own xs'))) ts as (upd H l (.lst vs')):=by
 obtain⟨l,vs,e1,e2,e3,e4⟩:=h.writeE (xs':=xs') hS hi
 exact⟨l,vs,e1,e2,e3,fun vs' hw=>e4 vs' fun G H' p q _=>hw G H' p q⟩
theorem SR.snocT{D:Addr}{ys:List AV}{c:AV}(h:SR K H0 σ ρ (v::.ref D::ts) (.av c::.av (.own ys)::as) H)(hS:Stb as):∃ vs,H D=some (.lst vs)∧vs.length=ys.length∧SR K H0 σ ρ (.ref D::ts) (.av (.own (ys++[c]))::as) (upd H D (.lst (vs++[v]))):=by
 obtain⟨⟨p,q,h1,h2,h3,h4⟩,s⟩:=h
 cases h2 with
 | @cons _ _ _ _ qa qb _ r rs eq =>
 cases r with
 | av r =>
 cases rs with
 | @cons _ _ _ _ qc qd _ r2 rs eq2 =>
 cases r2 with
 | av r2 =>
 cases r2 with
 | @own l vs _ p3 _ hl hr ep =>
  refine⟨vs,hl,hr.len,?_⟩
  have hpl:qc D=1+p3 D:=by have:=ep D;simpa using this
  have ne:∀ b u,p b+q b=0→H b=some u→b≠D:=fun b u z _ y=>by subst y;have:=eq b;have:=eq2 b;omega
  have m0:Same (hid H p q) (hid (upd H D (.lst (vs++[v]))) p q):=hid_upd fun b u z w=>⟨z,ne b u z w⟩
  have k1:∀ b o,0<p b+qa b+qd b+p3 b→H b=some o→upd H D (.lst (vs++[v])) b=some o:=fun b o z w=>by
   rw[upd_ne (fun y=>by subst y;have:=h3 b;have:=eq b;have:=eq2 b;omega)];exact w
  have s2:Same H0 (upd H D (.lst (vs++[v]))):=s.updF (h4 D (by have:=eq D;have:=eq2 D;omega))
  refine⟨⟨p,fun b=>((if b=D then 1 else 0)+(p3 b+qa b))+qd b,?_,.cons (.av (.own upd_same (RAs.snoc (r.mono ?_ fun b o z=>k1 b o (by omega)) (hr.mono ?_ fun b o z=>k1 b o (by omega))) fun _=>rfl)) (rs.monoS ?_ hS fun b o z=>k1 b o (by omega)) (fun _=>rfl),?_,?_⟩,s2⟩
  all_goals first
   | (refine h1.mono (m0.trans (hid_more fun b z=>?_)) fun b o z=>k1 b o (by omega))
   | (refine m0.trans (hid_more fun b z=>?_))
   | intro b
  all_goals (try (intro z))
  all_goals (have e5:=eq b;have e6:=eq2 b;have e7:=ep b;have e8:=h3 b)
  all_goals first
   | (show p b+(((if b=D then 1 else 0)+(p3 b+qa b))+qd b)=0;omega)
   | (show p b+(((if b=D then 1 else 0)+(p3 b+qa b))+qd b)≤1;omega)
   | (refine h4 b ?_;have z':0<p b+(((if b=D then 1 else 0)+(p3 b+qa b))+qd b):=z;omega)
end
section
variable{K:W.Frag}{E:FK}{X:Exc→Sl→Prop}{ρ:Sl}{Q:TV→Prop}{DV:VEnds}{ta tb te:TE}{i j:Int}{n:Nat}{r:R2}{t u:TS}{a b:TV}
theorem sv_append{xs:List AV}(hi:ρ[n]?=some (some (.own xs)))(h:Ev K E X te ρ fun a=>∃ a',a.sto=some a'∧xs.length≤1000000∧DV.nx (ρ.set n (some (.own (xs++[a']))))):Sv K E X (tDrop (tBM K "list" rAppend (tVar n) (tCons te tNil))) ρ DV:=fun H0 σ ts as H D st s x f=>by
 obtain⟨l,vs,e1,e2,e3,_⟩:=(s.push (x:=.none) fun _=>.non).write (xs':=xs) st hi
 refine⟨.ref l,e1,rd_tyL e2 (h H0 σ ts as H _ s x fun a ⟨a',e,hz,q⟩ v H' s'=>?_)⟩
 obtain⟨l',vs',e1',e2',e3',e4'⟩:=(s'.sto e).write (xs':=xs++[a']) st hi
 rw[e1] at e1'
 cases e1'
 refine⟨l,vs',v,rfl,rfl,e2',small6 (by omega),f.nx _ q _ _ (e4' _ fun G H p q r1 r2=>⟨_,fun _=>Nat.le_refl _,RAs.snoc r2 r1⟩)⟩
end
end VL
end
section
namespace VL
open PySem PySem.Spec L2
variable[Tabs]
section
variable{K:W.Frag}{G G' H H' H0:Hp}{σ:St}{ρ:Sl}{ts:List V}{as:List TV}{v x y:V}{a b:TV}
theorem SR.turn{J:It}{u:V}{z:PyData}{n i:Nat}{f:Nat→PyData}(s:SR K H0 σ ρ (u::ts) (.av (.d z)::as) H)(ok:ItOk K J u z n f)(hi:i<n):J.go i H∧∀ x H',J.yld i H x H'→SR K H0 σ ρ (x::u::ts) (.av (.d (f i))::.av (.d z)::as) H':=by
 have s0:=s
 obtain⟨⟨p,q,h1,h2,h3,h4⟩,e⟩:=s
 have hL:=SR.lsts h1 h2
 cases h2 with
 | @cons _ _ _ _ q1 q2 _ r rs eq =>
 cases r with
 | av r =>
 cases r with
 | d rp w =>
  obtain⟨g1,_⟩:=ok _ H hid_le rp
  obtain⟨g2,g3⟩:=g1 i hi
  refine⟨g2,fun x H' y=>?_⟩
  obtain⟨e1,e2⟩:=g3 x H' y
  have s1:=s0.ext e1
  obtain⟨⟨p',q',k1,k2,k3,k4⟩,e'⟩:=s1
  have m:Same (hid H p q) (hid H' p q):=same_hid e1
  refine⟨⟨p,q,h1.mono m (fun b o _=>e1 b o),.cons (.av (.d (p:=fun _=>0) (e2 (hid H' p q) m fun b o hb hn=>?_) fun _=>rfl)) (.cons (.av (.d (rp.same m) w)) (rs.mono m e1) eq) (fun b=>by simp),h3,h4⟩,e'⟩
  unfold hid
  rw[if_pos]
  ·exact hb
  ·rcases Nat.eq_zero_or_pos (p b+q b) with c|c
   ·exact c
   ·obtain⟨vs,y,mu⟩:=hL b c;rw[hn] at y;cases y
theorem SR.halt{J:It}{u:V}{z:PyData}{n i:Nat}{f:Nat→PyData}(s:SR K H0 σ ρ (u::ts) (a::as) H)(na:NR a)(ez:a.data=z)(ok:ItOk K J u z n f)(hi:n≤i):J.stop i H:=(ok H H (.refl H) (ez▸s.top na)).2 i hi
end
section
variable{K:W.Frag}{E:FK}{X:Exc→Sl→Prop}{ρ:Sl}{Q:TV→Prop}{DV:VEnds}{ta tb te:TE}{i j:Int}{n:Nat}{r:R2}{t u:TS}{a b:TV}
theorem SR.frzV{H0 H:Hp}{σ:St}{ts:List V}{as:List TV}{v:V}(s:SR K H0 σ ρ (v::ts) (a::as) H):SR K H0 σ ρ (v::ts) (a.frz::as) H:=by
 cases a with
 | av a=>exact s.frzT
 | bor x=>exact s
 | raw v=>exact s
theorem TV.frz_data(a:TV):a.frz.data=a.data:=by cases a<;>rfl
theorem TV.frz_nr(h:NR a):NR a.frz:=by
 cases a with
 | av a=>exact NR.av
 | bor x=>exact NR.bor
 | raw v=>exact absurd rfl (h v)
theorem it_range{lo:Int}{m:Nat}:ItOk K (Itr lo m) .non .none m fun i=>.int (lo+i):=fun G H sm rp =>
 ⟨fun i hi=>⟨hi,fun x H' ⟨e1,e2⟩=>by subst e1 e2;exact⟨.refl _,fun _ _ _=>.int _⟩⟩,fun i hi=>hi⟩
theorem ints_of{H0 H:Hp}{σ:St}{ts:List V}{as:List TV}{vs:List V}(s:SR K H0 σ ρ (vs++ts) ([.av (.d (.int i))]++as) H)(hl:vs.length=1):vs=[.int i]∧SR K H0 σ ρ ts as H:=by
 match vs,hl with
 | [v],_ =>
  have e:=SR.top_d (v:=v) s
  rw[e.int_inv]
  exact⟨rfl,SR.pop (v:=v) s⟩
theorem iv_rng1{A:TA}{P:Nat→(Nat→PyData)→TV→Prop}(h:Ea K E X A ρ fun bs=>∃ j,bs=[.av (.d (.int j))]∧(-(2 ^ 62)≤j∧j<2 ^ 62)∧P j.toNat (fun i=>.int (0+(i:Int))) (.av (.d .none))):Iv K E X (iRng1 A) ρ P:=fun H0 σ ts as H R s x k =>
 h H0 σ ts as H _ s x fun bs ⟨j,e,hj,q⟩ vs H' s' hl=>by
  subst e
  obtain⟨rfl,s2⟩:=ints_of s' hl
  exact⟨j,rfl,hj.1,hj.2,k _ _ _ q .non _ H' (fun _ z=>nomatch z) (s2.push fun _=>.non) it_range⟩
theorem sv_for{wi:TI}{g:TG}{tb:TS}(h:Iv K E X wi ρ fun n f hd=>(∃ z,hd=.av (.d z))∧∃ Iv:Nat→Sl→Prop,Iv 0 ρ∧(∀ i ρ',i<n→Iv i ρ'→Gv K g (f i) ρ' fun ρ''=>Sv K E X tb ρ'' { nx:=Iv (i+1),ct:=Iv (i+1),bk:=DV.nx,rt:=DV.rt })∧∀ ρ',Iv n ρ'→DV.nx ρ'):Sv K E X (tFor wi g tb) ρ DV:=fun H0 σ ts as H D st s x f =>
 h H0 σ ts as H _ s x fun n ft hd ⟨⟨z,ez⟩,Iw,i0,turn,fin⟩ u J H' _ s' ok=>by
  subst ez
  refine⟨fun i m σ' H'=>m=n-i∧i≤n∧∃ ρ',Iw i ρ'∧SR K H0 σ' ρ' (u::ts) (.av (.d z)::as) H',⟨n,by simp,Nat.zero_le _,ρ,i0,s'⟩,?_⟩
  rintro i m σ1 H1 ⟨rfl,hi,ρ1,i1,s1⟩
  by_cases hlt:i<n
  ·obtain⟨g1,g2⟩:=s1.turn ok hlt
   refine .inr ⟨g1,fun σ2 H2=>∃ ρ',Iw (i+1) ρ'∧SR K H0 σ2 ρ' (u::ts) (.av (.d z)::as) H2,fun σ2 H2 p=>⟨n-(i+1),by omega,rfl,hlt,p⟩,fun y H2 hy=>?_⟩
   refine turn i ρ1 hlt i1 H0 σ1 _ _ H2 y _ (g2 y H2 hy) fun ρ2 sv σ3 H3 s3=>?_
   exact sv H0 σ3 _ _ H3 _ (Stb.cons st) s3 x ⟨fun ρ4 q σ4 H4 s4=>⟨ρ4,q,s4⟩,fun ρ4 q σ4 H4 s4=>f.nx ρ4 q σ4 H4 s4.pop,fun ρ4 q σ4 H4 s4=>⟨ρ4,q,s4⟩,fun a q v σ4 ρ4 H4 s4=>f.rt a q v σ4 ρ4 H4 s4.swap.pop⟩
  ·have e:i=n:=by omega
   subst e
   exact .inl ⟨s1.halt NR.av rfl ok (Nat.le_refl _),f.nx _ (fin _ i1) _ _ s1.pop⟩
noncomputable def AV.sh:AV→AV
 | .obj φ=>.obj φ
 | .d x=>.d x
 | .own xs=>.d (.list (AV.datas xs))
 | .tup xs=>.d (.tuple (AV.datas xs))
 | .dic kvs=>.d (.dict kvs)
noncomputable def capV(cap:List (Option Nat))(ρ:Sl):Sl:=cap.map fun o=>match o with
 | none=>none
 | some j=>(ρ[j]?).join.map AV.sh
theorem SR.at{H0 H:Hp}{σ:St}{ts:List V}{as:List TV}{j:Nat}{c:AV}(s:SR K H0 σ ρ ts as H)(h:ρ[j]?=some (some c)):∃ v,σ[j]?=some (some v)∧Rep K H v c.data:=by
 obtain⟨v,e,_,s'⟩:=s.var h
 exact⟨v,e,s'.top (a:=.bor c.data) NR.bor⟩
theorem SR.atO{H0 H:Hp}{σ:St}{ts:List V}{as:List TV}{j:Nat}{φ:V→Hp→Prop}(s:SR K H0 σ ρ ts as H)(h:ρ[j]?=some (some (.obj φ))):∃ v,σ[j]?=some (some v)∧φ v H∧∀ G1 G2:Hp,Same G1 G2→φ v G1→φ v G2:=by
 obtain⟨⟨p,q,h1,h2,h3,h4⟩,e⟩:=s
 obtain⟨p1,p2,v,e1,e2,e3,e4⟩:=h1.frz h fun _ _ _ _=>trivial
 cases e3 with
 | obj f m z=>exact⟨v,e2,m _ _ hid_le f,m⟩
theorem RSl.cap{H0 H G H2:Hp}{σ:St}{ts:List V}{as:List TV}(s:SR K H0 σ ρ ts as H)(m:Same H G):∀ cap:List (Option Nat),RSl K G H2 (capS cap σ) (capV cap ρ) fun _=>0
 | []=>.nil fun _=>rfl
 | none::cap=>.no (RSl.cap s m cap)
 | some j::cap=>by
  cases e:(ρ[j]?).join with
  | none =>
   have:capV (some j::cap) ρ=none::capV cap ρ:=by simp[capV,e]
   rw[this]
   exact .no (RSl.cap s m cap)
  | some c =>
   have ej:ρ[j]?=some (some c):=by
    cases z:ρ[j]? with
    | none=>rw[z] at e;cases e
    | some o=>rw[z] at e;cases o with
     | none=>cases e
     | some c'=>cases e;rfl
   have ec:capV (some j::cap) ρ=some c.sh::capV cap ρ:=by simp[capV,e]
   rw[ec]
   cases c with
   | obj φ =>
    obtain⟨v,e1,e2,e3⟩:=s.atO ej
    have:capS (some j::cap) σ=some v::capS cap σ:=by simp[capS,e1]
    rw[this]
    exact .so (.obj (e3 _ _ m e2) e3 fun _=>rfl) (RSl.cap s m cap) fun _=>rfl
   | _ =>
    obtain⟨v,e1,e2⟩:=s.at ej
    have:capS (some j::cap) σ=some v::capS cap σ:=by simp[capS,e1]
    rw[this]
    exact .so (.d (e2.same m) fun _=>rfl) (RSl.cap s m cap) fun _=>rfl
noncomputable def Got(c:AV)(a:TV):Prop:=(c.clean=true∧a=.av c)∨a=.bor c.data
theorem Got.own{c:AV}(h:c.clean=true):Got c (.av c):=.inl ⟨h,rfl⟩
theorem SR.gotG{H0 H H':Hp}{σ:St}{ts:List V}{as:List TV}{v:V}{c:AV}(h:SR K H0 σ ρ ts as H)(r:Rs K H H' v c)(g:Got c a):SR K H0 σ ρ (v::ts) (a::as) H':=by
 rcases g with⟨hc,rfl⟩|rfl
 ·exact h.got r hc
 ·exact h.gotB r
theorem SR.rs{H0 H:Hp}{σ:St}{ts:List V}{as:List TV}{v:V}{c:AV}(h:SR K H0 σ ρ (v::ts) (.av c::as) H):Rs K H0 H v c:=by
 obtain⟨⟨p,q,h1,h2,h3,h4⟩,e⟩:=h
 cases h2 with
 | @cons _ _ _ _ q1 q2 _ r rs eq =>
 cases r with
 | av r=>exact⟨e,q1,fun b=>by have:=eq b;have:=h3 b;omega,fun b z=>h4 b (by have:=eq b;omega),r.mono (hid_more fun b z=>by have:=eq b;simp;omega) fun _ _ _ z=>z⟩
noncomputable def spV(K:W.Frag)(S:List PyData→AV→Prop)(SX:List PyData→Exc→Prop):Sp:=fun vs H Q E=>TabsIn H∧∃ ds,Reps K H vs ds ∧
 ((∃ c,S ds c∧∀ v H',Rs K H H' v c→Q v H')∨∃ e,SX ds e∧∀ c d H',Same H H'→XRep K H' e c d→E c d H')
theorem SR.reps{H0 H:Hp}{σ:St}:∀ {vs:List V} {bs:List TV} {ts:List V} {as:List TV},(∀ b∈bs,NR b)→vs.length=bs.length→SR K H0 σ ρ (vs++ts) (bs++as) H→Reps K H vs (bs.map TV.data)∧SR K H0 σ ρ ts as H
 | [],[],_,_,_,_,s=>⟨.nil,s⟩
 | v::vs,b::bs,ts,as,hb,e,s=>by
  have s':SR K H0 σ ρ (v::(vs++ts)) (b::(bs++as)) H:=s
  obtain⟨h1,h2⟩:=SR.reps (fun c hc=>hb c (.tail _ hc)) (by simpa using e) s'.pop
  exact⟨.cons (s'.top (hb b (.head _))) h1,h2⟩
inductive NRs:List TV→Prop
 | nil:NRs []
 | cons {b:TV} {bs:List TV}:NR b→NRs bs→NRs (b::bs)
theorem NRs.all{bs:List TV}(h:NRs bs):∀ b∈bs,NR b:=by
 induction h with
 | nil=>exact fun _ z=>nomatch z
 | cons h _ ih=>intro b hb;rcases List.mem_cons.mp hb with e|e;exact e▸h;exact ih b e
noncomputable def dvD:V→Option PyData
 | .int i=>some (.int i)
 | .bl b=>some (.bool b)
 | .str x=>some (.str x)
 | .non=>some .none
 | _=>none
theorem dvD_rep{v:V}{d:PyData}{H:Hp}(h:dvD v=some d):Rep K H v d:=by
 cases v<;>simp[dvD] at h<;>subst h<;>constructor
inductive DvDs:List V→List PyData→Prop
 | nil:DvDs [] []
 | cons {v:V} {d:PyData} {vs:List V} {ds:List PyData}:dvD v=some d→DvDs vs ds→DvDs (v::vs) (d::ds)
theorem DvDs.reps{vs:List V}{ds:List PyData}{H:Hp}(h:DvDs vs ds):Reps K H vs ds:=by
 induction h with
 | nil=>exact .nil
 | cons h _ ih=>exact .cons (dvD_rep h) ih
noncomputable def Res(a:TV)(c:AV):Prop:=a=.av c∨(NR a∧c=.d a.data)
theorem SR.start{N:List Str}{vs:List V}{ds:List PyData}{H:Hp}(h:Reps K H vs ds):SR K H (start N vs) (ds.map (fun d=>some (.d d))++List.replicate (N.length-ds.length) none) [] [] H:=by
 have hl:=h.length
 refine⟨⟨fun _=>0,fun _=>0,?_,.nil fun _=>rfl,fun _=>by simp,fun b z=>by simp at z⟩,.refl H⟩
 have hid0:hid H (fun _=>0) (fun _=>0)=H:=by funext b;simp[hid]
 rw[hid0]
 unfold L2.start
 rw[hl]
 clear hl
 generalize N.length-ds.length=m
 induction h using Reps.rec (motive_1:=fun _ _ _=>True) with
 | nil =>
  simp only[List.map_nil,List.nil_append]
  induction m with
  | zero=>exact .nil fun _=>rfl
  | succ m ih=>exact .no ih
 | cons r rs _ ih=>exact .so (.d r fun _=>rfl) ih fun _=>rfl
 | _=>trivial
theorem body_ok{t:TS}{N:List Str}{S:List PyData→AV→Prop}{SX:List PyData→Exc→Prop}{vs:List V}{H:Hp}{Qv:VK}{E:XK}(sp:spV K S SX vs H Qv E)
  (h:∀ ds,(∀ c,S ds c→Sv K (toF E) NE t (ds.map (fun d=>some (.d d))++List.replicate (N.length-ds.length) none) { nx:=fun _=>c=.d .none,rt:=fun a=>Res a c }) ∧
   ∀ e,SX ds e→Sv K (toF E) (fun e' _=>e'=e) t (ds.map (fun d=>some (.d d))++List.replicate (N.length-ds.length) none) { nx:=fun _=>False,rt:=fun _=>False }) :
  t { nx:=fun _ H'=>Qv .non H',rt:=Qv } (L2.start N vs) H:=by
 obtain⟨tb,ds,rp,q⟩:=sp
 rcases q with⟨c,h1,h2⟩|⟨e,h1,h2⟩
 ·refine (h ds).1 c h1 H _ [] [] H _ Stb.nil (SR.start rp) (XOk.ne tb) ⟨fun ρ q σ' H' s'=>?_,fun _ z=>z.elim,fun _ z=>z.elim,fun a q v σ' ρ' H' s'=>?_⟩
  ·rw[show c=.d .none from q] at h2
   exact h2 _ _ (SR.rs (v:=.non) (s'.push fun _=>.non))
  ·rcases q with rfl|⟨nr,rfl⟩
   ·exact h2 _ _ s'.rs
   ·refine h2 _ _ ⟨s'.same,fun _=>0,fun _=>by simp,fun b z=>by simp at z,.d ?_ fun _=>rfl⟩
    have hid0:hid H' (fun _=>0) (fun _=>0)=H':=by funext b;simp[hid]
    rw[hid0]
    exact s'.top nr
 ·exact (h ds).2 e h1 H _ [] [] H _ Stb.nil (SR.start rp) ⟨fun e' ρ' z c d σ' H2 sm xr=>by subst z;exact h2 c d H2 sm.same xr,tb⟩ ⟨fun _ z=>z.elim,fun _ z=>z.elim,fun _ z=>z.elim,fun _ z=>z.elim⟩
end
end VL
end
section
namespace L2
open PySem PySem.Spec PyProof.Rows
section
variable{X:Cx}{K:W.Frag}
noncomputable def rCatS(K:W.Frag):R2:=fun x y H Q=>∃ l b xs zs,x=.ref l∧y=.ref b∧SqL K H l xs∧SqL K H b zs∧xs.length+zs.length≤sizeLine∧∀ p,H p=none→Q (.ref p) (upd H p (.lst (xs++zs)))
theorem op_catS(hK:X.K=K):OpR X (binaryOp .Add) (rCatS K):=by
 subst hK
 intro pins s σ H x y v u Q I rx ry h
 obtain⟨l,b,xs,zs,rfl,rfl,hx,hy,hz,q⟩:=h
 cases rx
 cases ry
 obtain⟨i1,r1,p1,_⟩:=I.list hx
 obtain⟨i2,r2,p2,_⟩:=I.list hy
 obtain⟨⟨c1,d1,t1,s1⟩,n1,g1,e1,f1,k1⟩:=p1
 obtain⟨⟨c2,d2,t2,s2⟩,n2,g2,e2,f2,k2⟩:=p2
 cases e1;cases f1;cases k1;cases e2;cases f2;cases k2
 have l1:=r1.length
 have l2:=r2.length
 have ea:i1.toArray++i2.toArray=(i1++i2).toArray:=by simp
 refine concat_meets ⟨_,g1,rfl⟩ ⟨_,g2,rfl⟩ noFill_list_add seq_list_add PySem.F.slot_list_add PySem.F.entry_list_add (PySem.F.args_list_add_2 _ _) (list_addW l b i1.toArray i2.toArray n1 n2 _ _ s1 s2 (by rw[List.size_toArray,List.size_toArray];omega)) ⟨g1,g2,?_⟩
 rw[ea]
 exact⟨.ref _,_,I.lnew (t':=s.toks) (r1.append r2) (by rw[List.length_append];exact hz),rfl,q _ I.fresh⟩
section
variable{P:Program}{w:World}{A:Around}{R:Result→Shared→Prop}{J S:Addr}{f1 f2:List Addr}{m:Nat}{Pv:Nat→Value→Prop}{Sv:Nat→Heap→Prop}{dn:List (Str×Value)}
end
end
end L2
end
section
namespace VL
open PySem PySem.Spec L2
variable[Tabs]
theorem len1{α:Type}{vs:List α}(h:vs.length=1):∃ v,vs=[v]:=List.length_eq_one_iff.mp h
theorem len2{α:Type}{vs:List α}(h:vs.length=2):∃ v w,vs=[v,w]:=by
 cases vs with
 | nil=>cases h
 | cons v vs =>
  obtain⟨w,e⟩:=len1 (Nat.succ.inj h)
  exact⟨v,w,by rw[e]⟩
section
variable{K:W.Frag}{E:FK}{X:Exc→Sl→Prop}{ρ:Sl}{Q:TV→Prop}{DV:VEnds}{ta tb te:TE}{i j:Int}{n:Nat}{r:R2}{t u:TS}{a b:TV}{H0 H:Hp}{σ:St}{ts:List V}{as:List TV}{v:V}
theorem one_of{vs:List V}(s:SR K H0 σ ρ (vs++ts) ([a]++as) H)(hl:vs.length=1):∃ v,vs=[v]∧SR K H0 σ ρ (v::ts) (a::as) H:=by
 obtain⟨v,rfl⟩:=len1 hl
 exact⟨v,rfl,s⟩
theorem two_of{vs:List V}(s:SR K H0 σ ρ (vs++ts) ([a,b]++as) H)(hl:vs.length=2):∃ v w,vs=[v,w]∧SR K H0 σ ρ (v::w::ts) (a::b::as) H:=by
 obtain⟨v,w,rfl⟩:=len2 hl
 exact⟨v,w,rfl,s⟩
theorem bi_lenL{ds:List PyData}(ha:a.data=.list ds)(q:Q (.av (.d (.int ds.length))))(na:NR a:=by first|exact NR.av|exact NR.bor):Bi K E X (rLen K) [a] Q:=fun H0 σ ρ ts as H vs QV s hl _ k=>by
 obtain⟨v,rfl,s⟩:=one_of s hl
 exact rd_lenRL (ha▸s.top na) (k _ q _ H (s.pop.int _))
theorem datas_d(ds:List PyData):AV.datas (ds.map AV.d)=ds:=by
 induction ds with
 | nil=>rfl
 | cons d ds ih=>rw[List.map_cons,AV.datas,ih];rfl
theorem SR.items{es:List PyData}(s:SR K H0 σ ρ (v::ts) (a::as) H)(h:a=.av (.d a.data)∨noLsts es=true)(P:List V→Prop)(hx:∀ G,Rep K G v a.data→Same G H→∃ xs,P xs∧Reps K G xs es)(na:NR a):∃ xs,P xs∧xs.length=es.length∧SR K H0 σ ρ (xs++ts) ((es.map AV.d).map TV.av++as) H:=by
 have fin:∀ {p q:Fp} {xs:List V} {es:List PyData},Reps K (hid H p q) xs es→RTs K (hid H p q) H ts as q→RTs K (hid H p q) H (xs++ts) ((es.map AV.d).map TV.av++as) q:=by
  intro p q xs es r rt
  induction r using Reps.rec (motive_1:=fun _ _ _=>True) with
  | nil=>exact rt
  | cons r rs _ ih=>exact .cons (.av (.d (p:=fun _=>0) r fun _=>rfl)) ih fun b=>by simp
  | _=>trivial
 rcases h with e|hn
 ·rw[e] at s
  obtain⟨⟨p,q,h1,h2,h3,h4⟩,e'⟩:=s
  cases h2 with
  | @cons _ _ _ _ q1 q2 _ r rs z=>cases r with
   | av r=>cases r with
    | d rp w =>
     obtain⟨xs,px,this⟩:=hx _ rp hid_le
     have eh:hid H p q=hid H p q2:=hid_eq fun b=>by have:=z b;have:=w b;omega
     rw[eh] at this h1 rs
     exact⟨xs,px,this.length,⟨p,q2,h1,fin this rs,fun b=>by have:=h3 b;have:=z b;omega,fun b y=>h4 b (by have:=z b;omega)⟩,e'⟩
 ·obtain⟨xs,px,this⟩:=hx H (s.top na) (.refl H)
  obtain⟨⟨p,q,h1,h2,h3,h4⟩,e'⟩:=s.pop
  exact⟨xs,px,this.length,⟨p,q,h1,fin (Reps.hid (SR.lsts h1 h2) hn this) h2,h3,h4⟩,e'⟩
noncomputable def Kp(a:TV)(es:List PyData):Prop:=a=.av (.d a.data)∨noLsts es=true
theorem Kp.d{x:PyData}{es:List PyData}:Kp (.av (.d x)) es:=.inl rfl
theorem bi_listL{ds:List PyData}(ha:a.data=.list ds)(h:Kp a ds)(q:Q (.av (.own (ds.map AV.d))))(na:NR a:=by first|exact NR.av|exact NR.bor):Bi K E X (rLst K) [a] Q:=fun H0 σ ρ ts as H vs QV s hl _ k=>by
 obtain⟨v,rfl,s⟩:=one_of s hl
 obtain⟨xs,⟨l,e,h1⟩,h2,s'⟩:=s.items h (fun xs=>∃ l,v=.ref l∧SqL K H l xs) (fun G rp sm=>by
  rw[ha] at rp
  obtain⟨l,xs,e,h3,h4⟩:=rp.list_inv
  exact⟨xs,⟨l,e,sm.seq h3⟩,h4⟩) na
 exact⟨l,xs,by rw[e],.inl h1,fun p hp=>k _ q _ _ (SR.new s' (by rw[List.length_map,h2]) hp)⟩
theorem bi_listT{ds:List PyData}(ha:a.data=.tuple ds)(h:Kp a ds)(q:Q (.av (.own (ds.map AV.d))))(na:NR a:=by first|exact NR.av|exact NR.bor):Bi K E X (rLst K) [a] Q:=fun H0 σ ρ ts as H vs QV s hl _ k=>by
 obtain⟨v,rfl,s⟩:=one_of s hl
 obtain⟨xs,⟨l,e,h1⟩,h2,s'⟩:=s.items h (fun xs=>∃ l,v=.ref l∧SqT K H l xs) (fun G rp sm=>by
  rw[ha] at rp
  obtain⟨l,xs,e,h3,h4⟩:=rp.tuple_inv
  exact⟨xs,⟨l,e,sm.tupS h3⟩,h4⟩) na
 exact⟨l,xs,by rw[e],.inr h1,fun p hp=>k _ q _ _ (SR.new s' (by rw[List.length_map,h2]) hp)⟩
theorem bi_tupL{ds:List PyData}(ha:a.data=.list ds)(h:Kp a.frz ds)(q:Q (.av (.d (.tuple ds))))(na:NR a:=by first|exact NR.av|exact NR.bor):Bi K E X (rTpl K) [a] Q:=fun H0 σ ρ ts as H vs QV s hl _ k=>by
 obtain⟨v,rfl,s⟩:=one_of s hl
 obtain⟨xs,⟨l,e,h1⟩,h2,s'⟩:=s.frzV.items h (fun xs=>∃ l,v=.ref l∧SqL K H l xs) (fun G rp sm=>by
  rw[TV.frz_data,ha] at rp
  obtain⟨l,xs,e,h3,h4⟩:=rp.list_inv
  exact⟨xs,⟨l,e,sm.seq h3⟩,h4⟩) (TV.frz_nr na)
 refine⟨l,xs,by rw[e],.inl ⟨h1,fun p hp=>k _ q _ _ ?_⟩⟩
 have:=SR.newT s' (by rw[List.length_map,h2]) hp
 rw[datas_d] at this
 exact this
theorem bi_isi{c:String}{cc:Bool}(na:NR a)(nd:isD a.data=false)(e:PySem.W.kitOne K (.type (tyD a.data)) (.type c)=some cc)(q:Q (.av (.d (.bool cc)))):Bi K E X (rIsi2 K) [a,.raw (.ty c)] Q:=fun H0 σ ρ ts as H vs QV s hl _ k=>by
 obtain⟨v,w,rfl,s⟩:=two_of s hl
 have:=s.pop.raw
 subst this
 exact rd_isiD (s.top na) nd rfl e (k _ q _ H (s.pop.pop.bl _))
theorem isi_int_int(q:Q (.av (.d (.bool true)))):Bi K E X (rIsi2 K) [.av (.d (.int i)),.raw (.ty "int")] Q:=bi_isi NR.av rfl rfl q
theorem isi_int_bool(q:Q (.av (.d (.bool false)))):Bi K E X (rIsi2 K) [.av (.d (.int i)),.raw (.ty "bool")] Q:=bi_isi NR.av rfl kit_int_bool q
theorem isi_list{ds:List PyData}(ha:a.data=.list ds)(q:Q (.av (.d (.bool true))))(na:NR a:=by first|exact NR.av|exact NR.bor):Bi K E X (rIsi2 K) [a,.raw (.ty "list")] Q:=bi_isi na (by rw[ha];rfl) (by rw[ha];rfl) q
theorem isi_str{c:Str}(ha:a.data=.str c)(q:Q (.av (.d (.bool true))))(na:NR a:=by first|exact NR.av|exact NR.bor):Bi K E X (rIsi2 K) [a,.raw (.ty "str")] Q:=bi_isi na (by rw[ha];rfl) (by rw[ha];rfl) q
theorem op_catL{ds es:List PyData}(ha:a.data=.list ds)(hb:b.data=.list es)(ka:Kp a.frz ds)(kb:Kp b.frz es)(hz:ds.length+es.length≤1000000)(q:Q (.av (.own ((ds++es).map AV.d))))(na:NR a:=by first|exact NR.av|exact NR.bor)(nb:NR b:=by first|exact NR.av|exact NR.bor):Op K E X (rCatS K) a b Q:=fun H0 σ ρ ts as H x y QV s _ k=>by
 obtain⟨ys,⟨l2,e2,h2⟩,hl2,s2⟩:=s.frzV.items kb (fun ys=>∃ l,y=.ref l∧SqL K H l ys) (fun G rp sm=>by
  rw[TV.frz_data,hb] at rp
  obtain⟨l,xs,e,h3,h4⟩:=rp.list_inv
  exact⟨xs,⟨l,e,sm.seq h3⟩,h4⟩) (TV.frz_nr nb)
 have s3:SR K H0 σ ρ (x::(ys++ts)) (a::((es.map AV.d).map TV.av++as)) H:=SR.rot (by rw[List.length_map,List.length_map,hl2]) s2
 obtain⟨xs,⟨l1,e1,h1⟩,hl1,s4⟩:=s3.frzV.items ka (fun ys=>∃ l,x=.ref l∧SqL K H l ys) (fun G rp sm=>by
  rw[TV.frz_data,ha] at rp
  obtain⟨l,xs,e,h3,h4⟩:=rp.list_inv
  exact⟨xs,⟨l,e,sm.seq h3⟩,h4⟩) (TV.frz_nr na)
 refine⟨l1,l2,xs,ys,e1,e2,h1,h2,Nat.le_of_lt (small6 (by omega)),fun p hp=>k _ q _ _ (SR.new (xs:=(ds++es).map AV.d) ?_ (by rw[List.length_append,List.length_map,List.length_append,hl1,hl2]) hp)⟩
 rw[List.append_assoc,List.map_append,List.map_append,List.append_assoc]
 exact s4
noncomputable def cutD(xs:List PyData)(lo hi:Option Int):List PyData:=(xs.drop (HT.sIx xs.length 0 lo)).take (HT.sIx xs.length xs.length hi-HT.sIx xs.length 0 lo)
theorem Reps.drop{G:Hp}:∀ {xs:List V} {ds:List PyData} (m:Nat),Reps K G xs ds→Reps K G (xs.drop m) (ds.drop m)
 | _,_,0,r=>r
 | _,_,_+1,.nil=>.nil
 | _,_,m+1,.cons _ rs=>Reps.drop m rs
theorem Reps.take{G:Hp}:∀ {xs:List V} {ds:List PyData} (m:Nat),Reps K G xs ds→Reps K G (xs.take m) (ds.take m)
 | _,_,0,_=>.nil
 | _,_,_+1,.nil=>.nil
 | _,_,m+1,.cons r rs=>.cons r (Reps.take m rs)
theorem Reps.cut{G:Hp}{xs:List V}{ds:List PyData}(lo hi:Option Int)(r:Reps K G xs ds):Reps K G (cutV xs lo hi) (cutD ds lo hi):=by
 unfold cutV cutD
 rw[r.length]
 exact Reps.take _ (Reps.drop _ r)
noncomputable def To(t:TO)(ρ:Sl)(K:W.Frag)(E:FK)(X:Exc→Sl→Prop)(Q:Option Int→Prop):Prop :=
 ∀ (H0:Hp) (σ:St) (ts:List V) (as:List TV) (H:Hp) (QV:Option Int→Hp→Prop),SR K H0 σ ρ ts as H→XOk K E X H0→(∀ o,Q o→∀ H',SR K H0 σ ρ ts as H'→QV o H')→t σ H QV
theorem to_no{P:Option Int→Prop}(q:P none):To tNoPart ρ K E X P:=fun H0 σ ts as H QV s x k=>k _ q H s
theorem to_part{P:Option Int→Prop}(h:Ev K E X te ρ fun a=>∃ i,a=.av (.d (.int i))∧P (some i)):To (tPart te) ρ K E X P:=fun H0 σ ts as H QV s x k =>
 h H0 σ ts as H _ s x fun a ⟨i,e,q⟩ v H' s'=>by subst e;exact⟨i,s'.top_d.int_inv,k _ q H' s'.pop⟩
end
end VL
end
section
namespace VL
open PySem PySem.Spec L2
variable[Tabs]
section
variable{K:W.Frag}{E:FK}{X:Exc→Sl→Prop}{Q:TV→Prop}{nx bk ct:Sl→Prop}{rt:TV→Prop}{ta tb te:TE}{x:PyData}{r:Sl}{a:AV}
theorem ev_v0(q:Q (.av (.d x))):Ev K E X (tVar 0) (some (.d x)::r) Q:=ev_var rfl q
theorem gv_0{o:Option AV}{P:Sl→Prop}(h:P (some (.d x)::r)):Gv K (gName 0) x (o::r) P:=gv_name (n:=0) h (by simp only[List.length_cons];omega)
theorem wk_0{o:Option AV}:Wk (o::r) (none::r):=fun _ _ _ _ _ _ s=>s.drop (i:=0)
theorem ev_v1{s0:Option AV}(q:Q (.av (.d x))):Ev K E X (tVar 1) (s0::some (.d x)::r) Q:=ev_var rfl q
theorem ev_o1{s0:Option AV}{xs:List AV}(q:Q (.bor (.list (AV.datas xs)))):Ev K E X (tVar 1) (s0::some (.own xs)::r) Q:=ev_varB rfl q
theorem sv_a1{s0:Option AV}{o:Option AV}(h:Ev K E X te (s0::o::r) fun a=>∃ a',Sto (s0::o::r) a a'∧nx (s0::some a'::r)):Sv K E X (tAsg te (gName 1)) (s0::o::r) ⟨nx,rt,bk,ct⟩:=sv_asg (n:=1) h (by simp only[List.length_cons];omega)
theorem sv_ap1{s0:Option AV}{xs:List AV}(h:Ev K E X te (s0::some (.own xs)::r) fun a=>∃ a',a.sto=some a'∧xs.length≤1000000∧nx (s0::some (.own (xs++[a']))::r)):Sv K E X (tDrop (tBM K "list" rAppend (tVar 1) (tCons te tNil))) (s0::some (.own xs)::r) ⟨nx,rt,bk,ct⟩:=sv_append (n:=1) rfl h
theorem ev_v2{s0 s1:Option AV}(q:Q (.av (.d x))):Ev K E X (tVar 2) (s0::s1::some (.d x)::r) Q:=ev_var rfl q
theorem sv_a2{s0 s1:Option AV}{o:Option AV}(h:Ev K E X te (s0::s1::o::r) fun a=>∃ a',Sto (s0::s1::o::r) a a'∧nx (s0::s1::some a'::r)):Sv K E X (tAsg te (gName 2)) (s0::s1::o::r) ⟨nx,rt,bk,ct⟩:=sv_asg (n:=2) h (by simp only[List.length_cons];omega)
theorem gv_2{s0 s1:Option AV}{o:Option AV}{P:Sl→Prop}(h:P (s0::s1::some (.d x)::r)):Gv K (gName 2) x (s0::s1::o::r) P:=gv_name (n:=2) h (by simp only[List.length_cons];omega)
theorem ev_v3{s0 s1 s2:Option AV}(q:Q (.av (.d x))):Ev K E X (tVar 3) (s0::s1::s2::some (.d x)::r) Q:=ev_var rfl q
theorem sv_a3{s0 s1 s2:Option AV}{o:Option AV}(h:Ev K E X te (s0::s1::s2::o::r) fun a=>∃ a',Sto (s0::s1::s2::o::r) a a'∧nx (s0::s1::s2::some a'::r)):Sv K E X (tAsg te (gName 3)) (s0::s1::s2::o::r) ⟨nx,rt,bk,ct⟩:=sv_asg (n:=3) h (by simp only[List.length_cons];omega)
theorem gv_3{s0 s1 s2:Option AV}{o:Option AV}{P:Sl→Prop}(h:P (s0::s1::s2::some (.d x)::r)):Gv K (gName 3) x (s0::s1::s2::o::r) P:=gv_name (n:=3) h (by simp only[List.length_cons];omega)
theorem ev_v4{s0 s1 s2 s3:Option AV}(q:Q (.av (.d x))):Ev K E X (tVar 4) (s0::s1::s2::s3::some (.d x)::r) Q:=ev_var rfl q
theorem ev_o4{s0 s1 s2 s3:Option AV}{xs:List AV}(q:Q (.bor (.list (AV.datas xs)))):Ev K E X (tVar 4) (s0::s1::s2::s3::some (.own xs)::r) Q:=ev_varB rfl q
theorem sv_a4{s0 s1 s2 s3:Option AV}{o:Option AV}(h:Ev K E X te (s0::s1::s2::s3::o::r) fun a=>∃ a',Sto (s0::s1::s2::s3::o::r) a a'∧nx (s0::s1::s2::s3::some a'::r)):Sv K E X (tAsg te (gName 4)) (s0::s1::s2::s3::o::r) ⟨nx,rt,bk,ct⟩:=sv_asg (n:=4) h (by simp only[List.length_cons];omega)
theorem gv_4{s0 s1 s2 s3:Option AV}{o:Option AV}{P:Sl→Prop}(h:P (s0::s1::s2::s3::some (.d x)::r)):Gv K (gName 4) x (s0::s1::s2::s3::o::r) P:=gv_name (n:=4) h (by simp only[List.length_cons];omega)
theorem sv_ap4{s0 s1 s2 s3:Option AV}{xs:List AV}(h:Ev K E X te (s0::s1::s2::s3::some (.own xs)::r) fun a=>∃ a',a.sto=some a'∧xs.length≤1000000∧nx (s0::s1::s2::s3::some (.own (xs++[a']))::r)):Sv K E X (tDrop (tBM K "list" rAppend (tVar 4) (tCons te tNil))) (s0::s1::s2::s3::some (.own xs)::r) ⟨nx,rt,bk,ct⟩:=sv_append (n:=4) rfl h
theorem ev_v5{s0 s1 s2 s3 s4:Option AV}(q:Q (.av (.d x))):Ev K E X (tVar 5) (s0::s1::s2::s3::s4::some (.d x)::r) Q:=ev_var rfl q
theorem sv_a5{s0 s1 s2 s3 s4:Option AV}{o:Option AV}(h:Ev K E X te (s0::s1::s2::s3::s4::o::r) fun a=>∃ a',Sto (s0::s1::s2::s3::s4::o::r) a a'∧nx (s0::s1::s2::s3::s4::some a'::r)):Sv K E X (tAsg te (gName 5)) (s0::s1::s2::s3::s4::o::r) ⟨nx,rt,bk,ct⟩:=sv_asg (n:=5) h (by simp only[List.length_cons];omega)
theorem ev_v6{s0 s1 s2 s3 s4 s5:Option AV}(q:Q (.av (.d x))):Ev K E X (tVar 6) (s0::s1::s2::s3::s4::s5::some (.d x)::r) Q:=ev_var rfl q
theorem sv_a6{s0 s1 s2 s3 s4 s5:Option AV}{o:Option AV}(h:Ev K E X te (s0::s1::s2::s3::s4::s5::o::r) fun a=>∃ a',Sto (s0::s1::s2::s3::s4::s5::o::r) a a'∧nx (s0::s1::s2::s3::s4::s5::some a'::r)):Sv K E X (tAsg te (gName 6)) (s0::s1::s2::s3::s4::s5::o::r) ⟨nx,rt,bk,ct⟩:=sv_asg (n:=6) h (by simp only[List.length_cons];omega)
theorem sv_a7{s0 s1 s2 s3 s4 s5 s6:Option AV}{o:Option AV}(h:Ev K E X te (s0::s1::s2::s3::s4::s5::s6::o::r) fun a=>∃ a',Sto (s0::s1::s2::s3::s4::s5::s6::o::r) a a'∧nx (s0::s1::s2::s3::s4::s5::s6::some a'::r)):Sv K E X (tAsg te (gName 7)) (s0::s1::s2::s3::s4::s5::s6::o::r) ⟨nx,rt,bk,ct⟩:=sv_asg (n:=7) h (by simp only[List.length_cons];omega)
theorem ev_v8{s0 s1 s2 s3 s4 s5 s6 s7:Option AV}(q:Q (.av (.d x))):Ev K E X (tVar 8) (s0::s1::s2::s3::s4::s5::s6::s7::some (.d x)::r) Q:=ev_var rfl q
theorem sv_a8{s0 s1 s2 s3 s4 s5 s6 s7:Option AV}{o:Option AV}(h:Ev K E X te (s0::s1::s2::s3::s4::s5::s6::s7::o::r) fun a=>∃ a',Sto (s0::s1::s2::s3::s4::s5::s6::s7::o::r) a a'∧nx (s0::s1::s2::s3::s4::s5::s6::s7::some a'::r)):Sv K E X (tAsg te (gName 8)) (s0::s1::s2::s3::s4::s5::s6::s7::o::r) ⟨nx,rt,bk,ct⟩:=sv_asg (n:=8) h (by simp only[List.length_cons];omega)
theorem ev_v9{s0 s1 s2 s3 s4 s5 s6 s7 s8:Option AV}(q:Q (.av (.d x))):Ev K E X (tVar 9) (s0::s1::s2::s3::s4::s5::s6::s7::s8::some (.d x)::r) Q:=ev_var rfl q
theorem sv_a9{s0 s1 s2 s3 s4 s5 s6 s7 s8:Option AV}{o:Option AV}(h:Ev K E X te (s0::s1::s2::s3::s4::s5::s6::s7::s8::o::r) fun a=>∃ a',Sto (s0::s1::s2::s3::s4::s5::s6::s7::s8::o::r) a a'∧nx (s0::s1::s2::s3::s4::s5::s6::s7::s8::some a'::r)):Sv K E X (tAsg te (gName 9)) (s0::s1::s2::s3::s4::s5::s6::s7::s8::o::r) ⟨nx,rt,bk,ct⟩:=sv_asg (n:=9) h (by simp only[List.length_cons];omega)
theorem ev_v10{s0 s1 s2 s3 s4 s5 s6 s7 s8 s9:Option AV}(q:Q (.av (.d x))):Ev K E X (tVar 10) (s0::s1::s2::s3::s4::s5::s6::s7::s8::s9::some (.d x)::r) Q:=ev_var rfl q
theorem sv_a10{s0 s1 s2 s3 s4 s5 s6 s7 s8 s9:Option AV}{o:Option AV}(h:Ev K E X te (s0::s1::s2::s3::s4::s5::s6::s7::s8::s9::o::r) fun a=>∃ a',Sto (s0::s1::s2::s3::s4::s5::s6::s7::s8::s9::o::r) a a'∧nx (s0::s1::s2::s3::s4::s5::s6::s7::s8::s9::some a'::r)):Sv K E X (tAsg te (gName 10)) (s0::s1::s2::s3::s4::s5::s6::s7::s8::s9::o::r) ⟨nx,rt,bk,ct⟩:=sv_asg (n:=10) h (by simp only[List.length_cons];omega)
theorem ev_o11{s0 s1 s2 s3 s4 s5 s6 s7 s8 s9 s10:Option AV}{xs:List AV}(q:Q (.bor (.list (AV.datas xs)))):Ev K E X (tVar 11) (s0::s1::s2::s3::s4::s5::s6::s7::s8::s9::s10::some (.own xs)::r) Q:=ev_varB rfl q
theorem sv_a11{s0 s1 s2 s3 s4 s5 s6 s7 s8 s9 s10:Option AV}{o:Option AV}(h:Ev K E X te (s0::s1::s2::s3::s4::s5::s6::s7::s8::s9::s10::o::r) fun a=>∃ a',Sto (s0::s1::s2::s3::s4::s5::s6::s7::s8::s9::s10::o::r) a a'∧nx (s0::s1::s2::s3::s4::s5::s6::s7::s8::s9::s10::some a'::r)):Sv K E X (tAsg te (gName 11)) (s0::s1::s2::s3::s4::s5::s6::s7::s8::s9::s10::o::r) ⟨nx,rt,bk,ct⟩:=sv_asg (n:=11) h (by simp only[List.length_cons];omega)
theorem s_seq{t u:TS}{ρ:Sl}(h:Sv K E X t ρ ⟨fun ρ'=>Sv K E X u ρ' ⟨nx,rt,bk,ct⟩,rt,bk,ct⟩):Sv K E X (tSeq t u) ρ ⟨nx,rt,bk,ct⟩:=sv_seq h
theorem s_next{ρ:Sl}(h:nx ρ):Sv K E X tNext ρ ⟨nx,rt,bk,ct⟩:=sv_next h
theorem s_ret{ρ:Sl}(h:Ev K E X te ρ rt):Sv K E X (tRet te) ρ ⟨nx,rt,bk,ct⟩:=sv_ret h
theorem s_if{c:TT}{t u:TS}{ρ:Sl}(h:Tv K E X c ρ fun b=>if b=true then Sv K E X t ρ ⟨nx,rt,bk,ct⟩ else Sv K E X u ρ ⟨nx,rt,bk,ct⟩):Sv K E X (tIfS c t u) ρ ⟨nx,rt,bk,ct⟩:=sv_if h
end
end VL
end
section
namespace L2
open PySem PySem.Spec PyProof.Rows
section
variable{X:Cx}{K:W.Frag}
noncomputable def rOr(r r':R2):R2:=fun x y H Q=>r x y H Q∨r' x y H Q
noncomputable def rStr2:R2:=fun x y H Q=>∃ i j,x=.str i∧y=.str j∧i.length+j.length≤sizeLine∧Q (.str (i++j)) H
noncomputable def rAddI:R2:=rI0 fun i j=>.int (i+j)
noncomputable def rMulI:R2:=rI CMul fun i j=>.int (i*j)
noncomputable def rCatT0(K:W.Frag):R2:=fun x y H Q=>∃ a b ys,x=.ref a∧y=.ref b∧SqT K H a []∧SqT K H b ys∧Q (.ref b) H
theorem cat_tup0{prog:Program}{w:World}{A:Around}{E:Value→Shared→Prop}{s:Shared}{t b:Addr}{ws:List Value}{Q:Value→Shared→Prop}(ht:IsTup s.heap t ([]:List Value).toArray)(hb:IsTup s.heap b ws.toArray)
  (h1:Q (.ref b) s):wpAny (model prog w) A (binaryOp .Add (.ref t) (.ref b)) Q E s:=by
 obtain⟨⟨cls,dd,data,sl⟩,ho,hc,n,hd⟩:=id ht
 obtain⟨⟨cls2,dd2,data2,sl2⟩,ho2,hc2,n2,hd2⟩:=id hb
 simp only at hc hd hc2 hd2
 subst hc hd hc2 hd2
 exact concat_meets ⟨_,ho,rfl⟩ ⟨_,ho2,rfl⟩ noFill_tuple_add seq_tuple_add PySem.F.slot_tuple_add PySem.F.entry_tuple_add (PySem.F.args_tuple_add_2 _ _)
   (tuple_addW0 t b #[] ws.toArray n n2 dd dd2 sl sl2 rfl) ⟨ho,ho2,h1⟩
theorem op_catT0(hK:X.K=K):OpR X (binaryOp .Add) (rCatT0 K):=by
 subst hK
 intro pins s σ H x y v u Q I rx ry h
 obtain⟨a,b,ys,rfl,rfl,ha,hb,q⟩:=h
 cases rx
 cases ry
 obtain⟨its,r1,p1,_⟩:=I.tuple ha
 obtain⟨its2,r2,p2,_⟩:=I.tuple hb
 cases r1
 exact cat_tup0 p1 p2 ⟨.ref b,H,I,rfl,q⟩
theorem op_plus(hK:X.K=K):OpR X (binaryOp .Add) (rOr rAddI (rOr (rCatS K) (rOr (rCatT K) (rOr rStr2 (rCatT0 K))))):=op_add.or ((op_catS hK).or ((op_catTK hK).or (op_add_str.or (op_catT0 hK))))
theorem op_times:OpR X (binaryOp .Mult) (rOr rMulI rRep):=op_mul.or op_rep
theorem op_equ(hK:X.K=K)(hu:X.A.units+64<cLine):OpR X (compareOp .Eq) (rOr rEq (rEqD K)):=op_eq.or (op_eqDK hK hu)
theorem op_neq(hK:X.K=K)(hu:X.A.units+64<cLine):OpR X (compareOp .NotEq) (rOr rNe (rNeD K)):=op_ne.or (op_neDK hK hu)
theorem ix_any(hK:X.K=K)(hu:X.A.units+64<cLine):IxR X (rOr (rIxL K) (rOr (rIxT K) (rOr rIxS rIxDc))):=by subst hK;exact ix_list.or (ix_tup.or (ix_str.or (ix_dct hu)))
noncomputable def slOr(r r':V→Option Int→Option Int→Hp→VK→Prop):V→Option Int→Option Int→Hp→VK→Prop:=fun x lo hi H Q=>r x lo hi H Q∨r' x lo hi H Q
theorem sl_any(hK:X.K=K):SlR X (slOr (rSlL K) (rSlT K)):=by subst hK;exact sl_list.or sl_tup
noncomputable def cOr(r r':List V→Hp→VK→Prop):List V→Hp→VK→Prop:=fun xs H Q=>r xs H Q∨r' xs H Q
noncomputable def rLenS:List V→Hp→VK→Prop:=fun xs H Q=>∃ z,xs=[.str z]∧z.length≤sizeLine∧Q (.int z.length) H
theorem call_lenAny(hK:X.K=K):CallR X (.builtin "len") (cOr (rLen K) rLenS):=by subst hK;exact call_lenS.or call_len_str
noncomputable def iSeq(K:W.Frag)(tl:TE):TI:=fun σ H R=>tl σ H fun x H1=>∃ a,x=.ref a∧(((∃ xs,SqL K H1 a xs)∧R (Itl K a) H1)∨((∃ xs,SqT K H1 a xs)∧R (Itt K a) H1))
theorem pi_seq{tg l:Expr}{tl:TE}(hK:X.K=K)(hl:PE X l tl):PI X tg l (iSeq K tl):=by
 subst hK
 intro pins s σ H R I h
 refine thn (hl pins s σ H _ I h) fun v s1 ⟨x,H1,I1,r1,q1⟩=>?_
 obtain⟨a,e,q⟩:=q1
 subst e
 cases r1
 have fr:∀ b∈[s1.heap.objs.size],FpOk X pins H1 b:=fun b hb=>by
  rw[List.mem_singleton.mp hb]
  exact I1.fpOk (Nat.le_refl _) (I1.hok.fresh (Nat.le_refl _))
 rcases q with⟨⟨xs,hq⟩,q⟩|⟨⟨xs,hq⟩,q⟩
 ·obtain⟨its,_,p,_⟩:=I1.list hq
  exact wpAny_pyIter_list p.isList ⟨s1.heap.objs.size,_,_,_,H1,rfl,I1.kept (t':=s1.toks) fun b o e=>Heap.get?_push_of_some _ e,turn_list a _,⟨_,Heap.get?_push_size _ rfl,rfl,rfl⟩,fr,q⟩
 ·obtain⟨its,_,p,_⟩:=I1.tuple hq
  exact wpAny_pyIter_tuple (show s1.heap.IsTuple a its.toArray from p) ⟨s1.heap.objs.size,_,_,_,H1,rfl,I1.kept (t':=s1.toks) fun b o e=>Heap.get?_push_of_some _ e,turn_tuple a _,⟨_,Heap.get?_push_size _ rfl,rfl,rfl⟩,fr,q⟩
end
end L2
namespace VL
open PySem PySem.Spec L2
variable[Tabs]
section
variable{K:W.Frag}{E:FK}{X:Exc→Sl→Prop}{ρ:Sl}{Q:TV→Prop}{DV:VEnds}{ta tb te:TE}{i j:Int}{n:Nat}{r r':R2}{t u:TS}{a b:TV}
theorem op_l(h:Op K E X r a b Q):Op K E X (rOr r r') a b Q:=fun H0 σ ρ ts as H x y QV s x' k=>.inl (h H0 σ ρ ts as H x y QV s x' k)
theorem op_r(h:Op K E X r' a b Q):Op K E X (rOr r r') a b Q:=fun H0 σ ρ ts as H x y QV s x' k=>.inr (h H0 σ ρ ts as H x y QV s x' k)
noncomputable abbrev rPlus(K:W.Frag):R2:=rOr rAddI (rOr (rCatS K) (rOr (rCatT K) (rOr rStr2 (rCatT0 K))))
theorem add_i(q:Q (.av (.d (.int (i+j))))):Op K E X (rOr rAddI r') (.av (.d (.int i))) (.av (.d (.int j))) Q:=op_l (op_i0 q)
theorem mul_i(c:CMul i j)(q:Q (.av (.d (.int (i*j))))):Op K E X (rOr rMulI r') (.av (.d (.int i))) (.av (.d (.int j))) Q:=op_l (op_i c q)
theorem eq_d{α:Type}[DecidableEq α]{f:α→PyData}{m:Nat}{c d:α}(F:Enc f m)(ha:a.data=f c)(hb:b.data=f d)(q:Q (.av (.d (.bool (decide (c=d))))))(na:NR a:=by first|exact NR.av|exact NR.bor)(nb:NR b:=by first|exact NR.av|exact NR.bor)(hm:m≤32:=by decide):Op K E X (rOr rEq (rEqD K)) a b Q:=op_r (op_eqd F ha hb q na nb hm)
theorem ne_d{α:Type}[DecidableEq α]{f:α→PyData}{m:Nat}{c d:α}(F:Enc f m)(ha:a.data=f c)(hb:b.data=f d)(q:Q (.av (.d (.bool (!decide (c=d))))))(na:NR a:=by first|exact NR.av|exact NR.bor)(nb:NR b:=by first|exact NR.av|exact NR.bor)(hm:m≤32:=by decide):Op K E X (rOr rNe (rNeD K)) a b Q:=op_r (op_ned F ha hb q na nb hm)
noncomputable abbrev rIdx(K:W.Frag):R2:=rOr (rIxL K) (rOr (rIxT K) (rOr rIxS rIxDc))
theorem ix_L{ds:List PyData}{y:PyData}{c:TV}{k:Int}(ha:a.data=.list ds)(e:atI ds k=some y)(it:Item a y c)(q:Q c)(na:NR a:=by first|exact NR.av|exact NR.bor):Op K E X (rIdx K) a (.av (.d (.int k))) Q:=op_l (op_ixL ha e it q na)
theorem cat_L{ds es:List PyData}(ha:a.data=.list ds)(hb:b.data=.list es)(ka:Kp a.frz ds)(kb:Kp b.frz es)(hz:ds.length+es.length≤1000000)(q:Q (.av (.own ((ds++es).map AV.d))))(na:NR a:=by first|exact NR.av|exact NR.bor)(nb:NR b:=by first|exact NR.av|exact NR.bor):Op K E X (rPlus K) a b Q:=op_r (op_l (op_catL ha hb ka kb hz q na nb))
theorem bi_l{c c':List V→Hp→VK→Prop}{bs:List TV}(h:Bi K E X c bs Q):Bi K E X (cOr c c') bs Q:=fun H0 σ ρ ts as H vs QV s hl x k=>.inl (h H0 σ ρ ts as H vs QV s hl x k)
theorem len_L{ds:List PyData}(ha:a.data=.list ds)(q:Q (.av (.d (.int ds.length))))(na:NR a:=by first|exact NR.av|exact NR.bor):Bi K E X (cOr (rLen K) rLenS) [a] Q:=bi_l (bi_lenL ha q na)
theorem sl_L{tl th:TO}(h:Ev K E X te ρ fun a=>To tl ρ K E X fun lo=>To th ρ K E X fun hi=>∃ ds,a.data=.list ds∧NR a∧Kp a.frz (cutD ds lo hi)∧Q (.av (.own ((cutD ds lo hi).map AV.d)))):Ev K E X (tSl (slOr (rSlL K) (rSlT K)) te tl th) ρ Q:=fun H0 σ ts as H QV s x k=>by
 refine h H0 σ ts as H _ s x fun a qa v H1 s1=>qa H0 σ _ _ H1 _ s1 x fun lo ql H2 s2=>ql H0 σ _ _ H2 _ s2 x fun hi ⟨ds,ha,na,kp,q⟩ H3 s3=>.inl ?_
 obtain⟨xs,⟨l,ys,e,h1,ex⟩,h2,s'⟩:=s3.frzV.items kp (fun xs=>∃ l ys,v=.ref l∧SqL K H3 l ys∧xs=cutV ys lo hi) (fun G rp sm=>by
  rw[TV.frz_data,ha] at rp
  obtain⟨l,xs,e,h3,h4⟩:=rp.list_inv
  exact⟨_,⟨l,xs,e,sm.seq h3,rfl⟩,Reps.cut lo hi h4⟩) (TV.frz_nr na)
 subst ex
 exact⟨l,ys,e,h1,fun p hp=>k _ q _ _ (SR.new s' (by rw[List.length_map,h2]) hp)⟩
theorem it_list{l:Addr}{ds:List PyData}:ItOk K (Itl K l) (.ref l) (.list ds) ds.length fun i=>ds.getD i .none:=by
 intro G H sm rp
 obtain⟨l',ys,e',h3,h4⟩:=rp.list_inv
 cases e'
 have h5:=sm.seq h3
 refine⟨fun i hi=>?_,fun i hi=>⟨ys,h5,by rw[h4.length];exact hi⟩⟩
 obtain⟨w,h6,h7⟩:=h4.get (i:=i) (d:=ds.getD i .none) (by rw[List.getD_eq_getElem?_getD,List.getElem?_eq_getElem hi];rfl)
 refine⟨⟨ys,w,h5,h6⟩,fun x H' ⟨e1,e2⟩=>?_⟩
 subst e1
 have:=e2 ys h5
 rw[h6] at this
 cases this
 exact⟨.refl _,fun G' m _=>h7.same m⟩
theorem it_tuple{l:Addr}{ds:List PyData}:ItOk K (Itt K l) (.ref l) (.tuple ds) ds.length fun i=>ds.getD i .none:=by
 intro G H sm rp
 obtain⟨l',ys,e',h3,h4⟩:=rp.tuple_inv
 cases e'
 have h5:=sm.tupS h3
 refine⟨fun i hi=>?_,fun i hi=>⟨ys,h5,by rw[h4.length];exact hi⟩⟩
 obtain⟨w,h6,h7⟩:=h4.get (i:=i) (d:=ds.getD i .none) (by rw[List.getD_eq_getElem?_getD,List.getElem?_eq_getElem hi];rfl)
 refine⟨⟨ys,w,h5,h6⟩,fun x H' ⟨e1,e2⟩=>?_⟩
 subst e1
 have:=e2 ys h5
 rw[h6] at this
 cases this
 exact⟨.refl _,fun G' m _=>h7.same m⟩
theorem iv_seq{P:Nat→(Nat→PyData)→TV→Prop}(h:Ev K E X te ρ fun a=>∃ ds,(a.data=.list ds∨a.data=.tuple ds)∧NR a∧P ds.length (fun i=>ds.getD i .none) a.frz):Iv K E X (iSeq K te) ρ P:=fun H0 σ ts as H R s x k =>
 h H0 σ ts as H _ s x fun a ⟨ds,e,na,q⟩ v H' s'=>by
  have rp:=s'.top na
  rcases e with e|e
  ·rw[e] at rp
   obtain⟨l,xs,rfl,h1,h2⟩:=rp.list_inv
   refine⟨l,rfl,.inl ⟨⟨xs,h1⟩,k _ _ _ q (.ref l) _ H' (TV.frz_nr na) s'.frzV ?_⟩⟩
   rw[TV.frz_data,e]
   exact it_list
  ·rw[e] at rp
   obtain⟨l,xs,rfl,h1,h2⟩:=rp.tuple_inv
   refine⟨l,rfl,.inr ⟨⟨xs,h1⟩,k _ _ _ q (.ref l) _ H' (TV.frz_nr na) s'.frzV ?_⟩⟩
   rw[TV.frz_data,e]
   exact it_tuple
theorem getD_map{α:Type}{xs:List α}{e:α→PyData}{i:Nat}(hi:i<xs.length):(xs.map e).getD i .none=e xs[i]:=by
 rw[List.getD_eq_getElem?_getD,List.getElem?_map,List.getElem?_eq_getElem hi];rfl
theorem for_L{α:Type}{nx bk ct:Sl→Prop}{rt:TV→Prop}{g:TG}{tb:TS}(h:Ev K E X te ρ fun a=>∃ (xs:List α) (e:α→PyData),(a.data=.list (xs.map e)∨a.data=.tuple (xs.map e))∧(∃ c,a=.av c)∧∃ Iw:Nat→Sl→Prop,Iw 0 ρ∧(∀ i ρ' (hi:i<xs.length),Iw i ρ'→Gv K g (e xs[i]) ρ' fun ρ''=>Sv K E X tb ρ'' ⟨Iw (i+1),rt,nx,Iw (i+1)⟩)∧∀ ρ',Iw xs.length ρ'→nx ρ'):Sv K E X (tFor (iSeq K te) g tb) ρ ⟨nx,rt,bk,ct⟩ :=
 sv_for (iv_seq (ev_imp h (fun a hh=>by
  obtain⟨xs,e,ha,⟨c,hc⟩,Iw,i0,turn,fin⟩:=hh
  exact⟨xs.map e,ha,by subst hc;exact NR.av,⟨c.data,by rw[hc];rfl⟩,Iw,i0,fun i ρ' hi w=>by
  rw[List.length_map] at hi
  show Gv K g ((xs.map e).getD i .none) ρ' _
  rw[getD_map hi]
  exact turn i ρ' hi w,fun ρ' w=>fin ρ' (by rw[List.length_map] at w;exact w)⟩)))
theorem for_R{nx bk ct:Sl→Prop}{rt:TV→Prop}{A:TA}{g:TG}{tb:TS}(h:Ea K E X A ρ fun bs=>∃ j,bs=[.av (.d (.int j))]∧(-(2 ^ 62)≤j∧j<2 ^ 62)∧∃ Iw:Nat→Sl→Prop,Iw 0 ρ∧(∀ (i:Nat) ρ',i<j.toNat→Iw i ρ'→Gv K g (.int i) ρ' fun ρ''=>Sv K E X tb ρ'' ⟨Iw (i+1),rt,nx,Iw (i+1)⟩)∧∀ ρ',Iw j.toNat ρ'→nx ρ'):Sv K E X (tFor (iRng1 A) g tb) ρ ⟨nx,rt,bk,ct⟩ :=
 sv_for (iv_rng1 fun H0 σ ts as H QV s x k=>h H0 σ ts as H QV s x (fun bs hh=>by
  obtain⟨j,e,hj,Iw,i0,turn,fin⟩:=hh
  exact k bs ⟨j,e,hj,⟨_,rfl⟩,Iw,i0,fun i ρ' hi w=>by
  show Gv K g (.int (0+(i:Int))) ρ' _
  rw[Int.zero_add]
  exact turn i ρ' hi w,fin⟩))
theorem datas_mapd{α:Type}(xs:List α)(y:α→PyData):AV.datas (xs.map fun x=>.d (y x))=xs.map y:=by
 rw[AV.datas_map,List.map_map];rfl
theorem cleans_of{xs:List AV}(h:∀ x∈xs,x.clean=true):AV.cleans xs=true:=by
 induction xs with
 | nil=>rfl
 | cons x xs ih=>simp only[AV.cleans,Bool.and_eq_true];exact⟨h x (.head _),ih fun y hy=>h y (.tail _ hy)⟩
theorem clean_map{α:Type}{xs:List α}{y:α→AV}(h:∀ x,(y x).clean=true):(AV.own (xs.map y)).clean=true:=by
 rw[AV.clean]
 exact cleans_of fun z hz=>by obtain⟨x,_,rfl⟩:=List.mem_map.mp hz;exact h x
end
end VL
end
section
namespace L2
open PySem PySem.Spec PyProof.Rows
noncomputable def tIfJ(c:TT)(t u:TS):TS:=tIfS c t u
theorem ps_ifJ{X:Cx}{pos:Pos}{c:Expr}{a b:List Stmt}{tc:TT}{t u:TS}(hc:PT X c tc)(ha:PSs X a t)(hb:PSs X b u):PS X (.If c a b pos) (tIfJ tc t u):=ps_if hc ha hb
end L2
namespace VL
open PySem PySem.Spec PyProof.Rows L2
variable[Tabs]
noncomputable def NX:List PyData→Exc→Prop:=fun _ _=>False
noncomputable def ini(N:List Str)(ds:List PyData):Sl:=ds.map (fun d=>some (.d d))++List.replicate (N.length-ds.length) none
noncomputable abbrev fin(c:AV):VEnds:=⟨fun _=>c=.d .none,fun a=>Res a c,fun _=>False,fun _=>False⟩
section
variable{P:Program}{w:World}{K:W.Frag}{mg:Str→Option Value}{base:Heap}{CX:CXT}{x qual:Str}{st:Stmt}{N ps:List Str}{dvss:List (List V)}{k:Nat}{S:List PyData→AV→Prop}
theorem val_body{t:TS}{vs:List V}{H:Hp}{Qv:VK}{E:XK}(sp:spV K S NX vs H Qv E)(h:∀ ds c,S ds c→Sv K (toF E) NE t (ini N ds) (fin c)):t { nx:=fun _ H'=>Qv .non H',rt:=Qv } (L2.start N vs) H :=
 body_ok (N:=N) sp fun ds=>⟨fun c hc=>h ds c hc,fun e he=>he.elim⟩
theorem spV_len{vs:List V}{H:Hp}{Q:VK}{E:XK}{n:Nat}(h:spV K S NX vs H Q E)(hS:∀ ds c,S ds c→ds.length=n):vs.length=n:=by
 obtain⟨_,ds,r,⟨c,hc,_⟩|⟨e,he,_⟩⟩:=h
 ·rw[r.length];exact hS ds c hc
 ·exact he.elim
theorem val(T:Tx K mg x st ps dvss)(Sc:FnScope N ps (defScope st))(hS:∀ ds c,S ds c→ds.length=ps.length)
  (hbody:∀ (f:Addr) (cdv:Value) (A:Around) (outer:List Env) (s:Shared) (H:Hp) (E:XK),Room k (A.deeper (envOfC x (defScope st) s.heap.objs.size f cdv)) →
   ∃ t,PSs (cxOf CX P w K mg base N x (defScope st) f cdv A outer s H E).nox (defBody st) t∧∀ ds c,S ds c→Sv K (toF E) NE t (ini N ds) (fin c)) :
  ∀ dvs∈dvss,Cal P w K mg base CX (k+1) x ps dvs (spV K S NX) :=
 T.cal (k:=k) Sc (fun vs H Q E h=>spV_len h hS) fun f cdv A outer s H vs Q E hr h =>
  let ⟨t,h1,h2⟩:=hbody f cdv A outer s H E hr
  ⟨t,h1,val_body h h2⟩
end
section
variable{K:W.Frag}{E:FK}{X:Exc→Sl→Prop}{ρ:Sl}{Q:TV→Prop}{DV:VEnds}{ta tb te:TE}{i j:Int}{n:Nat}{r r':R2}{t u:TS}{a b:TV}
theorem v_b{c:Bool}{P:Bool→Prop}(h:P c):∃ c',TV.av (.d (.bool c))=.av (.d (.bool c'))∧P c':=⟨c,rfl,h⟩
theorem v_i{P:Int→Prop}(h:P i):∃ c',TV.av (.d (.int i))=.av (.d (.int c'))∧P c':=⟨i,rfl,h⟩
theorem v_s{c:AV}{P:AV→Prop}(h:P c):∃ a',Sto ρ (.av c) a'∧P a':=⟨c,.inl rfl,h⟩
theorem v_sD{c:AV}{x:PyData}{P:AV→Prop}(e:c.data=x)(h:P (.d x)):∃ a',Sto ρ (.av c) a'∧P a':=⟨.d x,.inr (.inl ⟨c,rfl,by rw[e]⟩),h⟩
theorem v_ap{c:AV}{xs:List AV}{P:AV→Prop}(hz:xs.length≤1000000)(h:P c):∃ a',(TV.av c).sto=some a'∧xs.length≤1000000∧P a':=⟨c,rfl,hz,h⟩
noncomputable def Cl(S:List PyData→AV→Prop)(dds:List PyData)(Q:TV→Prop)(bs:List TV):Prop:=NRs bs∧∃ c a,S (bs.map TV.data++dds) c∧Got c a∧Q a
theorem call_of{S:List PyData→AV→Prop}{bs:List TV}{dds:List PyData}{c:AV}(nr:NRs bs)(hS:S (bs.map TV.data++dds) c)(g:Got c a)(q:Q a):Cl S dds Q bs:=⟨nr,c,a,hS,g,q⟩
theorem ev_cN{S:List PyData→AV→Prop}{SX:List PyData→Exc→Prop}{dvs:List V}{dds:List PyData}{A:TA}{E':XK}(hd:DvDs dvs dds)(h:Ea K E X A ρ (Cl S dds Q)):Ev K E X (tCall (spV K S SX) dvs E' A) ρ Q:=fun H0 σ ts as H QV s x k =>
 h H0 σ ts as H _ s x fun bs ⟨nr,c,a,h1,h2,h3⟩ vs H' s' hl=>by
  obtain⟨rp,s2⟩:=SR.reps nr.all hl s'
  exact⟨x.t.same s2.same,bs.map TV.data++dds,rp.append hd.reps,.inl ⟨c,h1,fun v H2 r=>k a h3 v H2 (s2.gotG r h2)⟩⟩
theorem ev_c0{S:List PyData→AV→Prop}{SX:List PyData→Exc→Prop}{A:TA}{E':XK}(h:Ea K E X A ρ (Cl S [] Q)):Ev K E X (tCall (spV K S SX) [] E' A) ρ Q:=ev_cN .nil h
theorem res_d{x:PyData}{c:AV}(h:c=.d x):Res (.av (.d x)) c:=.inl (by rw[h])
theorem res_o{xs:List AV}{c:AV}(h:c=.own xs):Res (.av (.own xs)) c:=.inl (by rw[h])
theorem sv_imp{nx nx' bk ct:Sl→Prop}{rt:TV→Prop}(h:Sv K E X t ρ ⟨nx',rt,bk,ct⟩)(m:∀ ρ',nx' ρ'→nx ρ'):Sv K E X t ρ ⟨nx,rt,bk,ct⟩:=fun H0 σ ts as H D st s x f=>h H0 σ ts as H D st s x ⟨fun ρ' q=>f.nx ρ' (m ρ' q),f.bk,f.ct,f.rt⟩
theorem s_ifJ{nx bk ct:Sl→Prop}{rt:TV→Prop}{c:TT}(J:Sl→Prop)(hJ:∀ ρ',J ρ'→nx ρ')(h:Tv K E X c ρ fun b=>if b=true then Sv K E X t ρ ⟨J,rt,bk,ct⟩ else Sv K E X u ρ ⟨J,rt,bk,ct⟩):Sv K E X (tIfJ c t u) ρ ⟨nx,rt,bk,ct⟩:=sv_imp (sv_if h) hJ
theorem iteNT{A B:Prop}(h:B):if (!true)=true then A else B:=h
theorem ev_l0(q:Q (.av (.own []))):Ev K E X (tLst tNil) ρ Q:=ev_lst (ea_nil ⟨[],.nil,Nat.zero_le _,q⟩)
end
end VL
end
section
namespace L2
open PySem PySem.Spec PyProof.Rows
structure Exn(tb:Bool)(B:Heap)(l:List Env)(e:Addr)(cls:Value)(d:Option Addr)(h:Heap):Prop where
 stays:B.StaysIn h
 new:B.get? e=none
 frs:h.FunFrames B l
 ob:∃ (oe:Obj) (vs:Array Value),h.get? e=some oe∧oe.cls=cls∧oe.dict=d∧oe.data=.fields vs∧1<vs.size ∧
  (if tb=true then ∃ T oT ts,vs[1]?=some (.ref T)∧B.get? T=none∧T≠e∧h.get? T=some oT∧oT.data=.fields ts∧3<ts.size else vs[1]?=some .none)
section
variable{M:Model}{A:Around}{E:Value→Shared→Prop}{s:Shared}{B:Heap}{env:Env}{outer l:List Env}{L e:Addr}{cls:Value}{d:Option Addr}{tb:Bool}{Q:Unit→Shared→Prop}
end
end L2
end
section
namespace L2
open PySem PySem.Spec PyProof.Rows
noncomputable def CXE(P:Program)(w:World):CXT:=fun outer H s E e s'=>∃ (ea:Addr) (cls:Value) (d:Option Addr) (B:Heap) (H':Hp),
 e=.ref ea∧Exn true B outer ea cls d s'.heap∧s'.os=s.os∧AllBare s'.gens∧Un (frs outer) [] H H' s.heap s'.heap∧HOk P w H' B ∧
  (∀ b o,s.heap.get? b=some o→H b=none→b∉frs outer→B.get? b=some o)∧(∀ b o,s.heap.get? b=some o→b∉frs outer→∃ o',B.get? b=some o')∧E cls d H'
section
variable{X:Cx}{pins:List (Addr×Obj)}{σ:St}{H:Hp}{s:Shared}{F:FK}
end
end L2
end
section
namespace L2
open PySem PySem.Spec PyProof.Rows
section
variable{K:W.Frag}{h:Heap}{C:Addr}{bmB:List Value}{newId:String}
end
section
variable{X:Cx}{F:FK}{C:Addr}{x:Str}{np cpos pos:Pos}{bm bmN:List Value}{B Bn newId nid initId inN:String}
end
end L2
end
section
namespace L2
open PySem PySem.Spec PyProof.Rows
section
variable{X:Cx}{k:Nat}{f:Addr}{fd:FuncData}{ps:List Str}{sp:Sp}{dvs:List V}{ds:List Value}{F:FK}{x:Str}{p pos:Pos}{e:Expr}{es:List Expr}{t:TA}
end
end L2
end
section
namespace L2
open PySem PySem.Spec PyProof.Rows
section
variable{X:Cx}{pins:List (Addr×Obj)}{σ:St}{H:Hp}{s:Shared}{F:FK}
end
section
variable{X:Cx}{i:Nat}{n x:Str}{C:Value}{np hpos pos:Pos}{body suite:List Stmt}{b₀:Stmt}{tb:FK→TS}{th:TS}
end
end L2
end
section
namespace L2
open PySem PySem.Spec PyProof.Rows PySem.W
section
variable{prog:Program}{w:World}{A:Around}{E:Value→Shared→Prop}{s:Shared}{K:W.Frag}{x C:Addr}{ox:Obj}{od:Option Obj}{name:Str}
end
end L2
end
section
namespace VL
open PySem PySem.Spec PyProof.Rows L2
variable[Tabs]
section
variable{K:W.Frag}{F:FK}{X:Exc→Sl→Prop}{ρ:Sl}{Q:TV→Prop}{DV:VEnds}{H0 H:Hp}{σ:L2.St}{ts:List V}{as:List TV}
end
end VL
end
section
namespace L2
open PySem PySem.Spec PyProof.Rows
section
variable{P:Program}{w:World}{K:W.Frag}{mg:Str→Option Value}{base:Heap}
theorem passE{X:Cx}:Passes (CXE P w) X E0:=by
 intro _ _ _ _ _ _ _ h
 obtain⟨_,_,_,_,_,_,_,_,_,_,_,_,_,z⟩:=h
 exact z.elim
end
section
variable{X:Cx}{pins:List (Addr×Obj)}{σ:St}{H:Hp}{s:Shared}
end
end L2
namespace VL
open PySem PySem.Spec PyProof.Rows L2
variable[Tabs]
section
variable{P:Program}{w:World}{K:W.Frag}{mg:Str→Option Value}{base:Heap}{x qual:Str}{st:Stmt}{N ps:List Str}{dvss:List (List V)}{k:Nat}{SX:List PyData→Exc→Prop}
end
section
variable{K:W.Frag}{E:FK}{X:Exc→Sl→Prop}{ρ:Sl}{Q:TV→Prop}{DV:VEnds}{a:TV}
end
end VL
end
section
namespace L2
open PySem PySem.Spec PyProof.Rows
section
variable{prog:Program}{w:World}{A:Around}{E:Value→Shared→Prop}{h:Heap}{g:Array GenState}{d:Drawn}{t:Nat}{os:OsState}
variable{nm q:Str}{C N:Addr}{bs bm bmB:List Value}{hdct:Bool}{sn:List Str}{sub:List Value}{ab:Bool}{col:Option Bool}{dd:Option Addr}{k0 k1 k2 k3 k5:Option Value}{B Bn newId nid initId inN:String}{bmN:List Value}
end
section
variable{prog:Program}{w:World}{A:Around}{E:Value→Shared→Prop}{s:Shared}{env:Env}
variable{nm q:Str}{C N:Addr}{bs bm bmB:List Value}{hdct:Bool}{sn:List Str}{sub:List Value}{ab:Bool}{col:Option Bool}{dd:Option Addr}{k0 k1 k2 k3 k5:Option Value}{B Bn newId nid initId inN:String}{bmN:List Value}
end
end L2
end
section
namespace L2
open PySem PySem.Spec PyProof.Rows PySem.W PySem.Builtin.ObjectAttr
section
variable{prog:Program}{w:World}{A:Around}{E:Value→Shared→Prop}{s:Shared}{K:W.Frag}{x C:Addr}{ox:Obj}{od:Option Obj}{name:Str}{R:Result→Shared→Prop}
end
end L2
end
section
namespace L2
open PySem PySem.Spec PyProof.Rows PySem.W
section
variable{X:Cx}{pins:List (Addr×Obj)}{σ:St}{H:Hp}{s:Shared}{o value:Expr}{f:Str}{pos pos':Pos}{ta tv:TE}{C:Addr}
end
end L2
end
section
namespace L2
open PySem PySem.Spec PyProof.Rows
section
variable{X:Cx}{pins:List (Addr×Obj)}{σ:St}{H:Hp}{s:Shared}{F:FK}
end
end L2
end
section
namespace L2
open PySem PySem.Spec PyProof.Rows
section
variable{P:Program}{w:World}{K:W.Frag}{mg:Str→Option Value}{base:Heap}{CX:CXT}{qual p1 p2 k1 k2 self:Str}{st:Stmt}{f C:Addr}{fd:FuncData}{k:Nat}{dV:Value}
end
end L2
namespace VL
open PySem PySem.Spec PyProof.Rows L2
variable[Tabs]
section
variable{K:W.Frag}{F:FK}{X:Exc→Sl→Prop}{ρ:Sl}{Q:TV→Prop}{DV:VEnds}
end
end VL
end
section
namespace VL
open PySem PySem.Spec L2
variable[Tabs]
section
variable{K:W.Frag}{G G' H H' H0:Hp}{σ:St}{ρ:Sl}{ts:List V}{as:List TV}{v x y:V}{a b:TV}
theorem RAs.pick{c:AV}:∀ {vs:List V} {xs:List AV} {p:Fp} {j:Nat},RAs K G H vs xs p→xs[j]?=some c →
  ∃ (p1 p2:Fp) (w:V),(∀ b,p b=p1 b+p2 b)∧vs[j]?=some w∧RA K G H w c p1∧∀ (G' H':Hp) (c':AV) (p1':Fp),Same G G'→(∀ b o,0<p2 b→H b=some o→H' b=some o)→RA K G' H' w c' p1'→RAs K G' H' vs (xs.set j c') (fun b=>p1' b+p2 b)
 | _,_,_,_,.nil _,e=>by simp at e
 | _,_,_,0,.cons (p:=p1) (q:=q1) (v:=v0) r rs e0,e=>by
  simp at e
  subst e
  exact⟨p1,q1,v0,e0,rfl,r,fun G' H' c' p1' m k r'=>.cons r' (rs.mono m k) fun _=>rfl⟩
 | _,_,_,j+1,.cons (p:=p1) (q:=q1) r rs e0,e=>by
  obtain⟨pa,pb,w,h1,h2,h3,h4⟩:=RAs.pick (j:=j) rs (by simpa using e)
  refine⟨pa,fun b=>p1 b+pb b,w,fun b=>by have:=e0 b;have:=h1 b;dsimp only;omega,by simpa using h2,h3,fun G' H' c' p1' m k r'=>?_⟩
  exact .cons (r.mono m fun b o z=>k b o (by dsimp only;omega)) (h4 G' H' c' p1' m (fun b o z=>k b o (by dsimp only;omega)) r') fun b=>by dsimp only;omega
theorem SR.write2{i j:Nat}{xs ys ys':List AV}{c:AV}(h:SR K H0 σ ρ (v::ts) (.av c::as) H)(hS:Stb as)(hi:ρ[i]?=some (some (.own xs)))(hj:xs[j]?=some (.own ys)) :
  ∃ l m us vs,σ[i]?=some (some (.ref l))∧H l=some (.lst us)∧us.length=xs.length∧us[j]?=some (.ref m)∧H m=some (.lst vs)∧vs.length=ys.length∧∀ vs',(∀ G H p q,RAs K G H vs ys p→RA K G H v c q→∃ p':Fp,(∀ b,p' b≤p b+q b)∧RAs K G H vs' ys' p')→SR K H0 σ (ρ.set i (some (.own (xs.set j (.own ys'))))) ts as (upd H m (.lst vs')):=by
 obtain⟨⟨p,q,h1,h2,h3,h4⟩,s⟩:=h
 obtain⟨p1,p2,w,e1,e2,e3,e4⟩:=h1.frz hi fun _ _ _ _=>trivial
 cases h2 with
 | @cons _ _ _ _ q1 q2 _ r rs eq =>
  cases r with
  | av r =>
  cases e3 with
  | @own l us _ p3 _ hl hr ep =>
   obtain⟨pa,pb,u,f1,f2,f3,f4⟩:=hr.pick hj
   cases f3 with
   | @own m vs _ p5 _ hm hy em =>
   refine⟨l,m,us,vs,e2,hl,hr.len,f2,hm,hy.len,fun vs' hw=>?_⟩
   have hpl:p1 l=1+p3 l:=by have:=ep l;simpa using this
   have hpm:pa m=1+p5 m:=by have:=em m;simpa using this
   have tot:∀ b,p1 b=(if b=l then 1 else 0)+(pa b+pb b):=fun b=>by rw[ep b,f1 b]
   have lm:l≠m:=fun y=>by subst y;have a1:=tot l;rw[if_pos rfl] at a1;have:=e1 l;have:=h3 l;omega
   have ne:∀ b u,p b+q b=0→H b=some u→b≠m:=fun b u z _ y=>by subst y;have:=e1 b;have:=tot b;omega
   have m0:Same (hid H p q) (hid (upd H m (.lst vs')) p q):=hid_upd fun b u z w=>⟨z,ne b u z w⟩
   have k0:∀ b o,0<(if b=l then 1 else 0)+pb b+p5 b+p2 b+q b→H b=some o→upd H m (.lst vs') b=some o:=fun b o z w=>by
    rw[upd_ne (fun y=>by subst y;have:=h3 b;have:=e1 b;have:=tot b;simp[lm.symm] at z;omega)];exact w
   obtain⟨p',l1,l2⟩:=hw _ _ _ _ (hy.mono m0 fun b o z=>k0 b o (by omega)) (r.mono m0 fun b o z=>k0 b o (by have:=eq b;omega))
   have in1:=f4 (hid (upd H m (.lst vs')) p q) (upd H m (.lst vs')) (.own ys') (fun b=>(if b=m then 1 else 0)+p' b) m0 (fun b o z=>k0 b o (by omega)) (.own upd_same l2 fun _=>rfl)
   have z:=e4 (hid (upd H m (.lst vs')) p q) (upd H m (.lst vs')) (.ref l) (.own (xs.set j (.own ys'))) (fun b=>(if b=l then 1 else 0)+(((if b=m then 1 else 0)+p' b)+pb b)) (fun b=>((if b=l then 1 else 0)+(((if b=m then 1 else 0)+p' b)+pb b))+p2 b) m0 (fun b o z=>k0 b o (by omega)) (.own (k0 l _ (by simp;omega) hl) in1 fun _=>rfl) (fun _=>rfl)
   rw[set_same e2] at z
   have s2:Same H0 (upd H m (.lst vs')):=s.updF (h4 m (by have:=e1 m;have:=tot m;omega))
   refine SR.of_le (p:=p) (q:=q) (p':=fun b=>((if b=l then 1 else 0)+(((if b=m then 1 else 0)+p' b)+pb b))+p2 b) (q':=q2) s2 h3 h4 (fun b=>?_) z (rs.monoS m0 hS fun b o y=>k0 b o (by have:=eq b;omega))
   have:=l1 b;have:=em b;have:=tot b;have:=e1 b;have:=eq b
   show ((if b=l then 1 else 0)+(((if b=m then 1 else 0)+p' b)+pb b))+p2 b+q2 b≤p b+q b
   omega
end
section
variable{K:W.Frag}{E:FK}{X:Exc→Sl→Prop}{ρ:Sl}{Q:TV→Prop}{DV:VEnds}{ta tb te ti tj:TE}{i j:Int}{n:Nat}{r r':R2}{t u:TS}{a b:TV}
theorem in_d{α:Type}[DecidableEq α]{f:α→PyData}{m:Nat}{c:α}{xs:List α}(F:Enc f m)(ha:a.data=f c)(hb:b.data=.list (xs.map f)∨b.data=.tuple (xs.map f))(q:Q (.av (.d (.bool (decide (c∈xs))))))(na:NR a:=by first|exact NR.av|exact NR.bor)(nb:NR b:=by first|exact NR.av|exact NR.bor)(hm:m≤32:=by decide):Op K E X (rInA K false) a b Q:=fun H0 σ ρ ts as H x y QV s _ k=>by
 have h1:=s.pop.top na
 have h2:=s.top nb
 rw[ha] at h1
 refine .inl ⟨f c,xs.map f,h1,(show _∨_ by rcases hb with e|e;exact .inl (e▸h2);exact .inr (e▸h2)),F.lay c,lay_all F xs,Nat.le_trans (F.dep c) hm,?_⟩
 rw[if_neg Bool.false_ne_true,anyD_enc F]
 exact k _ q _ H (s.pop.pop.bl _)
theorem nin_d{α:Type}[DecidableEq α]{f:α→PyData}{m:Nat}{c:α}{xs:List α}(F:Enc f m)(ha:a.data=f c)(hb:b.data=.list (xs.map f)∨b.data=.tuple (xs.map f))(q:Q (.av (.d (.bool (!decide (c∈xs))))))(na:NR a:=by first|exact NR.av|exact NR.bor)(nb:NR b:=by first|exact NR.av|exact NR.bor)(hm:m≤32:=by decide):Op K E X (rInA K true) a b Q:=fun H0 σ ρ ts as H x y QV s _ k=>by
 have h1:=s.pop.top na
 have h2:=s.top nb
 rw[ha] at h1
 refine .inl ⟨f c,xs.map f,h1,(show _∨_ by rcases hb with e|e;exact .inl (e▸h2);exact .inr (e▸h2)),F.lay c,lay_all F xs,Nat.le_trans (F.dep c) hm,?_⟩
 rw[if_pos rfl,anyD_enc F]
 exact k _ q _ H (s.pop.pop.bl _)
end
end VL
end
section
namespace VL
open PySem PySem.Spec L2
variable[Tabs]
section
variable{α:Type}[DecidableEq α]
end
section
variable{K:W.Frag}{H:Hp}{α κ:Type}[DecidableEq α][DecidableEq κ]{g:α→κ}{en:κ→PyData}
end
section
variable{K:W.Frag}{G G' H H' H0:Hp}{σ:St}{ρ:Sl}{ts:List V}{as:List TV}{v x y:V}{a b:TV}
end
section
variable{K:W.Frag}{E:FK}{X:Exc→Sl→Prop}{ρ:Sl}{Q:TV→Prop}{DV:VEnds}{ta tb te ti tj:TE}{i j:Int}{n:Nat}{r r':R2}{t u:TS}{a b:TV}
end
end VL
end
section
namespace VL
open PySem PySem.Spec PyProof.Rows L2
variable[Tabs]
noncomputable def Z0:Fp:=fun _=>0
noncomputable def spR(K:W.Frag)(Pre:List AV→Prop)(Post:List AV→AV→Prop)(PX:List AV→Exc→Prop):Sp:=fun vs H Q E=>TabsIn H ∧
 ∃ as,RAs K H H vs as Z0∧Pre as∧(∀ c,Post as c→∀ v H',Rs K H H' v c→Q v H')∧∀ e,PX as e→∀ c d H',Same H H'→XRep K H' e c d→E c d H'
noncomputable def NP:List AV→Exc→Prop:=fun _ _=>False
noncomputable abbrev inA(N:List Str)(as:List AV):Sl:=as.map some++List.replicate (N.length-as.length) none
noncomputable abbrev finR(Post:AV→Prop):VEnds:=⟨fun _=>Post (.d .none),fun a=>∃ c,Res a c∧Post c,fun _=>False,fun _=>False⟩
section
variable{K:W.Frag}{H H0:Hp}{σ:L2.St}{ρ:Sl}{ts:List V}{as:List TV}
theorem SR.startA{N:List Str}{vs:List V}{cs:List AV}(h:RAs K H H vs cs Z0):SR K H (L2.start N vs) (inA N cs) [] [] H:=by
 have hl:=h.len
 have hid0:hid H (fun _=>0) (fun _=>0)=H:=by funext b;simp[hid]
 refine⟨⟨fun _=>0,fun _=>0,?_,.nil fun _=>rfl,fun _=>by simp,fun b z=>by simp at z⟩,.refl H⟩
 rw[hid0]
 unfold L2.start inA
 rw[hl]
 clear hl
 generalize N.length-cs.length=m
 have gen:∀ {vs:List V} {cs:List AV} {p:Fp},RAs K H H vs cs p→(∀ b,p b=0)→RSl K H H (vs.map some++List.replicate m none) (cs.map some++List.replicate m none) fun _=>0:=by
  intro vs cs
  induction vs generalizing cs with
  | nil =>
   intro p r _
   cases r
   simp only[List.map_nil,List.nil_append]
   clear h
   induction m with
   | zero=>exact .nil fun _=>rfl
   | succ m ih=>exact .no ih
  | cons v vs ih =>
   intro p r z
   cases r with
   | @cons _ _ _ _ p1 q1 _ r rs e =>
    have z1:∀ b,p1 b=0:=fun b=>by have:=e b;have:=z b;omega
    have z2:∀ b,q1 b=0:=fun b=>by have:=e b;have:=z b;omega
    exact .so r (ih rs z2) fun b=>by simp[z1 b]
 exact gen h fun _=>rfl
theorem bodyR{t:TS}{N:List Str}{Pre:List AV→Prop}{Post:List AV→AV→Prop}{PX:List AV→Exc→Prop}{vs:List V}{Qv:VK}{E:XK}(sp:spR K Pre Post PX vs H Qv E)
  (h:∀ cs,Pre cs→Sv K (toF E) (fun e _=>PX cs e) t (inA N cs) (finR (Post cs))):t { nx:=fun _ H'=>Qv .non H',rt:=Qv } (L2.start N vs) H:=by
 obtain⟨tb,cs,rp,pre,q,qx⟩:=sp
 refine h cs pre H _ [] [] H _ Stb.nil (SR.startA rp) ⟨fun e ρ z c d σ H' s xr=>qx e z c d H' s.same xr,tb⟩ ⟨fun ρ z σ' H' s'=>?_,fun _ z=>z.elim,fun _ z=>z.elim,fun a ⟨c,r,z⟩ v σ' ρ' H' s'=>?_⟩
 ·exact q _ z _ _ (SR.rs (v:=.non) (s'.push fun _=>.non))
 ·rcases r with rfl|⟨nr,rfl⟩
  ·exact q _ z _ _ s'.rs
  ·refine q _ z _ _ ⟨s'.same,fun _=>0,fun _=>by simp,fun b z=>by simp at z,.d ?_ fun _=>rfl⟩
   have hid0:hid H' (fun _=>0) (fun _=>0)=H':=by funext b;simp[hid]
   rw[hid0]
   exact s'.top nr
inductive Sh:TV→AV→Prop
 | d {b:TV} {x:PyData}:NR b→b.data=x→Sh b (.d x)
 | o {φ:V→Hp→Prop}:Sh (.av (.obj φ)) (.obj φ)
inductive Shs:List TV→List AV→Prop
 | nil:Shs [] []
 | cons {b:TV} {c:AV} {bs:List TV} {cs:List AV}:Sh b c→Shs bs cs→Shs (b::bs) (c::cs)
theorem SR.lent:∀ {vs:List V} {bs:List TV} {cs:List AV},Shs bs cs→vs.length=bs.length→SR K H0 σ ρ (vs++ts) (bs++as) H→RAs K H H vs cs Z0∧SR K H0 σ ρ ts as H
 | [],_,_,.nil,_,s=>⟨.nil fun _=>rfl,s⟩
 | [],_,_,.cons _ _,e,_=>by simp at e
 | v::vs,_,_,.nil,e,_=>by simp at e
 | v::vs,b::bs,c::cs,.cons h t,e,s=>by
  have s':SR K H0 σ ρ (v::(vs++ts)) (b::(bs++as)) H:=s
  obtain⟨r,s2⟩:=SR.lent t (by simpa using e) s'.pop
  refine⟨.cons (p:=Z0) (q:=Z0) ?_ r fun _=>rfl,s2⟩
  cases h with
  | d nr ed=>exact .d (ed▸s'.top nr) fun _=>rfl
  | o =>
   obtain⟨⟨p,q,h1,h2,h3,h4⟩,sm⟩:=s'
   cases h2 with
   | cons r rs e=>cases r with
    | av r=>cases r with
     | obj h m z=>exact .obj (m _ _ hid_le h) m fun _=>rfl
end
section
variable{P:Program}{w:World}{K:W.Frag}{mg:Str→Option Value}{base:Heap}{CX:CXT}{x qual:Str}{st:Stmt}{N ps:List Str}{dvss:List (List V)}{k:Nat}{Pre:List AV→Prop}{Post:List AV→AV→Prop}{PX:List AV→Exc→Prop}
theorem spR_len{vs:List V}{H:Hp}{Q:VK}{E:XK}{n:Nat}(h:spR K Pre Post PX vs H Q E)(hS:∀ cs,Pre cs→cs.length=n):vs.length=n:=by
 obtain⟨_,cs,r,pre,_⟩:=h
 rw[r.len];exact hS cs pre
theorem valR(T:Tx K mg x st ps dvss)(Sc:FnScope N ps (defScope st))(hS:∀ cs,Pre cs→cs.length=ps.length)
  (hbody:∀ (f:Addr) (cdv:Value) (A:Around) (outer:List Env) (s:Shared) (H:Hp) (E:XK),Room k (A.deeper (envOfC x (defScope st) s.heap.objs.size f cdv)) →
   ∃ t,PSs (cxOf CX P w K mg base N x (defScope st) f cdv A outer s H E).nox (defBody st) t∧∀ cs,Pre cs→Sv K (toF E) NE t (inA N cs) (finR (Post cs))) :
  ∀ dvs∈dvss,Cal P w K mg base CX (k+1) x ps dvs (spR K Pre Post NP) :=
 T.cal (k:=k) Sc (fun vs H Q E h=>spR_len h hS) fun f cdv A outer s H vs Q E hr h =>
  let ⟨t,h1,h2⟩:=hbody f cdv A outer s H E hr
  ⟨t,h1,bodyR h fun cs pre=>h2 cs pre⟩
end
section
variable{K:W.Frag}{E:FK}{X:Exc→Sl→Prop}{ρ:Sl}{Q:TV→Prop}{DV:VEnds}{a:TV}{Pre:List AV→Prop}{Post:List AV→AV→Prop}{PX:List AV→Exc→Prop}
noncomputable def ClR(Pre:List AV→Prop)(Post:List AV→AV→Prop)(PX:List AV→Exc→Prop)(dds:List AV)(Q:TV→Prop)(X:Exc→Prop)(bs:List TV):Prop :=
 ∃ cs,Shs bs cs∧Pre (cs++dds)∧(∀ c,Post (cs++dds) c→∃ a,Got c a∧Q a)∧∀ e,PX (cs++dds) e→X e
theorem RAs.app{H:Hp}:∀ {vs ws:List V} {xs ys:List AV},RAs K H H vs xs Z0→RAs K H H ws ys Z0→RAs K H H (vs++ws) (xs++ys) Z0:=by
 intro vs ws xs ys h g
 have gen:∀ {vs:List V} {xs:List AV} {p:Fp},RAs K H H vs xs p→(∀ b,p b=0)→RAs K H H (vs++ws) (xs++ys) Z0:=by
  intro vs
  induction vs with
  | nil=>intro xs p r _;cases r;exact g
  | cons v vs ih =>
   intro xs p r z
   cases r with
   | @cons _ _ _ _ p1 q1 _ r rs e =>
    have z1:∀ b,p1 b=0:=fun b=>by have:=e b;have:=z b;omega
    have z2:∀ b,q1 b=0:=fun b=>by have:=e b;have:=z b;omega
    exact .cons r (ih rs z2) fun b=>by simp[Z0,z1 b]
 exact gen h fun _=>rfl
theorem dv_nil{H:Hp}:RAs K H H [] [] Z0:=.nil fun _=>rfl
theorem ev_rN{dvs:List V}{dds:List AV}{A:TA}{E':XK}(hd:∀ H,RAs K H H dvs dds Z0)(h:Ea K E X A ρ (ClR Pre Post NP dds Q fun _=>True)):Ev K E X (tCall (spR K Pre Post NP) dvs E' A) ρ Q:=fun H0 σ ts as H QV s x k =>
 h H0 σ ts as H _ s x fun bs ⟨cs,sh,pre,q,_⟩ vs H' s' hl=>by
  obtain⟨rp,s2⟩:=SR.lent sh hl s'
  exact⟨x.t.same s2.same,cs++dds,rp.app (hd H'),pre,fun c hc v H2 r=>let ⟨a,g,z⟩:=q c hc;k a z v H2 (s2.gotG r g),fun e z=>z.elim⟩
theorem ev_r0{A:TA}{E':XK}(h:Ea K E X A ρ (ClR Pre Post NP [] Q fun _=>True)):Ev K E X (tCall (spR K Pre Post NP) [] E' A) ρ Q:=ev_rN (fun _=>dv_nil) h
end
end VL
end
section
namespace VL
open PySem PySem.Spec L2
variable[Tabs]
section
variable{K:W.Frag}{E:FK}{X:Exc→Sl→Prop}{Q:TV→Prop}{nx bk ct:Sl→Prop}{rt:TV→Prop}{ta tb te ti tj:TE}{x:PyData}{r:Sl}{a:AV}{n:Nat}{ρ:Sl}{r':R2}
theorem ev_varO{φ:V→Hp→Prop}(h:ρ[n]?=some (some (.obj φ)))(q:Q (.av (.obj φ))):Ev K E X (tVar n) ρ Q:=fun H0 σ ts as H QV s _ k=>by
 have s0:=s
 obtain⟨⟨p,q',h1,h2,h3,h4⟩,e⟩:=s
 obtain⟨p1,p2,v,e1,e2,e3,e4⟩:=h1.frz h fun _ _ _ _=>trivial
 refine⟨v,e2,k _ q v H ⟨⟨p,q',h1,?_,h3,h4⟩,e⟩⟩
 cases e3 with
 | obj g m z=>exact .cons (.av (.obj (p:=fun _=>0) g m fun _=>rfl)) h2 fun b=>by simp
theorem ev_f0{φ:V→Hp→Prop}(q:Q (.av (.obj φ))):Ev K E X (tVar 0) (some (.obj φ)::r) Q:=ev_varO rfl q
theorem ev_f7{s0 s1 s2 s3 s4 s5 s6:Option AV}{φ:V→Hp→Prop}(q:Q (.av (.obj φ))):Ev K E X (tVar 7) (s0::s1::s2::s3::s4::s5::s6::some (.obj φ)::r) Q:=ev_varO rfl q
end
end VL
end
section
namespace L2
section
variable{α β:Type}[DecidableEq α]
end
end L2
namespace VL
open PySem PySem.Spec L2
variable[Tabs]
section
variable{K:W.Frag}{ρ:Sl}{P:Sl→Prop}{g1 g2 g3:TG}{x y z:PyData}
end
section
variable{K:W.Frag}{E:FK}{X:Exc→Sl→Prop}{ρ:Sl}{nx bk ct:Sl→Prop}{rt:TV→Prop}{c:TT}{t u:TS}
end
end VL
end
section
namespace VL
open PySem PySem.Spec L2
variable[Tabs]
section
variable{K:W.Frag}{E:FK}{X:Exc→Sl→Prop}{ρ:Sl}{Q:TV→Prop}{te:TE}
theorem ev_compR{cap:List (Option Nat)}{wi:TI}{g:TG}{tt:TT}(h:Iv K E X wi ρ fun n f _=>n≤1000000∧∃ I:Nat→List AV→Prop,I 0 []∧(∀ i ys,i<n→I i ys→Gv K g (f i) (capV cap ρ) fun ρ'=>Wk ρ' (capV cap ρ)∧Tv K E NE tt ρ' fun b=>if b=true then Ev K E NE te ρ' fun a=>∃ c,a.sto=some c∧I (i+1) (ys++[c]) else I (i+1) ys) ∧
  ∀ ys,I n ys→∃ a,Got (.own ys) a∧Q a):Ev K E X (tComp cap wi g tt te) ρ Q:=fun H0 σ ts as H QV s x k =>
 h H0 σ ts as H _ s x fun n f hd ⟨hn,I,i0,turn,fin⟩ u J H1 nr s1 ok D hD=>by
  have xo:XOk K E NE H1:=XOk.ne (x.t.same s1.same)
  have sD:Same H1 (upd H1 D (.lst [])):=same_new hD
  have st:Stb [TV.av (.d hd.data)]:=Stb.cons Stb.nil
  have start:SR K H1 (capS cap σ) (capV cap ρ) [.ref D,u] [.av (.own []),.av (.d hd.data)] (upd H1 D (.lst [])):=by
   have m:Same H1 (hid (upd H1 D (.lst [])) (fun _=>0) fun b=>if b=D then 1 else 0):=fun b o e=>by
    have hb:b≠D:=ne_of_none e hD
    unfold hid
    simp[hb]
    rw[upd_ne hb]
    exact e
   refine⟨⟨fun _=>0,fun b=>if b=D then 1 else 0,RSl.cap s1 m cap,.cons (.av (.own upd_same (.nil (p:=fun _=>0) fun _=>rfl) (q:=fun b=>if b=D then 1 else 0) fun b=>by simp)) (.cons (.av (.d (p:=fun _=>0) ((s1.top nr).same m) fun _=>rfl)) (.nil (p:=fun _=>0) fun _=>rfl) (r:=fun _=>0) fun b=>by simp) (fun b=>by simp),fun b=>by simp;split<;>omega,fun b z=>?_⟩,sD⟩
   by_cases hb:b=D
   ·rw[hb];exact hD
   ·simp[hb] at z
  refine⟨fun i m σ' H'=>m=n-i∧i≤n∧∃ ys,I i ys∧ys.length≤i∧SR K H1 σ' (capV cap ρ) [.ref D,u] [.av (.own ys),.av (.d hd.data)] H',⟨n,by simp,Nat.zero_le _,[],i0,Nat.le_refl _,start⟩,?_⟩
  rintro i m σ2 H2 ⟨rfl,hi,ys,iy,hly,s2⟩
  by_cases hlt:i<n
  ·obtain⟨g1,g2⟩:=s2.swap.turn ok hlt
   refine .inr ⟨g1,fun σ' H'=>∃ ys,I (i+1) ys∧ys.length≤i+1∧SR K H1 σ' (capV cap ρ) [.ref D,u] [.av (.own ys),.av (.d hd.data)] H',fun σ' H' p=>⟨n-(i+1),by omega,rfl,hlt,p⟩,fun w H3 hw=>?_⟩
   have s3:=g2 w H3 hw
   refine turn i ys hlt iy H1 σ2 _ _ H3 w _ s3 fun ρ4 ⟨wk,tv⟩ σ4 H4 s4=>?_
   refine tv H1 σ4 _ _ H4 _ s4 xo fun b qb H5 s5=>?_
   cases b with
   | true =>
    rw[if_pos rfl] at qb ⊢
    refine qb H1 σ4 _ _ H5 _ s5 xo fun a ⟨c,e2,e1⟩ z H6 s6=>?_
    have s7:=(s6.sto e2)
    have s8:SR K H1 σ4 ρ4 [z,.ref D,u] [.av c,.av (.own ys),.av (.d hd.data)] H6:=by
     obtain⟨⟨p,q,k1,k2,k3,k4⟩,e⟩:=s7
     refine⟨⟨p,q,k1,?_,k3,k4⟩,e⟩
     cases k2 with
     | cons r rs eq=>exact .cons r rs.swap eq
    obtain⟨vs,h1,h2,h3⟩:=s8.snocT st
    refine⟨vs,h1,small6 ?_,ys++[c],e1,by rw[List.length_append];simp;omega,wk _ _ _ _ _ _ h3⟩
    rw[h2]
    omega
   | false =>
    rw[if_neg Bool.false_ne_true] at qb ⊢
    exact⟨ys,qb,by omega,wk _ _ _ _ _ _ s5.swap⟩
  ·have e:i=n:=by omega
   subst e
   obtain⟨a,hg,q⟩:=fin ys iy
   exact .inl ⟨s2.swap.halt NR.av rfl ok (Nat.le_refl _),k _ q _ _ (s1.pop.gotG s2.rs hg)⟩
theorem compR_R{cap:List (Option Nat)}{A:TA}{g:TG}{tt:TT}(h:Ea K E X A ρ fun bs=>∃ (j:Int) (I:Nat→List AV→Prop),bs=[.av (.d (.int j))]∧(-(2 ^ 62)≤j∧j≤1000000)∧I 0 [] ∧
  (∀ (i:Nat) ys,i<j.toNat→I i ys→Gv K g (.int i) (capV cap ρ) fun ρ'=>Wk ρ' (capV cap ρ)∧Tv K E NE tt ρ' fun b=>if b=true then Ev K E NE te ρ' fun a=>∃ c,a.sto=some c∧I (i+1) (ys++[c]) else I (i+1) ys) ∧
  ∀ ys,I j.toNat ys→∃ a,Got (.own ys) a∧Q a):Ev K E X (tComp cap (iRng1 A) g tt te) ρ Q :=
 ev_compR (iv_rng1 fun H0 σ ts as H QV s x k=>h H0 σ ts as H QV s x (fun bs hh=>by
  obtain⟨j,I,e,hj,i0,turn,fin⟩:=hh
  exact k bs ⟨j,e,⟨hj.1,by omega⟩,by omega,I,i0,fun i ys hi iy H0 σ ts as H v Qg s k=>by
  have s:SR K H0 σ (capV cap ρ) (v::ts) (.av (.d (.int (0+(i:Int))))::as) H:=s
  rw[Int.zero_add] at s
  exact turn i ys hi iy H0 σ ts as H v Qg s k,fin⟩))
end
end VL
end
section
namespace VL
open PySem PySem.Spec L2
variable[Tabs]
section
variable{K:W.Frag}{E:FK}{X:Exc→Sl→Prop}{ρ:Sl}{Q:TV→Prop}{te:TE}
end
end VL
end
section
namespace L2
open PySem PySem.Spec PyProof.Rows
section
variable{prog:Program}{w:World}{A:Around}{s:Shared}{R:Result→Shared→Prop}{I:Addr}{fp wr:List Addr}{G:Array GenState→Array GenState→Prop}{n:Nat}{P:Nat→Value→Prop}{St:Nat→Shared→Prop}
end
end L2
end
section
namespace L2
open PySem PySem.Spec PyProof.Rows
section
variable{prog:Program}{w:World}{A:Around}{E:Value→Shared→Prop}{s:Shared}
end
end L2
end
section
namespace L2
open PySem PySem.Spec PyProof.Rows
end L2
namespace VL
open PySem PySem.Spec L2
variable[Tabs]
section
variable{K:W.Frag}{E:FK}{X:Exc→Sl→Prop}{ρ:Sl}{Q:TV→Prop}{te:TE}
end
end VL
end
section
namespace L2
open PySem PySem.Spec PySem.Calls PyProof.Rows PySem.W
theorem attach_callB{l:OpenLaw}{n:Nat}{q:Program}{loose:List Str}{XP:(Str→Option Value)→Heap→Prop}{YP:World→Heap→Prop}{d:DefRec}
  (hn:l.most=some n) (hdf:d.params.defaults=[])
  (call:∀ (w:World) (s₀ s₁:Shared) (mg mb:Str→Option Value) (fa:Addr) (o:Obj) (pm cd doc:Value) (a:Addr) (vs:List Value) (ns:List Int),
   Ground q loose [] XP w s₀ mg mb s₁.heap→YP w s₁.heap →
   s₁.heap.get? fa=some o→o.data=.func (docDef d.name d.params d.body d.scope pm cd doc)→s₁.heap.CodeRec cd d.name→mg d.name=some (.ref fa) →
   s₁.heap.get? a=some { cls:=.type "list",data:=.seq vs.toArray }→IntsAre vs ns→ns.length≤n→s₁.gens=#[]→(∀ x∈ns,Builtin.Int.intBits x≤2 ^ 20) →
   codeAny (model l.prog w) callerA (.call (.ref fa) ⟨[.ref a],[]⟩) (fun r s'=>r=.ok (.ret (.bool true))∧OldK s₁.heap s'.heap∧s'.os=s₁.os∧AllBare s'.gens) s₁) :
  WalkO q loose XP YP l.row.toRowW d [] (fun f vs=>PySem.call f vs):=by
 intro w s₀ s₁ mg mb G Y fa o pm cd doc dV kV ho hd hcd hD hmg hg args vals as hpre hlay hrd hwl hlo
 obtain rfl:dV=.none:=Dflts.none hD hdf
 obtain rfl:kV=.none:=Dflts.noKw hD
 obtain⟨a,vs,ns,rfl,rfl,hobj,hints,hlen⟩:=Att.script_of hn hpre hwl
 refine enter_call (codeAny_mono (call w s₀ s₁ mg mb fa o pm cd doc a vs ns G Y ho (fd_plain hd) hcd hmg hobj hints hlen hg ?_) fun r s' hq=>?_)
 ·intro x hx
  have h1:=(layW_cons hlay).1
  have h2:=layableW_item h1 (.int x) (List.mem_map.mpr ⟨x,hx,rfl⟩)
  exact PyData.bits_of_layable (PyData.layable0_of (fun _=>rfl) (layable_int h2))
 obtain⟨rfl,h2,h3,h4⟩:=hq
 exact⟨.inl ⟨.bool true,.bool true,[],rfl,fun _=>rfl,.bool true,Att.post_true l _,fun _=>⟨List.Pairwise.nil,fun _ hm=>(nomatch hm)⟩⟩,h2,h3,h4⟩
end L2
namespace VL
open PySem PySem.Spec PyProof.Rows L2
variable[Tabs]
variable{P:Program}{w:World}{K:W.Frag}{mg:Str→Option Value}{base:Heap}{CX:CXT}{x qual:Str}{st:Stmt}{N ps:List Str}{k:Nat}
end VL
end
section
namespace L2
open PySem PySem.Spec PyProof.Rows
open Classical
section
variable{C:Addr→Prop}{P:Program}{w:World}{H H':Hp}{h h':Heap}{fs ex:List Addr}{b:Addr}
end
section
variable{X:Cx}{CX:CXT}{k:Nat}{sp:Sp}{E:XK}{x:Str}{p pos:Pos}{e:Expr}{es:List Expr}{t:TA}{i:Nat}
end
section
variable{X:Cx}{pins:List (Addr×Obj)}{σ:St}{H:Hp}{s:Shared}
end
section
variable{X:Cx}{CX:CXT}{k:Nat}{f:Addr}{fd:FuncData}{ps:List Str}{sp:Sp}{dvs:List V}{ds:List Value}{E:XK}{x:Str}{p pos:Pos}{e:Expr}{es:List Expr}{t:TA}
end
end L2
end
section
namespace L2
open PySem PySem.Spec PyProof.Rows
section
variable{X:Cx}{pins:List (Addr×Obj)}{σ:St}{H:Hp}{s:Shared}
end
end L2
end
section
namespace L2
open PySem PySem.Spec PyProof.Rows
section
variable{CX:CXT}{P:Program}{w:World}{K:W.Frag}{mg:Str→Option Value}{base:Heap}{N ps:List Str}{qual:Str}{scope:Scope}{cl:List (Str×Addr)}{f:Addr}{cd:Value}{A:Around}{outer:List Env}{s:Shared}{H:Hp}{E:XK}{σ:St}
end
end L2
end
section
namespace L2
open PySem PySem.Spec PyProof.Rows
end L2
namespace VL
open PySem PySem.Spec PyProof.Rows L2
variable[Tabs]
section
variable{K:W.Frag}{E:FK}{X:Exc→Sl→Prop}{ρ:Sl}{Q:TV→Prop}{nx bk ct:Sl→Prop}{rt:TV→Prop}
end
section
variable{K:W.Frag}{H0 H G:Hp}
end
section
variable{K:W.Frag}{G G' H H':Hp}
end
section
variable{Y:Cx}{CX:CXT}{k:Nat}{name qual:Str}{params:Arguments}{body:List Stmt}{scope:Scope}{Pt:Addr}{N ps:List Str}{cap:List (Option Nat)}{Pre:List AV→Prop}{Post:List AV→AV→Prop}{H0 H1 H2:Hp}{σ:L2.St}{ρ:Sl}{ts:List V}{as:List TV}{v:V}
end
end VL
end
section
namespace VL
open PySem PySem.Spec PyProof.Rows L2
variable[Tabs]
section
variable{K:W.Frag}{Y:Cx}{H0 H1 H2:Hp}{σ:L2.St}{ρ:Sl}{ts:List V}{as:List TV}
variable{E:FK}{X:Exc→Sl→Prop}{Q:TV→Prop}{Pre:List AV→Prop}{Post:List AV→AV→Prop}
end
section
variable{P:Program}{w:World}{K:W.Frag}{mg:Str→Option Value}{base:Heap}{CX:CXT}{x qual:Str}{st:Stmt}{N ps:List Str}{k:Nat}
noncomputable def sp_lawT(K:W.Frag):Sp:=fun vs H Q _=>TabsIn H∧∃ (a:Addr) (ns:List Int),vs=[.ref a]∧SqL K H a (ns.map V.int)∧ns.length≤63∧(∀ x∈ns,Builtin.Int.intBits x≤2 ^ 20)∧∀ H',Same H H'→Q (.bl true) H'
theorem val_lawT{f:Addr}{fd:FuncData}{dV:Value}(F:FunD K x qual st dV f fd)(Sc:FnScope N ps (defScope st))(hps:ps.length=1)
  (hbody:∀ (cdv:Value) (A:Around) (outer:List Env) (s:Shared) (H:Hp) (E:XK),Room k (A.deeper (envOfC qual (defScope st) s.heap.objs.size f cdv)) →
   ∃ t,PSs (cxOf CX P w K mg base N qual (defScope st) f cdv A outer s H E).nox (defBody st) t∧∀ ns:List Int,ns.length≤63→(∀ x∈ns,Builtin.Int.intBits x≤2 ^ 20)→Sv K (toF E) NE t (ini N [dI ns]) (fin (.d (.bool true)))) :
  FnOk P w K mg base CX (k+1) f fd ps (sp_lawT K):=by
 refine F.ok (k:=k) Sc (fun vs H Q E h=>?_) fun cdv A outer s H vs Q E hr h=>?_
 ·obtain⟨_,a,ns,rfl,_⟩:=h
  exact hps.symm
 ·obtain⟨tb,a,ns,rfl,hS,hl,hb,q⟩:=h
  obtain⟨t,h1,h2⟩:=hbody cdv A outer s H E hr
  refine⟨t,h1,val_body (E:=E) (S:=fun ds c=>∃ ns:List Int,ds=[dI ns]∧(ns.length≤63∧∀ x∈ns,Builtin.Int.intBits x≤2 ^ 20)∧c=.d (.bool true)) ⟨tb,[dI ns],.cons (.ints hS) .nil,.inl ⟨_,⟨ns,rfl,⟨hl,hb⟩,rfl⟩,fun v H' r=>?_⟩⟩ fun ds c hc=>?_⟩
  ·obtain⟨sm,p,_,_,ra⟩:=r
   cases ra with
   | d rp _=>rw[Rep.bl_inv rp];exact q _ sm
  ·obtain⟨ns,rfl,⟨hl,hb⟩,rfl⟩:=hc
   exact h2 ns hl hb
end
end VL
namespace L2
open PySem PySem.Spec PySem.Calls PyProof.Rows PySem.W
noncomputable def H00(ts:List (Addr×(Nat→Nat→Str)))(sc:Option (Addr×HO)):Hp:=fun b=>match ts.lookup b with
 | some q=>some (.tbq q)
 | none=>match sc with
  | some (a,o)=>if b=a then some o else none
  | none=>none
theorem lookup_of{ts:List (Addr×(Nat→Nat→Str))}(nd:(ts.map Prod.fst).Nodup){p:Addr×(Nat→Nat→Str)}(h:p∈ts):ts.lookup p.1=some p.2:=by
 induction ts with
 | nil=>cases h
 | cons q r ih =>
  rw[List.map_cons,List.nodup_cons] at nd
  rw[show (q::r)=((q.1,q.2)::r) from rfl,List.lookup_cons]
  rcases List.mem_cons.mp h with e|h
  ·subst e
   rw[beq_self_eq_true]
  ·have hne:p.1≠q.1:=fun z=>nd.1 (z▸List.mem_map_of_mem h)
   rw[beq_false_of_ne hne]
   exact ih nd.2 h
theorem mem_of_lk{ts:List (Addr×(Nat→Nat→Str))}{b:Addr}{q:Nat→Nat→Str}(h:ts.lookup b=some q):(b,q)∈ts:=by
 induction ts with
 | nil=>cases h
 | cons p r ih =>
  rw[show (p::r)=((p.1,p.2)::r) from rfl,List.lookup_cons] at h
  cases e:b == p.1 with
  | true =>
   rw[e] at h
   cases h
   rw[beq_iff_eq.mp e]
   exact .head _
  | false=>rw[e] at h;exact .tail _ (ih h)
theorem law_callT{P:Program}{w:World}{K:W.Frag}{mg mb:Str→Option Value}{CX:CXT}{k:Nat}{fa a:Addr}{fd:FuncData}{x:Str}{sp:Sp}{s₁:Shared}{vs:List Value}{ns:List Int}{ts:List (Addr×(Nat→Nat→Str))}
  (nd:(ts.map Prod.fst).Nodup) (KX:K.In s₁.heap) (hns:s₁.heap.Ns mainGlobals mg) (hb:s₁.heap.Ns builtinsNs mb) (hbb:∀ x:Str,x ≠ "__name__" → mb x=bootBuiltins x) (hlim:s₁.heap.NoLimit) (hg:s₁.gens=#[])
  (ha:s₁.heap.get? a=some { cls:=.type "list",data:=.seq vs.toArray }) (hi:IntsAre vs ns) (hl:ns.length≤sizeLine) (hr:Room k callerA)
  (hts:∀ p∈ts,s₁.heap.get? p.1=some (tabObj #[])∧K.lookup p.1=none∧isCodeTable s₁.heap p.1) (hbm:s₁.heap.BuiltinsAt mg mainGlobals)
  (F:∀ base:Heap,K.In base→base.Ns mainGlobals mg→base.BuiltinsAt mg mainGlobals→FnOk P w K mg base CX k fa fd [x] sp) (hbind:∀ (s:Shared) (u:Value),BindsTo s fd ⟨[u],[]⟩ [(x,u)])
  (hsp:∀ H:Hp,(∀ p∈ts,H p.1=some (.tbq p.2))→SqL K H a (ns.map V.int)→sp [.ref a] H (fun v H'=>v=.bl true∧Same H H') fun _ _ _=>False)
  (hCX:∀ H e s',CX [] H s₁ (fun _ _ _=>False) e s'→False) :
  codeAny (model P w) callerA (.call (.ref fa) ⟨[.ref a],[]⟩) (fun r s'=>r=.ok (.ret (.bool true))∧OldK s₁.heap s'.heap∧s'.os=s₁.os∧AllBare s'.gens) s₁:=by
 have rv:=vals_ints hi
 have lenV:=hi.length
 have core:∀ H:Hp,(∀ p∈ts,H p.1=some (.tbq p.2))→SqL K H a (ns.map V.int)→HOk P w H s₁.heap→(∀ b o,H b=some o→(∃ p∈ts,b=p.1)∨(b=a∧∃ ob u,o=.frz ob u))→(∀ b o,H b=some o→K.lookup b=none) →
   codeAny (model P w) callerA (.call (.ref fa) ⟨[.ref a],[]⟩) (fun r s'=>r=.ok (.ret (.bool true))∧OldK s₁.heap s'.heap∧s'.os=s₁.os∧AllBare s'.gens) s₁:=by
  intro H hT hS hok hA hK
  have noA:∀ {b:Addr} {o:Obj},s₁.heap.get? b=some o→(∀ vs n,o.data≠.seq vs n)→(∀ vs,o.data≠.fields vs)→H b=none:=fun {b o} e n1 n2=>by
   cases q:H b with
   | none=>rfl
   | some u =>
    rcases hA b u q with⟨p,hp,rfl⟩|⟨rfl,_⟩
    ·rw[(hts p hp).1] at e
     cases e
     exact absurd rfl (n2 _)
    ·rw[ha] at e
     cases e
     exact absurd rfl (n1 _ _)
  have nsK:∀ {b:Addr} {m:Str→Option Value},s₁.heap.Ns b m→(hidT s₁.heap H).Ns b m:=fun {b m} ⟨o,es,ep,e,d,r⟩ =>
   ⟨o,es,ep,hidT_get e (noA e (fun _ _ z=>by rw[d] at z;cases z) fun _ z=>by rw[d] at z;cases z),d,r⟩
  have hKb:K.In (hidT s₁.heap H):=fun b o e=>hidT_get (KX b o e) (by
   cases q:H b with
   | none=>rfl
   | some u=>rw[hK b u q] at e;cases e)
  have hM:Mod K mg (hidT s₁.heap H):=⟨hKb,nsK hns,⟨mb,nsK hb,hbb⟩,let ⟨mc,h1,h2⟩:=hlim;⟨mc,nsK h1,h2⟩⟩
  have hB:(hidT s₁.heap H).BuiltinsAt mg mainGlobals:=by
   obtain⟨bm,o,b1,b2,b3,b4,b5,b6,b7,b8⟩:=hbm
   exact⟨bm,o,b1,b2,b3,b4,hidT_get b5 (noA b5 (fun _ _ z=>by rw[b8] at z;cases z) fun _ z=>by rw[b8] at z;cases z),b6,b7,b8⟩
  have e0:Env0 P w K mg (hidT s₁.heap H) callerA [] s₁ H:=⟨rfl,hM,fun b o e=>of_hidT e,Nat.le_of_eq (hidT_size _ _),trivial,fun b hb=>absurd (show b∈([]:List Addr) from hb) (by simp),hok,.of_eq hg⟩
  refine codeAny_mono ((F _ hKb (nsK hns) hB).run callerA [] s₁ H ⟨[.ref a],[]⟩ [.ref a] [.ref a] _ _ hr e0 (hbind s₁ (.ref a)) (.cons rfl .nil) (hsp H hT hS)) fun r s' h=>?_
  cases r with
  | error e=>exact (hCX H e s' h).elim
  | ok fl =>
   cases fl with
   | next=>exact False.elim h
   | brk=>exact False.elim h
   | cont=>exact False.elim h
   | ret u =>
    obtain⟨v,H',os,bare,un,hok',r',q',sm⟩:=h
    subst q'
    obtain rfl:u=Value.bool true:=r'
    refine⟨rfl,⟨fun b o e=>?_,fun b o e=>un.there b o e (by simp)⟩,os,bare⟩
    cases q:H b with
    | none=>exact .inl (un.keep b o e q (by intro z;exact absurd (show b∈([]:List Addr) from z) (by simp)) (by simp))
    | some u =>
     rcases hA b u q with⟨p,hp,rfl⟩|⟨rfl,ob,y,rfl⟩
     ·obtain⟨e1,_,e3⟩:=hts p hp
      rw[e1] at e
      cases e
      obtain⟨ps,e4,_⟩:=hok' p.1 _ (sm _ _ (hT p hp))
      exact .inr (.inl ⟨e3,rfl,#[],ps,rfl,by rw[Array.empty_append];exact e4⟩)
     ·have e1:=(hok b _ q).1
      have e2:=(hok' b _ (sm _ _ q)).1
      rw[e] at e1
      cases e1
      exact .inl e2
 have naT:∀ p∈ts,p.1≠a:=fun p hp z=>by
  have:=(hts p hp).1
  rw[z,ha] at this
  cases this
 have lka:ts.lookup a=none:=by
  cases e:ts.lookup a with
  | none=>rfl
  | some q=>exact absurd rfl (naT _ (mem_of_lk e))
 have tbl:∀ {sc:Option (Addr×HO)} {b:Addr} {q:Nat→Nat→Str},ts.lookup b=some q→ObjOk P w (H00 ts sc) s₁.heap b (.tbq q):=fun {sc b q} e =>
  ⟨#[],(hts _ (mem_of_lk e)).1,trivial,fun pos cv z=>by simp[codeAmong] at z⟩
 have hT:∀ sc,∀ p∈ts,H00 ts sc p.1=some (.tbq p.2):=fun sc p hp=>by unfold H00;rw[lookup_of nd hp]
 cases hk:K.lookup a with
 | some o =>
  have e:=KX a o hk
  rw[ha] at e
  cases e
  refine core (H00 ts none) (hT none) (.inr ⟨_,vs.toArray,_,hk,rfl,rfl,rfl,by rw[List.size_toArray,lenV];exact hl,by simpa using rv⟩) (fun b u z=>?_) (fun b u z=>?_) fun b u z=>?_
  ·unfold H00 at z
   cases e:ts.lookup b with
   | none=>rw[e] at z;cases z
   | some q=>rw[e] at z;cases z;exact tbl e
  ·unfold H00 at z
   cases e:ts.lookup b with
   | none=>rw[e] at z;cases z
   | some q=>exact .inl ⟨_,mem_of_lk e,rfl⟩
  ·unfold H00 at z
   cases e:ts.lookup b with
   | none=>rw[e] at z;cases z
   | some q=>exact (hts _ (mem_of_lk e)).2.1
 | none =>
  have hsa:H00 ts (some (a,.frz { cls:=.type "list",data:=.seq vs.toArray } (.lst (ns.map V.int)))) a=some (.frz { cls:=.type "list",data:=.seq vs.toArray } (.lst (ns.map V.int))):=by
   unfold H00;rw[lka];exact if_pos rfl
  refine core (H00 ts (some (a,.frz { cls:=.type "list",data:=.seq vs.toArray } (.lst (ns.map V.int))))) (hT _) (.inl (.inr ⟨_,hsa⟩)) (fun b u z=>?_) (fun b u z=>?_) fun b u z=>?_
  ·by_cases hb:b=a
   ·subst hb
    rw[hsa] at z
    cases z
    exact⟨ha,by rw[List.length_map];exact hl,vs,_,rv,ha⟩
   ·unfold H00 at z
    cases e:ts.lookup b with
    | none=>rw[e] at z;have z':=(if_neg hb).symm.trans z;cases z'
    | some q=>rw[e] at z;cases z;exact tbl e
  ·by_cases hb:b=a
   ·subst hb
    rw[hsa] at z
    cases z
    exact .inr ⟨rfl,_,_,rfl⟩
   ·unfold H00 at z
    cases e:ts.lookup b with
    | none=>rw[e] at z;have z':=(if_neg hb).symm.trans z;cases z'
    | some q=>exact .inl ⟨_,mem_of_lk e,rfl⟩
  ·by_cases hb:b=a
   ·rw[hb];exact hk
   ·unfold H00 at z
    cases e:ts.lookup b with
    | none=>rw[e] at z;have z':=(if_neg hb).symm.trans z;cases z'
    | some q=>exact (hts _ (mem_of_lk e)).2.1
theorem walk_ofT{l:PySem.W.OpenLaw}{n k:Nat}{q:Program}{loose:List Str}{XP:(Str→Option Value)→Heap→Prop}{YP:World→Heap→Prop}{d:DefRec}{K:Params→W.Frag}{CX:World→CXT}{sp:World→Sp}{x:Str}{ts:List (Addr×(Nat→Nat→Str))}
  (nd:(ts.map Prod.fst).Nodup) (hn:l.most=some n) (hn2:n≤sizeLine) (hdf:d.params.defaults=[]) (hr:Room k callerA)
  (hY:∀ (w:World) (h:Heap),YP w h→(K w.params).In h) (hYt:∀ (w:World) (h:Heap),YP w h→∀ p∈ts,h.get? p.1=some (tabObj #[])) (hK:∀ (w:World) (p:Addr×(Nat→Nat→Str)),p∈ts→(K w.params).lookup p.1=none∧∃ c,codeHdIn (K w.params) c p.1=true)
  (F:∀ (w:World) (mg:Str→Option Value) (fa:Addr) (h:Heap),(K w.params).In h→h.Ns mainGlobals mg→mg d.name=some (.ref fa) →
   ∃ fd:FuncData,(∀ (s:Shared) (u:Value),BindsTo s fd ⟨[u],[]⟩ [(x,u)]) ∧
    ∀ base:Heap,(K w.params).In base→base.Ns mainGlobals mg→base.BuiltinsAt mg mainGlobals→FnOk l.prog w (K w.params) mg base (CX w) k fa fd [x] (sp w))
  (hsp:∀ (w:World) (H:Hp) (a:Addr) (ns:List Int),ns.length≤n→(∀ x∈ns,Builtin.Int.intBits x≤2 ^ 20)→(∀ p∈ts,H p.1=some (.tbq p.2))→SqL (K w.params) H a (ns.map V.int)→sp w [.ref a] H (fun v H'=>v=.bl true∧Same H H') fun _ _ _=>False)
  (hCX:∀ (w:World) (H:Hp) (s:Shared) (e:Value) (s':Shared),CX w [] H s (fun _ _ _=>False) e s'→False) :
  PySem.W.WalkO q loose XP YP l.row.toRowW d [] (fun f vs=>PySem.call f vs):=by
 refine attach_callB hn hdf fun w s₀ s₁ mg mb fa o pm cd doc a vs ns G Y ho hd hcd hmg hobj hints hlen hg hbits=>?_
 have KX:=hY w _ Y
 obtain⟨fd,hb,hF⟩:=F w mg fa _ KX G.T.g hmg
 have hbm:s₁.heap.BuiltinsAt mg mainGlobals:=by
  obtain⟨bm,ob,b1,b2,b3,b4,b5,b6⟩:=G.T.bmain
  have hne:bm≠mainGlobals:=fun z=>by
   obtain⟨o,es,ep,e,d,_⟩:=G.T.g
   rw[z,e] at b3
   cases b3
   rw[d] at b6
   cases b6
  exact⟨bm,ob,b1,b2,hne,hne,b3,b4,b5,b6⟩
 refine law_callT nd KX G.T.g G.T.b G.T.builtins G.T.nolimit hg hobj hints (Nat.le_trans hlen hn2) hr (fun p hp=>?_) hbm hF hb (fun H hT hS=>hsp w H a ns hlen hbits hT hS) fun H e s'=>hCX w H s₁ e s'
 obtain⟨h1,c,h2⟩:=hK w p hp
 have h3:=hYt w _ Y p hp
 exact⟨h3,h1,((codeHd_of_K KX h2).tab h3).isCodeTable⟩
end L2
end
section
namespace L2
open PySem PySem.Spec PyProof.Rows
section
variable{X:Cx}{pins:List (Addr×Obj)}{σ:St}{H:Hp}{s:Shared}{a:Addr}{y v:V}{u r:Value}{A:Around}{E:Value→Shared→Prop}
end
end L2
namespace VL
open PySem PySem.Spec PyProof.Rows L2
variable[Tabs]
section
variable{K:W.Frag}{E:FK}{X:Exc→Sl→Prop}{ρ:Sl}{Q:TV→Prop}{te:TE}{A:TA}
end
end VL
end
section
namespace L2
open PySem PySem.Spec PyProof.Rows
end L2
namespace VL
open PySem PySem.Spec PyProof.Rows L2
variable[Tabs]
end VL
end
section
namespace L2
open PySem PySem.Spec PyProof.Rows
end L2
namespace VL
open PySem PySem.Spec PyProof.Rows L2
variable[Tabs]
noncomputable def spF{Θ:Type}(K:W.Frag)(Pre:Θ→List AV→Prop)(Post:Θ→List AV→AV→Prop):Sp:=fun vs H Q E=>∃ θ,spR K (Pre θ) (Post θ) NP vs H Q E
section
variable{P:Program}{w:World}{K:W.Frag}{mg:Str→Option Value}{base:Heap}{CX:CXT}{x:Str}{st:Stmt}{N ps:List Str}{dvss:List (List V)}{k:Nat}{Θ:Type}{Pre:Θ→List AV→Prop}{Post:Θ→List AV→AV→Prop}
theorem valRF(T:Tx K mg x st ps dvss)(Sc:FnScope N ps (defScope st))(hS:∀ θ cs,Pre θ cs→cs.length=ps.length)
  (hbody:∀ (θ:Θ) (f:Addr) (cdv:Value) (A:Around) (outer:List Env) (s:Shared) (H:Hp) (E:XK),Room k (A.deeper (envOfC x (defScope st) s.heap.objs.size f cdv)) →
   ∃ t,PSs (cxOf CX P w K mg base N x (defScope st) f cdv A outer s H E).nox (defBody st) t∧∀ cs,Pre θ cs→Sv K (toF E) NE t (inA N cs) (finR (Post θ cs))) :
  ∀ dvs∈dvss,Cal P w K mg base CX (k+1) x ps dvs (spF K Pre Post) :=
 T.cal (k:=k) Sc (fun vs H Q E ⟨θ,h⟩=>spR_len h (hS θ)) fun f cdv A outer s H vs Q E hr ⟨θ,h⟩ =>
  let ⟨t,h1,h2⟩:=hbody θ f cdv A outer s H E hr
  ⟨t,h1,bodyR h fun cs pre=>h2 cs pre⟩
end
section
variable{K:W.Frag}{E:FK}{X:Exc→Sl→Prop}{ρ:Sl}{Q:TV→Prop}{Θ:Type}{Pre:Θ→List AV→Prop}{Post:Θ→List AV→AV→Prop}
theorem ev_rF0{A:TA}{E':XK}(h:Ea K E X A ρ fun bs=>∃ θ,ClR (Pre θ) (Post θ) NP [] Q (fun _=>True) bs):Ev K E X (tCall (spF K Pre Post) [] E' A) ρ Q:=fun H0 σ ts as H QV s x k =>
 h H0 σ ts as H _ s x fun bs ⟨θ,cs,sh,pre,q,_⟩ vs H' s' hl=>by
  obtain⟨rp,s2⟩:=SR.lent sh hl s'
  exact⟨θ,x.t.same s2.same,cs++[],rp.app dv_nil,pre,fun c hc v H2 r=>let ⟨a,g,z⟩:=q c hc;k a z v H2 (s2.gotG r g),fun e z=>z.elim⟩
end
end VL
end
section
namespace VL
open PySem PySem.Spec L2
variable[Tabs]
section
variable{K:W.Frag}{G G' H H' H0:Hp}{σ:St}{ρ:Sl}{ts:List V}{as:List TV}{v x y:V}{a b:TV}
end
section
variable{K:W.Frag}{E:FK}{X:Exc→Sl→Prop}{ρ:Sl}{Q:TV→Prop}{DV:VEnds}{ta tb tc te ti tj:TE}{i j:Int}{n:Nat}{r r':R2}{t u:TS}{a b:TV}
noncomputable abbrev OkS:={ x:Str // PyData.strOk x=true }
noncomputable abbrev dS(x:OkS):PyData:=.str x.1
theorem Enc.str:Enc dS 0:=⟨fun a b=>by simp[PyData.eqv,Subtype.ext_iff],fun x=>by simp[PyData.canLay0,x.2],fun _=>by simp[PyData.depth]⟩
end
end VL
end
section
namespace L2
open PySem PySem.Spec PyProof.Rows
end L2
namespace VL
open PySem PySem.Spec PyProof.Rows L2
variable[Tabs]
section
variable{K:W.Frag}{E:FK}{X:Exc→Sl→Prop}{ρ:Sl}{Q:TV→Prop}{te ti:TE}{A:TA}
end
end VL
end
section
namespace L2
open PySem PySem.Spec PyProof.Rows
end L2
namespace VL
open PySem PySem.Spec PyProof.Rows L2
variable[Tabs]
section
variable{K:W.Frag}{G H:Hp}
end
section
variable{K:W.Frag}{E:FK}{X:Exc→Sl→Prop}{ρ:Sl}{Q:TV→Prop}{DV:VEnds}{te ti:TE}{n:Nat}
end
end VL
end
section
namespace L2
open PySem PySem.Spec PyProof.Rows
section
variable{X:Cx}{x x':Str}{C C':Value}{np hpos np' hpos' pos:Pos}{body suite suite':List Stmt}{b₀ b₁:Stmt}{tb:FK→TS}{th th':TS}
end
end L2
namespace VL
open PySem PySem.Spec PyProof.Rows L2
variable[Tabs]
section
variable{K:W.Frag}{F:FK}{X:Exc→Sl→Prop}{ρ:Sl}{DV:VEnds}
end
end VL
end
section
namespace HT
open PySem PySem.Spec PyProof.Rows
end HT
namespace L2
open PySem PySem.Spec PyProof.Rows
section
variable{X:Cx}{K:W.Frag}
end
end L2
namespace VL
open PySem PySem.Spec PyProof.Rows L2
variable[Tabs]
section
variable{K:W.Frag}{E:FK}{X:Exc→Sl→Prop}{ρ:Sl}{Q:TV→Prop}{te:TE}{tl th:TO}
end
end VL
end
section
namespace L2
open PySem PySem.Spec PyProof.Rows
section
variable{X:Cx}{pins:List (Addr×Obj)}{σ:St}{H:Hp}{s:Shared}{F:FK}{k:Nat}{f:Addr}{fd:FuncData}{ps:List Str}{sp:Sp}{dvs:List V}{ds:List Value}{x:Str}{p pos:Pos}{e:Expr}{es:List Expr}{t:TA}
end
end L2
namespace VL
open PySem PySem.Spec PyProof.Rows L2
variable[Tabs]
section
variable{P:Program}{w:World}{K:W.Frag}{mg:Str→Option Value}{base:Heap}{x:Str}{st:Stmt}{N ps:List Str}{dvss:List (List V)}{k:Nat}{Θ:Type}{PreF:Θ→List AV→Prop}{PostF:Θ→List AV→AV→Prop}{PXF:Θ→List AV→Exc→Prop}{Pre:List AV→Prop}{Post:List AV→AV→Prop}{PX:List AV→Exc→Prop}
end
section
variable{K:W.Frag}{E:FK}{X:Exc→Sl→Prop}{ρ:Sl}{Q:TV→Prop}{Θ:Type}{Pre:Θ→List AV→Prop}{Post:Θ→List AV→AV→Prop}{PX:Θ→List AV→Exc→Prop}{te ti:TE}
end
end VL
end
section
namespace L2
open PySem PySem.Spec PyProof.Rows
section
variable{X:Cx}{A:Around}{ea:Addr}{CX:CXT}{k:Nat}{ps:List Str}{sp:Sp}{dvs:List V}{E:XK}{x:Str}{p pos:Pos}{e:Expr}{es:List Expr}{t:TA}
end
end L2
namespace VL
open PySem PySem.Spec PyProof.Rows L2
variable[Tabs]
end VL
end
section
namespace VL
open PySem PySem.Spec PyProof.Rows L2
variable[Tabs]
section
variable{K:W.Frag}{G H:Hp}
theorem RAs.cat{zs:List V}{ys:List AV}{q:Fp}(h2:RAs K G H zs ys q):∀ {vs:List V} {xs:List AV} {p:Fp},RAs K G H vs xs p→RAs K G H (vs++zs) (xs++ys) (fun b=>p b+q b)
 | _,_,p,.nil e=>by
  have z:(fun b=>p b+q b)=q:=funext fun b=>by rw[e b,Nat.zero_add]
  rw[z]
  exact h2
 | _,_,_,.cons r1 rs e=>.cons r1 (RAs.cat h2 rs) fun b=>by have:=e b;omega
end
section
variable{K:W.Frag}{E:FK}{X:Exc→Sl→Prop}{ρ:Sl}{Q:TV→Prop}{DV:VEnds}{te:TE}{n:Nat}
end
end VL
end
section
namespace PySem
section
variable{prog:Program}{w:World}{K:Type}[DecidableEq K]{knd:HeapKind prog w K}{A:Around}{E:Value→Shared→Prop}{s:Shared}
end
end PySem
namespace L2
open PySem PySem.Spec PyProof.Rows
end L2
namespace VL
open PySem PySem.Spec PyProof.Rows L2
variable[Tabs]
section
variable{K:W.Frag}{E:FK}{X:Exc→Sl→Prop}{ρ:Sl}{Q:TV→Prop}{DV:VEnds}{te ti:TE}{n:Nat}
end
end VL
end
section
namespace L2
open PySem PySem.Spec PyProof.Rows
section
variable{X:Cx}{a b c d:Expr}{pos:Pos}{ta tb tc td:TE}
end
end L2
namespace VL
open PySem PySem.Spec PyProof.Rows L2
variable[Tabs]
section
variable{K:W.Frag}{E:FK}{X:Exc→Sl→Prop}{ρ:Sl}{Q:TV→Prop}{ta tb tc td:TE}{r3:R2}
end
end VL
end
section
namespace VL
open PySem PySem.Spec PyProof.Rows L2
variable[Tabs]
section
variable{K:W.Frag}{E:FK}{X:Exc→Sl→Prop}{ρ:Sl}{DV:VEnds}{te ti:TE}{n:Nat}
end
end VL
end
section
namespace L2
open PySem PySem.Spec PyProof.Rows
noncomputable def clsBody:Stmt→List Stmt
 | .ClassDef _ _ _ b _ _ _ _ _ _ _=>b
 | _=>[]
end L2
end
section
namespace VL
open PySem PySem.Spec L2
variable[Tabs]
section
variable{K:W.Frag}{G G' H H' H0:Hp}{σ:St}{ρ:Sl}{ts:List V}{as:List TV}{v x y:V}{a b:TV}
end
section
variable{K:W.Frag}{E:FK}{X:Exc→Sl→Prop}{ρ:Sl}{Q:TV→Prop}{DV:VEnds}{ta tb tc te ti tj:TE}{i j:Int}{n:Nat}{r r':R2}{t u:TS}{a b:TV}
end
end VL
end
section
namespace L2
open PySem PySem.Spec PyProof.Rows
noncomputable def rJoin(K:W.Frag):V→List V→Hp→VK→Prop:=fun x vs H Q=>∃ (sep:Str) (b:Addr) (ts:List Str),x=.str sep∧vs=[.ref b]∧SqL K H b (ts.map V.str)∧JoinOk sep ts=true∧Q (.str (Txt.join sep ts)) H
theorem strs_of:∀ {ts:List Str} {its:List Value},Vals (ts.map V.str) its→∃ l:List (Str×Tok),strValues l=its∧l.map (·.1)=ts
 | [],[],_=>⟨[],rfl,rfl⟩
 | [],_::_,h=>by cases h
 | _::_,[],h=>by cases h
 | t::ts,u::us,h=>by
  cases h with
  | cons r rs =>
   obtain⟨k,rfl⟩:=r
   obtain⟨l,e1,e2⟩:=strs_of rs
   exact⟨(t,k)::l,by rw[← e1];rfl,by rw[← e2];rfl⟩
theorem mt_join{X:Cx}{K:W.Frag}(hK:X.K=K):MtR X "str.join" (rJoin K):=by
 subst hK
 intro pins s σ H x vs v us Q I rx rv h
 obtain⟨sep,b,ts,rfl,rfl,hq,hok,q⟩:=h
 obtain⟨t,rfl⟩:=rx
 obtain⟨u,rfl,ru⟩:=rv.one
 cases ru
 obtain⟨its,r,pl,hz⟩:=I.list hq
 obtain⟨l,e1,e2⟩:=strs_of r
 exact SC.join (l:=l) (by rw[e1];exact pl.isList) e2 hok fun t' k=>⟨.str _,H,I.tok k,⟨_,rfl⟩,q⟩
theorem Rep.str_inv{K:W.Frag}{H:Hp}{v:V}{z:Str}(h:Rep K H v (.str z)):v=.str z:=by cases h;rfl
theorem Reps.strs_inv{K:W.Frag}{H:Hp}:∀ {zs:List Str} {xs:List V},Reps K H xs (zs.map PyData.str)→xs=zs.map V.str
 | [],[],_=>rfl
 | [],_::_,h=>by cases h
 | _::_,[],h=>by cases h
 | z::zs,x::xs,h=>by
  cases h with
  | cons r rs=>rw[Rep.str_inv r,Reps.strs_inv rs];rfl
end L2
namespace VL
open PySem PySem.Spec L2
variable[Tabs]
section
variable{K:W.Frag}{E:FK}{X:Exc→Sl→Prop}{ρ:Sl}{Q:TV→Prop}{ta tb te:TE}{a b:TV}
theorem small6'{n:Nat}(h:n≤1000000):n≤sizeLine:=Nat.le_of_lt (small6 h)
theorem ix_S{z:Str}{k:Int}{c:Nat}(ha:a.data=.str z)(hz:z.length≤1000000)(e:atI z.cps.toList k=some c)(q:Q (.av (.d (.str ⟨#[c]⟩))))(na:NR a:=by first|exact NR.av|exact NR.bor):Op K E X (rIdx K) a (.av (.d (.int k))) Q:=op_r (op_r (op_l fun H0 σ ρ ts as H x y QV s _ kk=>by
 have e1:=s.top_d.int_inv
 have r:=s.pop.top na
 rw[ha] at r
 have e2:=Rep.str_inv r
 subst e1 e2
 exact⟨z,k,c,rfl,rfl,small6' hz,e,kk _ q _ _ (s.pop.pop.push fun _=>.str _)⟩))
theorem add_s{y z:Str}(ha:a.data=.str y)(hb:b.data=.str z)(hz:y.length+z.length≤1000000)(q:Q (.av (.d (.str (y++z)))))(na:NR a:=by first|exact NR.av|exact NR.bor)(nb:NR b:=by first|exact NR.av|exact NR.bor):Op K E X (rPlus K) a b Q:=op_r (op_r (op_r (op_l fun H0 σ ρ ts as H u v QV s _ kk=>by
 have r1:=s.top nb
 have r2:=s.pop.top na
 rw[hb] at r1
 rw[ha] at r2
 have e1:=Rep.str_inv r1
 have e2:=Rep.str_inv r2
 subst e1 e2
 exact⟨y,z,rfl,rfl,small6' hz,kk _ q _ _ (s.pop.pop.push fun _=>.str _)⟩)))
theorem ev_join{sep:Str}(h:Ev K E X te ρ fun a=>∃ zs:List Str,a.data=.list (zs.map .str)∧NR a∧JoinOk sep zs=true∧Q (.av (.d (.str (Txt.join sep zs))))):Ev K E X (tBM K "str" (rJoin K) (tC (.str sep)) (tCons te tNil)) ρ Q:=fun H0 σ ts as H QV s x k =>
 ⟨rfl,h H0 σ ts as H _ s x fun a ⟨zs,e,na,ok,q⟩ v H' s'=>by
  have r:=s'.top na
  rw[e] at r
  obtain⟨l,xs,rfl,h1,h2⟩:=r.list_inv
  rw[Reps.strs_inv h2] at h1
  exact⟨sep,l,zs,rfl,rfl,h1,ok,k _ q _ _ (s'.pop.push fun _=>.str _)⟩⟩
end
end VL
end
section
namespace VL
open PySem PySem.Spec L2
variable[Tabs]
section
variable{K:W.Frag}{G G' H H' H0:Hp}{σ:St}{ρ:Sl}{ts:List V}{as:List TV}{v x y:V}{a b:TV}
end
section
variable{K:W.Frag}{E:FK}{X:Exc→Sl→Prop}{ρ:Sl}{Q:TV→Prop}{a:TV}
end
end VL
end
section
namespace L2
open PySem PySem.Spec PyProof.Rows PySem.Calls
theorem strsV:∀ {vs:List Value} {zs:List Str},StrsAre vs zs→Vals (zs.map V.str) vs
 | _,_,.nil=>.nil
 | _,_,.cons x t h=>.cons ⟨t,rfl⟩ (strsV h)
end L2
namespace VL
open PySem PySem.Spec L2
open PyProof.Rows (sortedS)
variable[Tabs]
section
variable{K:W.Frag}{G G' H H' H0:Hp}{σ:St}{ρ:Sl}{ts:List V}{as:List TV}{v x y:V}{a b:TV}
theorem SR.strs(h:SR K H0 σ ρ ts as H):∀ zs:List Str,SR K H0 σ ρ (zs.map V.str++ts) ((zs.map fun z=>AV.d (.str z)).map TV.av++as) H
 | []=>h
 | z::zs=>(SR.strs h zs).push fun _=>.str z
end
section
variable{K:W.Frag}{E:FK}{X:Exc→Sl→Prop}{ρ:Sl}{Q:TV→Prop}{DV:VEnds}{ta tb te:TE}{n m:Nat}{a b:TV}
end
end VL
end
section
namespace L2
open PySem PySem.Spec PyProof.Rows
end L2
namespace VL
open PySem PySem.Spec L2
variable[Tabs]
section
variable{K:W.Frag}{E:FK}{X:Exc→Sl→Prop}{ρ:Sl}{Q:TV→Prop}{a b:TV}
end
end VL
end
section
namespace VL
open PySem PySem.Spec L2
variable[Tabs]
section
variable{K:W.Frag}{G G' H H' H0:Hp}{σ:St}{ρ:Sl}{ts:List V}{as:List TV}{v x y:V}{a b:TV}
end
section
variable{K:W.Frag}{E:FK}{X:Exc→Sl→Prop}{ρ:Sl}{Q:TV→Prop}{DV:VEnds}{te:TE}{a b:TV}{i j k:Nat}
end
end VL
end
section
namespace L2
open PySem PySem.Spec PyProof.Rows
end L2
namespace VL
open PySem PySem.Spec L2
variable[Tabs]
section
variable{K:W.Frag}{G G' H H' H0:Hp}{σ:St}{ρ:Sl}{ts:List V}{as:List TV}{v x y:V}{a b:TV}
end
section
variable{K:W.Frag}{E:FK}{X:Exc→Sl→Prop}{ρ:Sl}{Q:TV→Prop}{DV:VEnds}{te tb:TE}{n m i j:Nat}{a b:TV}{r:R2}
end
end VL
end
section
namespace L2
open PySem PySem.Spec PyProof.Rows
end L2
namespace VL
open PySem PySem.Spec L2
open Classical
variable[Tabs]
section
variable{K:W.Frag}{G G' H H' H0:Hp}{σ:St}{ρ:Sl}{ts:List V}{as:List TV}{v:V}
end
section
variable{P:Program}{w:World}{K:W.Frag}{mg:Str→Option Value}{base:Heap}{CX:CXT}{k:Nat}{sp:Sp}{v:V}{G G':Hp}
end
section
variable{K:W.Frag}{E:FK}{X:Exc→Sl→Prop}{ρ:Sl}{DV:VEnds}{n:Nat}{Pre:List AV→Prop}{Post:List AV→AV→Prop}
end
end VL
end
section
namespace VL
open PySem PySem.Spec PyProof.Rows L2
variable[Tabs]
section
variable{K:W.Frag}{G H H' H0:Hp}{σ:L2.St}{ρ:Sl}{ts:List V}{as:List TV}
variable{E:FK}{X:Exc→Sl→Prop}
variable{S:List Nat}{DV:VEnds}{t u:TS}
end
section
variable{P:Program}{w:World}{K:W.Frag}{mg:Str→Option Value}{base:Heap}{CX:CXT}{x:Str}{st:Stmt}{N ps:List Str}{dvss:List (List V)}{k:Nat}{Pre:List AV→Prop}{Post:List AV→List AV→Prop}
end
end VL
end
section
namespace VL
open PySem PySem.Spec PyProof.Rows L2
variable[Tabs]
section
variable{K:W.Frag}{G H H' H0:Hp}{σ:L2.St}{ρ:Sl}{ts:List V}{as:List TV}{E:FK}{X:Exc→Sl→Prop}{DV:VEnds}{n:Nat}{te ti:TE}
variable{S:List Nat}{t u:TS}
end
end VL
end
section
namespace L2
open PySem PySem.Spec PyProof.Rows
section
variable{X:Cx}{o e f:Expr}{apos cpos:Pos}{td ty tx:TE}
end
end L2
namespace VL
open PySem PySem.Spec L2
variable[Tabs]
section
variable{K:W.Frag}{E:FK}{X:Exc→Sl→Prop}{ρ:Sl}{Q:TV→Prop}{DV:VEnds}{ta tb tc te ti:TE}{a b:TV}{n:Nat}
end
end VL
end
section
namespace L2
open PySem PySem.Spec PyProof.Rows
section
variable{prog:Program}{w:World}{A:Around}{E:Value→Shared→Prop}{s:Shared}
variable{z ti to' j1 j2 m1 m2:Addr}{k:Nat}{us vs:Array Value}{a b:Value}
end
end L2
end
section
namespace L2
open PySem PySem.Spec PyProof.Rows
noncomputable abbrev nT(n:Int):Str:=Str.ofString (toString n)
theorem log_small{n:Int}(h:-(2 ^ 64)≤n∧n≤2 ^ 64):n.natAbs.log2<1920:=by
 have h1:n.natAbs<2 ^ 65:=by omega
 by_cases z:n.natAbs=0
 ·rw[z];decide
 ·have:=(Nat.log2_lt z).mpr h1
  omega
noncomputable def rStrI:List V→Hp→VK→Prop:=fun xs H Q=>∃ n:Int,xs=[.int n]∧(-(2 ^ 64)≤n∧n≤2 ^ 64)∧Q (.str (nT n)) H
theorem call_strI{X:Cx}:CallR X (.type "str") rStrI:=by
 intro pins s σ H xs us Q I rv h
 obtain⟨n,rfl,hn,q⟩:=h
 obtain⟨u,rfl,t,rfl⟩:=rv.one
 exact P.str_of_int (log_small hn) ⟨.str _,H,I.tok _,⟨_,rfl⟩,q⟩
end L2
namespace VL
open PySem PySem.Spec L2
variable[Tabs]
section
variable{K:W.Frag}{E:FK}{X:Exc→Sl→Prop}{ρ:Sl}{Q:TV→Prop}{DV:VEnds}{ta tb tc te ti:TE}{a b:TV}{n:Nat}
theorem bi_strI{n:Int}(ha:a.data=.int n)(hn:-(2 ^ 64)≤n∧n≤2 ^ 64)(q:Q (.av (.d (.str (nT n)))))(na:NR a:=by first|exact NR.av|exact NR.bor):Bi K E X rStrI [a] Q:=fun H0 σ ρ ts as H vs QV s hl _ k=>by
 obtain⟨v,rfl,s⟩:=one_of s hl
 have r:=s.top na
 rw[ha] at r
 exact⟨n,by rw[r.int_inv],hn,k _ q _ H (s.pop.push fun _=>.str _)⟩
end
end VL
end
section
namespace L2
open PySem PySem.Spec PyProof.Rows
section
variable{X:Cx}{i:Nat}{n x x':Str}{C C':Value}{np hpos np' hpos' pos:Pos}{body suite suite':List Stmt}{b₀ b₁:Stmt}{tb:FK→TS}{th th':TS}
end
end L2
namespace VL
open PySem PySem.Spec PyProof.Rows L2
variable[Tabs]
section
variable{K:W.Frag}{F:FK}{X:Exc→Sl→Prop}{ρ:Sl}{DV:VEnds}
end
section
variable{K:W.Frag}{E:FK}{X:Exc→Sl→Prop}{ρ:Sl}{Q:TV→Prop}{a b:TV}
end
end VL
end
section
namespace L2
open PySem PySem.Spec PyProof.Rows
noncomputable def byT(w:World):Bool:=w.params.followText "set-order"
noncomputable abbrev sK(P:Program)(w:World):PySem.KeyKind P w Str:=PySem.strKind P w
noncomputable def SetT(P:Program)(w:World)(h:Heap)(a:Addr)(zs:List Str):Prop :=
 ∃ o es ep t,h.get? a=some o∧o.ExactSet∧o.data=.set es ep t∧ElemsOf (sK P w) es.toList∧StrsAre (es.toList.map Prod.snd) zs∧zs.Nodup∧es.size<scanBound∧t.fits es.size=true∧t.led=(!byT w)∧(es.size≠0→t.plain=false)
theorem strs_perm:∀ {vs' vs:List Value} {zs:List Str},vs'.Perm vs→StrsAre vs zs→∃ zs',StrsAre vs' zs'∧zs'.Perm zs:=by
 intro vs' vs zs p
 induction p generalizing zs with
 | nil=>intro h;exact⟨zs,h,.refl _⟩
 | cons x _ ih =>
  intro h
  cases h with
  | cons y t h =>
   obtain⟨zs',h1,h2⟩:=ih h
   exact⟨_,.cons y t h1,h2.cons _⟩
 | swap x y l =>
  intro h
  cases h with
  | cons y t h =>
   cases h with
   | cons y' t' h=>exact⟨_,.cons y' t' (.cons y t h),.swap _ _ _⟩
 | trans _ _ ih1 ih2 =>
  intro h
  obtain⟨z1,a1,a2⟩:=ih2 h
  obtain⟨z2,b1,b2⟩:=ih1 a1
  exact⟨z2,b1,b2.trans a2⟩
theorem strs_app:∀ {vs us:List Value} {zs ys:List Str},StrsAre vs zs→StrsAre us ys→StrsAre (vs++us) (zs++ys)
 | _,_,_,_,.nil,h=>h
 | _,_,_,_,.cons y t h,g=>.cons y t (strs_app h g)
theorem strs_len:∀ {vs:List Value} {zs:List Str},StrsAre vs zs→vs.length=zs.length
 | _,_,.nil=>rfl
 | _,_,.cons _ _ h=>congrArg (· + 1) (strs_len h)
theorem strs_mem{P:Program}{w:World}{z:Str}:∀ {es:List (Int×Value)} {zs:List Str},StrsAre (es.map Prod.snd) zs→(z∈zs↔∃ e∈es,(sK P w).is z e.2=true)
 | [],_,.nil=>by simp
 | e::es,zs,h=>by
  obtain⟨hh,v⟩:=e
  rw[List.map_cons] at h
  cases h with
  | cons y t h =>
   have ih:=strs_mem (P:=P) (w:=w) (z:=z) h
   rw[List.mem_cons,ih]
   constructor
   ·rintro (rfl|⟨e,he,q⟩)
    ·exact⟨_,.head _,strKind_is P w _ _⟩
    ·exact⟨e,.tail _ he,q⟩
   ·rintro⟨e,he,q⟩
    rcases List.mem_cons.mp he with rfl|he
    ·exact .inl ((sK P w).inj _ _ _ q (strKind_is P w _ _))
    ·exact .inr ⟨e,he,q⟩
theorem orStandIn_led(t:SetTable)(n:Nat):(t.orStandIn n).led=t.led∧((t.orStandIn n).plain=true→t.plain=true):=by
 unfold SetTable.orStandIn
 split
 ·exact⟨rfl,id⟩
 ·exact⟨rfl,fun h=>by cases h⟩
theorem layNew_led(t:SetTable)(es:Array (Int×Value))(h:Int)(x:Value):(layNew t es h x).2.1.led=t.led:=by
 unfold layNew
 split
 ·exact (orStandIn_led _ _).1
 ·rfl
theorem relaid_led{t t':SetTable}{hs:Array Int}{n:Nat}{o:Array Nat}(e:t.relaid hs n=some (t',o)):t'.led=t.led∧t'.plain=t.plain:=by
 unfold SetTable.relaid SetTable.laid at e
 simp only[Option.bind_eq_bind,Option.bind_eq_some_iff] at e
 obtain⟨ow,_,e⟩:=e
 cases e
 exact⟨rfl,rfl⟩
theorem relayAll_led(t:SetTable)(es:Array (Int×Value))(n:Nat):(relayAll t es n).2.1.led=t.led∧(t.plain=false→(relayAll t es n).2.1.plain=false):=by
 unfold relayAll
 split
 ·rename_i t' o e
  obtain⟨e1,e2⟩:=relaid_led e
  dsimp only
  split
  ·exact⟨e1,fun h=>by rw[← h];exact e2⟩
  ·exact⟨rfl,fun _=>rfl⟩
 ·exact⟨rfl,fun _=>rfl⟩
section
variable{P:Program}{w:World}{A:Around}{E:Value→Shared→Prop}{s:Shared}
theorem SetT_store{h:Heap}{a:Addr}{o:Obj}{es:Array (Int×Value)}{ep:Nat}{t:SetTable}(ho:h.get? a=some o)(hex:o.ExactSet)(hd:o.data=.set es ep t)
  {es':Array (Int×Value)} {t':SetTable} {zs:List Str} (hel:ElemsOf (sK P w) es'.toList) (hst:StrsAre (es'.toList.map Prod.snd) zs) (hnd:zs.Nodup) (hb:es'.size<scanBound) (hf:t'.fits es'.size=true) (hl:t'.led=(!byT w)) (hp:t'.plain=false) :
  (h.update a (Obj.putSet es' t')).get? a=some { o with data:=.set es' (ep+1) t' }∧SetT P w (h.update a (Obj.putSet es' t')) a zs:=by
 have hg:(h.update a (Obj.putSet es' t')).get? a=some { o with data:=.set es' (ep+1) t' }:=by
  have:=Heap.get?_update_self (Obj.putSet es' t') ho (by rw[putSet_of es' t' hd];rfl)
  rw[putSet_of es' t' hd] at this;exact this
 exact⟨hg,_,es',ep+1,t',hg,hex,rfl,hel,hst,hnd,hb,hf,hl,fun _=>hp⟩
theorem addTailT{g:Bool→Sem Unit}(hg:∀ (b:Bool) (s₁:Shared) (Q':Unit→Shared→Prop),Q' () s₁→wpAny (model P w) A (g b) Q' E s₁)
  {a:Addr} {o:Obj} {es:Array (Int×Value)} {ep:Nat} {t:SetTable} (ho:s.heap.get? a=some o) (hex:o.ExactSet) (hd:o.data=.set es ep t)
  {es1:Array (Int×Value)} {t2:SetTable} {zs:List Str} (hel1:ElemsOf (sK P w) es1.toList) (hst:StrsAre (es1.toList.map Prod.snd) zs) (hnd:zs.Nodup)
  (hb1:es1.size<scanBound) (hf2:t2.fits es1.size=true) (hl:t2.led=(!byT w)) (hp:t2.plain=false) {wasDummy:Bool} {R:Option Bool→Shared→Prop}
  (h:∀ h' zs',Heap.SameBut a s.heap h'→SetT P w h' a zs'→zs'.Perm zs→R (some true) { s with heap:=h' }) :
  wpAny (model P w) A (do
    storeSet a es1 t2
    if (!wasDummy && t2.tooFull)=true then do
      g (relayAll t2 es1 (SetTable.grown es1.size)).2.2
      storeSet a (relayAll t2 es1 (SetTable.grown es1.size)).1 (relayAll t2 es1 (SetTable.grown es1.size)).2.1
      pure (some true)
     else pure (some true)) R E s:=by
 refine wpAny_bind (wpAny_storeSet_of ho hd ?_ (fits_of_scanBound hb1))
 obtain⟨ho1,hS1⟩:=SetT_store (P:=P) (w:=w) ho hex hd hel1 hst hnd hb1 hf2 hl hp
 have hsb1:=Heap.SameBut.update s.heap a (Obj.putSet es1 t2)
 split
 ·have hpm:=relayAll_perm t2 es1 (SetTable.grown es1.size)
  have hfr:=relayAll_fits t2 es1 (SetTable.grown es1.size)
  obtain⟨hl2,hp2⟩:=relayAll_led t2 es1 (SetTable.grown es1.size)
  generalize hRl:relayAll t2 es1 (SetTable.grown es1.size)=Rl at hpm hfr hl2 hp2 ⊢
  obtain⟨es2,t3,gave2⟩:=Rl
  dsimp only at hpm hfr hl2 hp2 ⊢
  have hel2:ElemsOf (sK P w) es2.toList:=hel1.perm hpm
  obtain⟨zs',hst2,hzp⟩:=strs_perm (hpm.map Prod.snd) hst
  have hsz:es2.size=es1.size:=by rw[← Array.length_toList,hpm.length_eq,Array.length_toList]
  have hb2:es2.size<scanBound:=by rw[hsz];exact hb1
  refine wpAny_bind (hg _ _ _ ?_)
  refine wpAny_bind (wpAny_storeSet_of ho1 rfl ?_ (fits_of_scanBound hb2))
  obtain⟨_,hS2⟩:=SetT_store (P:=P) (w:=w) ho1 hex rfl hel2 hst2 (hzp.nodup_iff.mpr hnd) hb2 hfr (hl2.trans hl) (hp2 hp)
  exact wpAny_pure (h _ _ (hsb1.trans (Heap.SameBut.update _ a _)) hS2 hzp)
 ·exact wpAny_pure (h _ _ hsb1 hS1 (.refl _))
theorem add_text{a:Addr}{zs:List Str}{z:Str}{tk:Tok}{Q:Bool→Shared→Prop}(hS:SetT P w s.heap a zs)(hroom:zs.length+1<scanBound)
  (h:∀ h' zs' b,Heap.SameBut a s.heap h'→SetT P w h' a zs'→(∀ y,y∈zs'↔y∈zs∨y=z)→zs'.length≤zs.length+1→Q b { s with heap:=h' }) :
  wpAny (model P w) A (setAddHashed a (.str z tk) ((sK P w).hash z)) Q E s:=by
 obtain⟨o,es,ep,t,ho,hex,hd,hel,hst,hnd,hb,hf,hl,hp⟩:=hS
 have hlen:es.size=zs.length:=by have:=strs_len hst;rwa [List.length_map,Array.length_toList] at this
 have hkey:=strKind_is P w z tk
 have hsc:(Value.str z tk).scannable=true:=rfl
 have hb1:es.size+1<scanBound:=by rw[hlen];exact hroom
 unfold setAddHashed setAddHashedIn
 refine wpAny_holding (wpAny_bind (wpAny_setState_of ho hd hf ?_))
 dsimp only
 rw[byScan_of hsc hb hel]
 simp only[↓reduceIte]
 unfold setAddByScan
 refine wpAny_bind ?_
 refine wpAny_bind (wpAny_rule ?_)
 refine wpAny_bind (wpAny_setScan_of hkey ho hd hf hel ?_)
 cases hr:List.findIdx? (fun e=>(sK P w).is z e.2) es.toList with
 | some j =>
  dsimp only
  obtain⟨hj,hpj,_⟩:=List.findIdx?_eq_some_iff_getElem.mp hr
  have hz:z∈zs:=(strs_mem hst).mpr ⟨es.toList[j],List.getElem_mem hj,hpj⟩
  refine wpAny_pure (wpAny_pure ?_)
  have e:s={ s with heap:=s.heap }:=by cases s;rfl
  rw[e]
  exact h s.heap zs _ (Heap.SameBut.refl a s.heap) ⟨o,es,ep,t,ho,hex,hd,hel,hst,hnd,hb,hf,hl,hp⟩ (fun y=>⟨.inl,fun q=>q.elim id fun e=>e▸hz⟩) (Nat.le_succ _)
 | none =>
  dsimp only
  have hz:z∉zs:=fun q=>by
   obtain⟨e,he,hpe⟩:=(strs_mem (P:=P) (w:=w) hst).mp q
   have:=List.findIdx?_eq_none_iff.mp hr e he
   rw[hpe] at this;exact Bool.noConfusion this
  have hgw:∀ (b:Bool) {s₁:Shared} {Q':Unit→Shared→Prop},Q' () s₁→wpAny (model P w) A (match b with|true=>rule "set.scan.the-table-gave-way" | false=>pure ()) Q' E s₁ :=
   fun b s₁ Q' hq=>by cases b<;>first|exact wpAny_pure hq|exact wpAny_rule hq
  have hperm:=layNew_perm t es ((sK P w).hash z) (.str z tk)
  have hfits:=layNew_fits t es ((sK P w).hash z) (.str z tk)
  have hled:=layNew_led t es ((sK P w).hash z) (.str z tk)
  generalize hL:layNew t es ((sK P w).hash z) (.str z tk)=L at hperm hfits hled ⊢
  obtain⟨es1,t1,wasDummy,gave⟩:=L
  dsimp only at hperm hfits hled ⊢
  rw[Array.toList_push] at hperm
  have hel1:ElemsOf (sK P w) es1.toList:=(hel.push hkey hsc).perm hperm
  have hst0:StrsAre ((es.toList++[((sK P w).hash z,Value.str z tk)]).map Prod.snd) (zs++[z]):=by rw[List.map_append];exact strs_app hst (.cons z tk .nil)
  obtain⟨zs1,hst1,hzp⟩:=strs_perm (hperm.map Prod.snd) hst0
  have hnd1:zs1.Nodup:=hzp.nodup_iff.mpr (by rw[List.nodup_append];exact⟨hnd,by simp,fun a ha b hb e=>hz (by rw[List.mem_singleton.mp hb] at e;exact e▸ha)⟩)
  have hb1':es1.size<scanBound:=by rw[← Array.length_toList,hperm.length_eq,List.length_append,Array.length_toList];simpa using hb1
  have hend:∀ h' zs',Heap.SameBut a s.heap h'→SetT P w h' a zs'→zs'.Perm zs1→Q true { s with heap:=h' }:=fun h' zs' hsb hS' hp' =>
   h h' zs' true hsb hS' (fun y=>by rw[(hp'.trans hzp).mem_iff];simp) (by rw[(hp'.trans hzp).length_eq,List.length_append];exact Nat.le_refl _)
  refine wpAny_bind (hgw _ ?_)
  split
  ·refine wpAny_bind ?_
   rw[hashByValue_scannable 8 hsc]
   refine wpAny_pure ?_
   refine addTailT (t2:={ t1 with plain:=false }) ?_ ho hex hd hel1 hst1 hnd1 hb1' (SetTable.fits_plain_off hfits) (hled.trans hl) rfl ?_
   ·intro b s₁ Q' hq;cases b<;>first|exact wpAny_pure hq|exact wpAny_rule hq
   ·intro h' zs' hsb hS' hp';dsimp only;exact wpAny_pure (hend h' zs' hsb hS' hp')
  ·rename_i hpl
   refine wpAny_bind (wpAny_pure ?_)
   simp only[↓reduceIte]
   refine addTailT ?_ ho hex hd hel1 hst1 hnd1 hb1' hfits (hled.trans hl) (by simpa using hpl) ?_
   ·intro b s₁ Q' hq;cases b<;>first|exact wpAny_pure hq|exact wpAny_rule hq
   ·intro h' zs' hsb hS' hp';dsimp only;exact wpAny_pure (hend h' zs' hsb hS' hp')
end
end L2
end
section
namespace L2
open PySem PySem.Spec PyProof.Rows
section
variable{P:Program}{w:World}{A:Around}{E:Value→Shared→Prop}{s:Shared}
theorem code_set_newT(a:Value){Q₁:Value→Shared→Prop}
  (h:Q₁ (.ref s.heap.objs.size) { s with heap:=s.heap.push { cls:=.type "set",dict:=none,data:=.set #[] 0 (.fresh 0 0 (!byT w)) } }) :
  codeAny (model P w) A (.call (.builtin "set.__new__") ⟨[.type "set",a],[]⟩) (wants Q₁ E) s:=by
 refine codeAny_of_tree ?_
 show wpAny _ A.in1 (do checkBuiltinCall "set.__new__" ⟨[.type "set",a],[]⟩;again (.builtin "set.__new__" ⟨[.type "set",a],[]⟩)) _ _ s
 refine wpAny_bind (wpAny_of_eq (PySem.F.newCall_set_1 a) (wpAny_pure ⟨plainId_quiet PySem.F.plain_set_new _,codeAny_builtin PySem.F.entry_set_new ?_⟩))
 rw[Around.under_plainId PySem.F.plain_set_new _]
 unfold Builtin.«set.__new__» Builtin.Frozenset.newClass
 have hsub:=sub_set_self
 obtain⟨hp,g,d,tk,os⟩:=s
 dsimp only
 wp_walk
 refine wpAny_askSetting (wpAny_pure ?_)
 dsimp only
 simp only[newObj]
 refine wpAny_bind (wpAny_alloc (wpAny_pure ?_))
 exact wpAny_pure h
end
section
variable{P:Program}{w:World}{A:Around}{R:Result→Shared→Prop}{I:Addr}{fp wr:List Addr}{G:Array GenState→Array GenState→Prop}{n:Nat}{Pv:Nat→Value→Prop}{St:Nat→Shared→Prop}
theorem SetT.moved{h h':Heap}{a:Addr}{zs:List Str}(hS:SetT P w h a zs)(k:∀ o,h.get? a=some o→h'.get? a=some o):SetT P w h' a zs:=by
 obtain⟨o,es,ep,t,ho,rest⟩:=hS
 exact⟨o,es,ep,t,k o ho,rest⟩
theorem set_loopT(W:WalksS P w A.in1 I fp wr G n Pv St)(S:Addr)(hSf:S∉fp)(val:Nat→Str)(hval:∀ i v,Pv i v→∃ t,v=.str (val i) t)(hb:n+1<scanBound) :
  ∀ (k i:Nat) (s:Shared) (zs:List Str),n-i=k→i≤n→St i s→SetT P w s.heap S zs→zs.length≤i→(∀ y,y∈zs↔∃ j,j<i∧y=val j) →
   (∀ s' zs',Moved (S::wr) G s s'→SetT P w s'.heap S zs'→(∀ y,y∈zs'↔∃ j,j<n∧y=val j)→zs'.length≤n→R (.ok (.ret .none)) s') →
   codeAny (model P w) A (.builtin "set.update.loop" ⟨[.ref S,.ref I],[]⟩) R s:=by
 have hSw:S∉wr:=fun h=>hSf (W.sub _ h)
 have hsub:∀ b∈wr,b∈S::wr:=fun b hb=>List.mem_cons_of_mem _ hb
 intro k
 induction k with
 | zero =>
  intro i s zs hk hi hst hS hl hm hR
  have hin:i=n:=by omega
  subst hin
  refine codeAny_builtin PyProof.Rows.F.entry_set_update_loop ?_
  rw[Around.under_plainId PyProof.Rows.F.plain_set_update_loop _]
  show wpAny _ A.in1 (pyNext (.ref I) >>= _) _ _ s
  refine wpAny_bind (W.done s _ _ hst fun s' hmv=>?_)
  show wpAny _ A.in1 (ret Value.none) _ _ s'
  exact wpAny_pure (hR s' zs (hmv.mono hsub) (hS.moved fun o e=>hmv.heap S _ hSw e) hm hl)
 | succ k ih =>
  intro i s zs hk hi hst hS hl hm hR
  have hlt:i<n:=by omega
  refine codeAny_builtin PyProof.Rows.F.entry_set_update_loop ?_
  rw[Around.under_plainId PyProof.Rows.F.plain_set_update_loop _]
  show wpAny _ A.in1 (pyNext (.ref I) >>= _) _ _ s
  refine wpAny_bind (W.item i s _ _ hlt hst fun v s' hP hst' hmv=>?_)
  obtain⟨t,rfl⟩:=hval i v hP
  have hS':SetT P w s'.heap S zs:=hS.moved fun o e=>hmv.heap S _ hSw e
  show wpAny _ A.in1 (holding [Value.str (val i) t] (setAdd S (.str (val i) t)) >>= _) _ _ s'
  refine wpAny_bind (wpAny_holding ?_)
  unfold setAdd
  refine wpAny_holding ?_
  refine wpAny_bind ((sK P w).pyHash (k:=val i) (strKind_is P w _ _) ?_)
  refine add_text (s:={ s' with toks:=s'.toks+1 }) hS' (by omega) fun h' zs' b hsb hS2 hm2 hl2=>?_
  refine wpAny_pure ⟨plainId_quiet PyProof.Rows.F.plain_set_update_loop _,ih (i+1) _ zs' (by omega) hlt (W.frame _ s' _ _ hst' (Nat.le_succ _) fun b hb o e=>?_) hS2 (by omega) (fun y=>?_) fun s'' zs'' hm'' hS'' hmm hll=>?_⟩
  ·rw[hsb.2 b (fun h:b=S=>hSf (by rw[← h];exact hb))];exact e
  ·rw[hm2,hm]
   constructor
   ·rintro (⟨j,hj,e⟩|e)
    ·exact⟨j,by omega,e⟩
    ·exact⟨i,by omega,e⟩
   ·rintro⟨j,hj,e⟩
    by_cases q:j=i
    ·subst q;exact .inr e
    ·exact .inl ⟨j,by omega,e⟩
  ·refine hR s'' zs'' (Moved.trans W.gtrans ((hmv.mono hsub).then_heap (Nat.le_succ _) fun b o hb e=>?_) hm'') hS'' hmm hll
   rw[hsb.2 b (fun h:b=S=>hb (by rw[h];exact List.mem_cons_self))];exact e
end
theorem strs_at:∀ {vs:List Value} {ns:List Str},StrsAre vs ns→∀ (i:Nat) (v:Value),vs[i]?=some v→∃ t,v=.str (ns.getD i Str.empty) t
 | _,_,.nil,i,v,h=>by simp at h
 | _,_,.cons n t hr,0,v,h=>by simp at h;exact⟨t,by rw[← h];rfl⟩
 | _,_,.cons n t hr,i+1,v,h=>by
  simp only[List.getElem?_cons_succ] at h
  obtain⟨t',e⟩:=strs_at hr i v h
  exact⟨t',by rw[e];rfl⟩
section
variable{P:Program}{w:World}{A:Around}{E:Value→Shared→Prop}{s:Shared}
theorem call_setT0{l:Addr}{items:Array Value}{ns:List Str}{Q:Value→Shared→Prop}
  (hh:A.handled=none) (hl:s.heap.IsList l items) (hi:StrsAre items.toList ns) (hb:items.size+1<scanBound)
  (h:∀ (h':Heap) (tk:Nat) (zs:List Str),SetT P w h' s.heap.objs.size zs→(∀ y,y∈zs↔y∈ns)→zs.length≤ns.length →
   (∀ b o,b<s.heap.objs.size→s.heap.get? b=some o→h'.get? b=some o)→Q (.ref s.heap.objs.size) { s with heap:=h',toks:=tk }) :
  wpAny (model P w) A (call (.type "set") [.ref l]) Q E s:=by
 have hlen:items.size=ns.length:=by have:=strs_len hi;rwa [Array.length_toList] at this
 have hmem:∀ y,(∃ j,j<items.size∧y=ns.getD j Str.empty)↔y∈ns:=fun y=>by
  constructor
  ·rintro⟨j,hj,rfl⟩
   rw[List.getD_eq_getElem?_getD,List.getElem?_eq_getElem (by omega)]
   exact List.getElem_mem _
  ·intro hy
   obtain⟨j,hj,rfl⟩:=List.getElem_of_mem hy
   exact⟨j,by omega,by rw[List.getD_eq_getElem?_getD,List.getElem?_eq_getElem hj];rfl⟩
 obtain⟨c,tl,hmro⟩:=PySem.F.called_set.mro
 have hmade:=PySem.F.called_set.made
 have hsub:=PySem.F.called_set.sub
 refine wpAny_call (codeAny_of_tree ?_)
 show wpAny _ _ (callAny (.type "set") _) _ _ _
 refine wpAny_pure ⟨Code.quiet_builtin _ (by decide +kernel),codeAny_builtin PySem.F.entry_type_call ?_⟩
 rw[Around.under_plain (weight_type_call_type "set" [.ref l] []) rfl]
 have h1:=PySem.F.called_set.notType
 have h2:=PySem.F.called_set.canCreate
 have hct:=PySem.F.typeCall_set_1 (.ref l)
 repeat (any_goals (first|assumption|wp_step))
 refine codeAny_mono (code_set_newT (.ref l) (E:=E) (Q₁:=fun obj s₁=>obj=.ref s.heap.objs.size∧s₁={ s with heap:=s.heap.push { cls:=.type "set",dict:=none,data:=.set #[] 0 (.fresh 0 0 (!byT w)) } }) ⟨rfl,rfl⟩) fun r s₁ hr=>?_
 cases r with
 | error e=>exact hr
 | ok fl =>
  cases fl with
  | ret obj =>
   obtain⟨rfl,rfl⟩:=hr
   have hS:(s.heap.push { cls:=.type "set",dict:=none,data:=.set #[] 0 (.fresh 0 0 (!byT w)) }).get? s.heap.objs.size=some { cls:=.type "set",dict:=none,data:=.set #[] 0 (.fresh 0 0 (!byT w)) }:=Heap.get?_push_size _ rfl
   have hT:Shared.TypeIs { s with heap:=s.heap.push { cls:=.type "set",dict:=none,data:=.set #[] 0 (.fresh 0 0 (!byT w)) } } (.ref s.heap.objs.size) "set" := ⟨_,hS,rfl⟩
   have hli:=PySem.F.called_set.init.lookup
   have hbi:=PySem.F.called_set.init.bind (.ref s.heap.objs.size)
   repeat (any_goals (first|assumption|wp_step))
   refine codeAny_mono (codeAny_call_builtin (R:=wants (fun r s₂=>r=.none∧∃ h' tk zs,s₂={ s with heap:=h',toks:=tk } ∧
     SetT P w h' s.heap.objs.size zs∧(∀ y,y∈zs↔y∈ns)∧zs.length≤ns.length ∧
     (∀ b o,b<s.heap.objs.size→s.heap.get? b=some o→h'.get? b=some o)) E) PySem.F.called_set.init.plain PySem.F.entry_set_init (check_set_init_1 hT ?_)) fun r₂ s₂ hr₂=>?_
   ·obtain⟨ol,hol,hcl,nl,hdl⟩:=hl
    obtain⟨ocls,odict,odata,oslots⟩:=ol
    simp only at hcl hdl
    subst hcl;subst hdl
    have hol':(s.heap.push { cls:=.type "set",dict:=none,data:=.set #[] 0 (.fresh 0 0 (!byT w)) }).get? l=some { cls:=.type "list",dict:=odict,data:=.seq items nl,slots:=oslots }:=Heap.get?_push_of_some _ hol
    have hsls:=PySem.F.sub_list_set
    have hslf:=PySem.F.sub_list_frozenset
    have hne:(Value.type "list" == Value.type "dict")=false:=by decide
    have hl1:(s.heap.push { cls:=.type "set",dict:=none,data:=.set #[] 0 (.fresh 0 0 (!byT w)) }).IsList l items:=⟨_,hol',rfl,nl,rfl⟩
    unfold Builtin.«set.__init__» noKeywords Builtin.Frozenset.updateFrom
    generalize hPI:pyIter=PI
    wp_walk
    subst hPI
    refine wpAny_pyIter_list hl1 ?_
    refine wpAny_bind (wpAny_runValue ?_)
    have hlS:l<s.heap.objs.size:=Heap.lt_size hol
    have hh3:A.in1.in1.in1.handled=none:=by simp[hh]
    have hneI:l≠(s.heap.push { cls:=.type "set",dict:=none,data:=.set #[] 0 (.fresh 0 0 (!byT w)) }).objs.size:=by
     rw[Heap.size_push];exact Nat.ne_of_lt (Nat.lt_succ_of_lt hlS)
    have hSf:s.heap.objs.size∉[(s.heap.push { cls:=.type "set",dict:=none,data:=.set #[] 0 (.fresh 0 0 (!byT w)) }).objs.size,l]:=by
     rw[Heap.size_push];simp only[List.mem_cons,List.mem_singleton,List.not_mem_nil,or_false,not_or]
     exact⟨Nat.ne_of_lt (Nat.lt_succ_self _),Nat.ne_of_gt hlS⟩
    have hval:∀ (i:Nat) (v:Value),items[i]?=some v→∃ t,v=.str ((fun i=>ns.getD i Str.empty) i) t:=fun i v hv =>
     strs_at hi i v (by rw[Array.getElem?_toList];exact hv)
    refine set_loopT ((Walks.list hh3 _ l hneI items).toS) s.heap.objs.size
     hSf (fun i=>ns.getD i Str.empty) hval hb (items.size-0) 0 _ [] (by omega) (Nat.zero_le _)
     ⟨⟨_,Heap.get?_push_size _ rfl,rfl,rfl⟩,(hl1.push _)⟩ ?hS0 (Nat.le_refl _) (fun y=>by simp) ?hR
    case hS0 =>
     have hget:((s.heap.push { cls:=.type "set",dict:=none,data:=.set #[] 0 (.fresh 0 0 (!byT w)) }).push { cls:=.type "list_iterator",data:=.fields #[.ref l,.int 0 0] }).get? s.heap.objs.size
       = some { cls:=.type "set",dict:=none,data:=.set #[] 0 (.fresh 0 0 (!byT w)) }:=Heap.get?_push_of_some _ hS
     exact⟨_,#[],0,_,hget,⟨rfl,rfl,rfl⟩,rfl,fun e he=>by simp at he,.nil,.nil,by decide,by rfl,rfl,fun z=>absurd rfl z⟩
    case hR =>
     intro s' zs' hm hS' hmm hll
     obtain⟨h',g',d',tk',os'⟩:=s'
     have eg:g'=s.gens:=hm.gens
     have ed:d'=s.drawn:=hm.drawn
     have eo:os'=s.os:=hm.os
     subst eg;subst ed;subst eo
     show wpAny _ _ _ _ _ _
     refine wpAny_pure ?_
     show wpAny _ _ (ret Value.none) _ _ _
     refine wpAny_pure ⟨rfl,h',tk',zs',rfl,hS',fun y=>(hmm y).trans (hmem y),by omega,fun b o hb e=>?_⟩
     have hb1:b≠s.heap.objs.size:=Nat.ne_of_lt hb
     have hb2:b≠(s.heap.push { cls:=.type "set",dict:=none,data:=.set #[] 0 (.fresh 0 0 (!byT w)) }).objs.size:=by
      rw[Heap.size_push];exact Nat.ne_of_lt (Nat.lt_succ_of_lt hb)
     exact hm.heap b o (by simp only[List.mem_cons,List.mem_singleton,List.not_mem_nil,or_false,not_or];exact⟨hb1,hb2⟩) (Heap.get?_push_of_some _ (Heap.get?_push_of_some _ e))
   ·cases r₂ with
    | error e=>exact hr₂
    | ok fl₂ =>
     cases fl₂ with
     | ret r =>
      obtain⟨rfl,h',tk,zs,rfl,hS',hmm,hll,hk'⟩:=hr₂
      repeat (any_goals (first|assumption|wp_step))
      exact h _ _ _ hS' hmm hll hk'
     | _=>exact hr₂.elim
  | _=>exact hr.elim
end
end L2
end
section
namespace L2
open PySem PySem.Spec PyProof.Rows
theorem erase_perm{α:Type}:∀ {l:List α} {i:Nat} (h:i<l.length),(l[i]::l.eraseIdx i).Perm l
 | x::l,0,_=>.refl _
 | x::l,i+1,h=>by
  have:=erase_perm (l:=l) (i:=i) (by simpa using h)
  exact (List.Perm.swap ..).trans (this.cons x)
theorem pick_go{α:Type}(next:Nat→Nat):∀ (fuel k:Nat) (left:List α) (out:Array α),fuel=left.length→(pickOrder.go next fuel k left out).toList.Perm (out.toList++left)
 | 0,k,left,out,h=>by
  cases left with
  | nil=>simp[pickOrder.go]
  | cons _ _=>cases h
 | fuel+1,k,left,out,h=>by
  have hl:next k%left.length<left.length:=Nat.mod_lt _ (by omega)
  rw[pickOrder.go,List.getElem?_eq_getElem hl]
  dsimp only
  refine (pick_go next fuel (k+1) _ _ (by rw[List.length_eraseIdx,if_pos hl];omega)).trans ?_
  rw[Array.toList_push,List.append_assoc]
  exact List.Perm.append_left _ (erase_perm hl)
theorem pick_perm{α:Type}(next:Nat→Nat)(xs:Array α):(pickOrder next xs).toList.Perm xs.toList:=by
 unfold pickOrder
 simpa using pick_go next xs.size 0 xs.toList #[] (by simp)
section
variable{M:Model}{A:Around}{E:Value→Shared→Prop}
theorem wpAny_choose{s:Shared}{src:Source}{n:Nat}{Q:Nat→Shared→Prop}(hn:n≠0)(h:∀ i d,i<n→Q i { s with drawn:=d }):wpAny M A (choose src n) Q E s:=fun Γ p hΓ=>by
 unfold choose
 rw[Sem.wp_choose]
 refine⟨hn,?_⟩
 exact wpAny_pure (h _ _ (Nat.mod_lt _ (Nat.pos_of_ne_zero hn))) Γ p hΓ
theorem draw_ok{α:Type}:∀ (n:Nat) (xs:List α) (s:Shared) (Q:List α→Shared→Prop),xs.length=n→(∀ ys d,ys.Perm xs→Q ys { s with drawn:=d })→wpAny M A (drawOrder n xs) Q E s
 | 0,[],s,Q,_,h=>wpAny_pure (h [] s.drawn (.refl _))
 | n+1,x::xs,s,Q,hl,h=>by
  simp only[drawOrder]
  refine wpAny_bind (wpAny_choose (by simp) fun i d hi=>?_)
  rw[List.getElem?_eq_getElem hi]
  dsimp only
  refine wpAny_bind (draw_ok n _ _ _ (by rw[List.length_eraseIdx,if_pos hi];omega) fun ys d' hp=>wpAny_pure (h _ d' ?_))
  exact (hp.cons _).trans (erase_perm hi)
 | 0,_::_,s,Q,hl,_=>by cases hl
 | n+1,[],s,Q,hl,_=>by cases hl
end
theorem slot_setit_next:Slot "set_iterator" "__next__" "set_iterator.__next__" :=
 .of (owner := "set_iterator") (n := "__next__") (by rw[typeLookup_type,builtinLookup_eq_fast];kernel_rfl) (by decide +kernel) (by decide +kernel) (by decide +kernel)
  (by first|exact .inl (by decide +kernel)|exact .inr (by decide +kernel)) (by rw[isSubtype_type];kernel_rfl)
theorem slot_setit_iter:Slot "set_iterator" "__iter__" "set_iterator.__iter__" :=
 .of (owner := "set_iterator") (n := "__iter__") (by rw[typeLookup_type,builtinLookup_eq_fast];kernel_rfl) (by decide +kernel) (by decide +kernel) (by decide +kernel)
  (by first|exact .inl (by decide +kernel)|exact .inr (by decide +kernel)) (by rw[isSubtype_type];kernel_rfl)
theorem entry_setit_next:entryFor table "set_iterator.__next__" = some Builtin.«set_iterator.__next__»:=entryFor_of_tree (by kernel_rfl)
theorem entry_setit_iter:entryFor table "set_iterator.__iter__" = some Builtin.«dict_keyiterator.__iter__»:=entryFor_alias (id' := "dict_keyiterator.__iter__") (by kernel_rfl) rfl (by decide +kernel) (by kernel_rfl)
theorem entry_set_iterS:entryFor table "set.__iter__" = some Builtin.«frozenset.__iter__»:=entryFor_alias (id' := "frozenset.__iter__") (by kernel_rfl) rfl (by decide +kernel) (by kernel_rfl)
theorem args_setit_next(a:Value):argsOk "set_iterator.__next__" ⟨[a],[]⟩:=by unfold argsOk;kernel_rfl
theorem args_setit_iter(a:Value):argsOk "set_iterator.__iter__" ⟨[a],[]⟩:=by unfold argsOk;kernel_rfl
noncomputable def ItAt(h:Heap)(it:Addr)(first:Value)(i:Nat)(a:Addr)(n ep:Nat):Prop:=∃ o,h.get? it=some o∧o.cls=.type "set_iterator" ∧ o.data=.fields #[first,.int i 0,.ref a,.int n 0,.int ep 0]
noncomputable def WkT(w:World)(it a pl:Addr)(vs:List Value)(i:Nat)(h:Heap):Prop :=
  ∃ o es ep t,h.get? a=some o∧o.data=.set es ep t∧t.fits es.size=true∧t.led=(!byT w)∧vs.length=es.size ∧
    ((byT w=true∧ItAt h it (.int 0 0) i a es.size ep∧vs=(pickOrder (w.params.setOrder a ep) es).toList.map Prod.snd) ∨
     (byT w=false∧t.plain=false∧1<es.size∧∃ ps:List Nat,ItAt h it (.ref pl) i a es.size ep∧(∃ op n,h.get? pl=some op∧op.data=.seq (ps.map fun (p:Nat)=>rawInt p).toArray n)∧ps.length=vs.length∧∀ (j p:Nat),ps[j]?=some p→∃ e:Int×Value,es[p]?=some e∧vs[j]?=some e.2) ∨
     (byT w=false∧es.size≤1∧∃ slot:Nat,ItAt h it (.int slot 0) i a es.size ep∧SetTable.below t.place slot=i∧vs=es.toList.map Prod.snd))
theorem ItAt.keep{h h':Heap}{it a:Addr}{first:Value}{i n ep:Nat}(x:ItAt h it first i a n ep)(k:∀ o,h.get? it=some o→h'.get? it=some o):ItAt h' it first i a n ep:=let ⟨o,e,r⟩:=x;⟨o,k o e,r⟩
theorem WkT.keep{w:World}{h h':Heap}{it a pl:Addr}{vs:List Value}{i:Nat}(x:WkT w it a pl vs i h)(k:∀ b∈[it,a,pl],∀ o,h.get? b=some o→h'.get? b=some o):WkT w it a pl vs i h':=by
 obtain⟨o,es,ep,t,h1,h2,h3,h4,h5,r⟩:=x
 refine⟨o,es,ep,t,k a (by simp) o h1,h2,h3,h4,h5,?_⟩
 rcases r with⟨a1,a2,a3⟩|⟨a1,a2,a3,ps,b1,⟨op,n,c1,c2⟩,b3⟩|⟨a1,a2,sl,b1,b2⟩
 ·exact .inl ⟨a1,a2.keep (k it (by simp)),a3⟩
 ·exact .inr (.inl ⟨a1,a2,a3,ps,b1.keep (k it (by simp)),⟨op,n,k pl (by simp) op c1,c2⟩,b3⟩)
 ·exact .inr (.inr ⟨a1,a2,sl,b1.keep (k it (by simp)),b2⟩)
section
variable{P:Program}{w:World}{A:Around}{E:Value→Shared→Prop}{s:Shared}{a:Addr}
theorem setsBy{Q:Bool→Shared→Prop}(h:Q (byT w) s):wpAny (model P w) A setsByText Q E s:=wpAny_bind (wpAny_askSetting (wpAny_pure h))
theorem next_text{a:Addr}{o:Obj}{es:Array (Int×Value)}{ep sl i:Nat}{t:SetTable}{Q:Option (Value×Nat)→Shared→Prop}(h1:s.heap.get? a=some o)(h2:o.data=.set es ep t)(h3:t.fits es.size=true)(hb:byT w=true)
  (h:Q (((pickOrder (w.params.setOrder a ep) es)[i]?).map fun e=>(e.2,sl)) s):wpAny (model P w) A (setNext a sl i ep) Q E s:=by
 unfold setNext
 refine wpAny_bind (wpAny_setState_of h1 h2 h3 ?_)
 dsimp only
 refine wpAny_bind (setsBy ?_)
 rw[hb,if_pos rfl]
 simp only[bne_self_eq_false,Bool.false_eq_true,if_false]
 refine wpAny_bind ?_
 unfold setWalk
 refine wpAny_bind (wpAny_setState_of h1 h2 h3 ?_)
 dsimp only
 refine wpAny_bind (setsBy ?_)
 rw[hb,if_pos rfl]
 exact wpAny_bind (wpAny_askSetting (wpAny_pure (wpAny_pure h)))
theorem next_one{a:Addr}{o:Obj}{es:Array (Int×Value)}{ep sl i:Nat}{t:SetTable}{Q:Option (Value×Nat)→Shared→Prop}(h1:s.heap.get? a=some o)(h2:o.data=.set es ep t)(h3:t.fits es.size=true)(h4:t.led=(!byT w))(hb:byT w=false)(hz:es.size≤1)
  (h:Q (match es[SetTable.below t.place sl]?,t.place[SetTable.below t.place sl]? with|some (_,x),some j=>some (x,j+1)|_,_=>none) s):wpAny (model P w) A (setNext a sl i ep) Q E s:=by
 unfold setNext
 refine wpAny_bind (wpAny_setState_of h1 h2 h3 ?_)
 dsimp only
 refine wpAny_bind (setsBy ?_)
 rw[hb,if_neg Bool.false_ne_true]
 refine wpAny_ite_split (fun hd=>?_) fun _=>?_
 ·have hd:(!t.plain && decide (es.size > 1))=true:=hd
  simp only[Bool.and_eq_true,decide_eq_true_eq] at hd
  omega
 refine wpAny_bind ?_
 show wpAny _ _ (if (!t.led && !es.isEmpty)=true then _ else _) _ _ _
 rw[if_neg (by rw[h4,hb];simp)]
 exact wpAny_pure (wpAny_pure h)
theorem next_drawn{a:Addr}{o:Obj}{es:Array (Int×Value)}{ep pl:Nat}{t:SetTable}{e:Int×Value}{Q:Value→Shared→Prop}(h1:s.heap.get? a=some o)(h2:o.data=.set es ep t)(h3:t.fits es.size=true)(he:es[pl]?=some e)
  (h:Q e.2 s):wpAny (model P w) A (setNextDrawn a pl ep) Q E s:=by
 unfold setNextDrawn
 refine wpAny_bind (wpAny_setState_of h1 h2 h3 ?_)
 dsimp only
 simp only[bne_self_eq_false,Bool.false_eq_true,if_false,he]
 exact wpAny_pure h
theorem set_next{it a pl:Addr}{vs:List Value}{i:Nat}{Q:Option Value→Shared→Prop}(hit:it≠a)(hip:it≠pl)(x:WkT w it a pl vs i s.heap){v:Value}(hv:vs[i]?=some v)
  (h:∀ h',WkT w it a pl vs (i+1) h'→Heap.SameBut it s.heap h'→Q (some v) { s with heap:=h' }):wpAny (model P w) A (pyNext (.ref it)) Q E s:=by
 obtain⟨o,es,ep,t,h1,h2,h3,h4,h5,r⟩:=x
 have hi:i<es.size:=by
  rcases Nat.lt_or_ge i vs.length with q|q
  ·omega
  ·rw[List.getElem?_eq_none q] at hv;cases hv
 have step:∀ (first first':Value) (oi:Obj),s.heap.get? it=some oi→oi.cls=.type "set_iterator" → oi.data=.fields #[first,.int i 0,.ref a,.int es.size 0,.int ep 0]→ItAt ((s.heap.update it (Obj.mapFields (·.setIfInBounds 0 first'))).update it (Obj.mapFields (·.setIfInBounds 1 (rawInt ((i:Int)+1))))) it first' (i+1) a es.size ep∧ItAt (s.heap.update it (Obj.mapFields (·.setIfInBounds 1 (rawInt ((i:Int)+1))))) it first (i+1) a es.size ep:=fun first first' oi e1 e2 e3=>by
  have g1:=Heap.get?_update_self (Obj.mapFields (·.setIfInBounds 0 first')) e1 (Obj.isFreed_of_fields (Obj.data_mapFields e3 _))
  have d1:(Obj.mapFields (·.setIfInBounds 0 first') oi).data=.fields #[first',.int i 0,.ref a,.int es.size 0,.int ep 0]:=by rw[Obj.data_mapFields e3];rfl
  refine⟨⟨_,Heap.get?_update_self _ g1 (Obj.isFreed_of_fields (Obj.data_mapFields d1 _)),(Obj.cls_mapFields ..).trans ((Obj.cls_mapFields ..).trans e2),by rw[Obj.data_mapFields d1];rfl⟩,⟨_,Heap.get?_update_self _ e1 (Obj.isFreed_of_fields (Obj.data_mapFields e3 _)),(Obj.cls_mapFields ..).trans e2,by rw[Obj.data_mapFields e3];rfl⟩⟩
 rcases r with⟨a1,⟨oi,e1,e2,e3⟩,a3⟩|⟨a1,a2,a3,ps,⟨oi,e1,e2,e3⟩,⟨op,n,c1,c2⟩,b3,b4⟩|⟨a1,a2,sl,⟨oi,e1,e2,e3⟩,b2,b3⟩
 ·have hT:s.TypeIs (.ref it) "set_iterator" := ⟨_,e1,e2⟩
  unfold pyNext
  refine wpAny_bind (wpAny_attempt (wpAny_callSpecial?_slot (name:=Str.ofString "__next__") hT slot_setit_next (wpAny_call_entry slot_setit_next hT entry_setit_next ?_ (args_setit_next _))))
  unfold Builtin.«set_iterator.__next__»
  refine wpAny_bind (wpAny_pure ?_)
  refine wpAny_bind (wpAny_fieldsOf e1 e3 ?_)
  dsimp only
  refine wpAny_bind (wpAny_setEntries_of h1 h2 h3 ?_)
  rw[if_neg (by simp)]
  have hs0:=step (.int 0 0) (.int 0 0) oi e1 e2 e3
  refine wpAny_bind (next_text h1 h2 h3 a1 ?_)
  have hpk:(pickOrder (w.params.setOrder a ep) es)[(i:Int).toNat]?.map Prod.snd=some v:=by
   rw[a3,List.getElem?_map,Array.getElem?_toList] at hv
   exact hv
  obtain⟨e,he,rfl⟩:=Option.map_eq_some_iff.mp hpk
  rw[show ((ep:Nat):Int).toNat=ep from Int.toNat_natCast _,he]
  dsimp only[Option.map_some]
  refine wpAny_bind (wpAny_setField e1 e3 (by simp) ?_)
  have g1:=Heap.get?_update_self (Obj.mapFields (·.setIfInBounds 0 (rawInt ((Int.toNat 0:Nat):Int)))) e1 (Obj.isFreed_of_fields (Obj.data_mapFields e3 _))
  refine wpAny_bind (wpAny_setField g1 (Obj.data_mapFields e3 _) (by simp) ?_)
  refine wpAny_pure ⟨_,rfl,wpAny_pure (h _ ?_ ((Heap.SameBut.update ..).trans (Heap.SameBut.update ..)))⟩
  have ka:∀ {b:Addr} {u:Obj},b≠it→s.heap.get? b=some u→((s.heap.update it (Obj.mapFields (·.setIfInBounds 0 (rawInt ((Int.toNat 0:Nat):Int))))).update it (Obj.mapFields (·.setIfInBounds 1 (rawInt ((i:Int)+1))))).get? b=some u:=fun hb q=>by
   rw[Heap.get?_update_ne _ _ _ _ hb,Heap.get?_update_ne _ _ _ _ hb];exact q
  exact⟨o,es,ep,t,ka (Ne.symm hit) h1,h2,h3,h4,h5,.inl ⟨a1,hs0.1,a3⟩⟩
 ·have hT:s.TypeIs (.ref it) "set_iterator" := ⟨_,e1,e2⟩
  unfold pyNext
  refine wpAny_bind (wpAny_attempt (wpAny_callSpecial?_slot (name:=Str.ofString "__next__") hT slot_setit_next (wpAny_call_entry slot_setit_next hT entry_setit_next ?_ (args_setit_next _))))
  unfold Builtin.«set_iterator.__next__»
  refine wpAny_bind (wpAny_pure ?_)
  refine wpAny_bind (wpAny_fieldsOf e1 e3 ?_)
  dsimp only
  refine wpAny_bind (wpAny_setEntries_of h1 h2 h3 ?_)
  rw[if_neg (by simp)]
  have hs0:=step (.ref pl) (.ref pl) oi e1 e2 e3
  refine wpAny_bind (wpAny_seqItems c1 c2 ?_)
  dsimp only
  have hps:i<ps.length:=by omega
  obtain⟨e,he,hev⟩:=b4 i ps[i] (List.getElem?_eq_getElem hps)
  rw[hv] at hev
  cases hev
  have hpl:((ps.map fun (p:Nat)=>rawInt p).toArray)[(i:Int).toNat]?=some (rawInt (ps[i]:Nat)):=by
   rw[Int.toNat_natCast,List.getElem?_toArray,List.getElem?_map,List.getElem?_eq_getElem hps];rfl
  rw[hpl]
  show wpAny _ _ (setNextDrawn a ((ps[i]:Nat):Int).toNat _ >>= _) _ _ _
  refine wpAny_bind (next_drawn h1 h2 h3 (by rw[Int.toNat_natCast];exact he) ?_)
  refine wpAny_bind (wpAny_setField e1 e3 (by simp) ?_)
  refine wpAny_pure ⟨_,rfl,wpAny_pure (h _ ?_ (Heap.SameBut.update ..))⟩
  have ka:∀ {b:Addr} {u:Obj},b≠it→s.heap.get? b=some u→(s.heap.update it (Obj.mapFields (·.setIfInBounds 1 (rawInt ((i:Int)+1))))).get? b=some u:=fun hb q=>by
   rw[Heap.get?_update_ne _ _ _ _ hb];exact q
  exact⟨o,es,ep,t,ka (Ne.symm hit) h1,h2,h3,h4,h5,.inr (.inl ⟨a1,a2,a3,ps,hs0.2,⟨op,n,ka (Ne.symm hip) c1,c2⟩,b3,b4⟩)⟩
 ·have hT:s.TypeIs (.ref it) "set_iterator" := ⟨_,e1,e2⟩
  unfold pyNext
  refine wpAny_bind (wpAny_attempt (wpAny_callSpecial?_slot (name:=Str.ofString "__next__") hT slot_setit_next (wpAny_call_entry slot_setit_next hT entry_setit_next ?_ (args_setit_next _))))
  unfold Builtin.«set_iterator.__next__»
  refine wpAny_bind (wpAny_pure ?_)
  refine wpAny_bind (wpAny_fieldsOf e1 e3 ?_)
  dsimp only
  refine wpAny_bind (wpAny_setEntries_of h1 h2 h3 ?_)
  rw[if_neg (by simp)]
  obtain rfl:i=0:=by omega
  have hz1:es.size=1:=by omega
  have hps:t.place.size=1:=by simp only[SetTable.fits,Bool.and_eq_true,beq_iff_eq] at h3;omega
  obtain⟨p0,hp0⟩:∃ p,t.place=#[p]:=by
   refine⟨t.place[0],?_⟩
   apply Array.ext
   ·simp[hps]
   ·intro j hj _
    have:j=0:=by omega
    subst this
    rfl
  have hs0:=step (.int sl 0) (.int ((p0+1:Nat):Int) 0) oi e1 e2 e3
  refine wpAny_bind (next_one h1 h2 h3 h4 a1 a2 ?_)
  have hev:es[0]?.map Prod.snd=some v:=by
   rw[b3,List.getElem?_map,Array.getElem?_toList] at hv
   exact hv
  obtain⟨e,he,rfl⟩:=Option.map_eq_some_iff.mp hev
  rw[Int.toNat_natCast,b2,he,hp0]
  show wpAny _ _ (setField (.ref it) 0 (rawInt ((p0+1:Nat):Int)) >>= _) _ _ _
  refine wpAny_bind (wpAny_setField e1 e3 (by simp) ?_)
  have g1:=Heap.get?_update_self (Obj.mapFields (·.setIfInBounds 0 (rawInt ((p0+1:Nat):Int)))) e1 (Obj.isFreed_of_fields (Obj.data_mapFields e3 _))
  refine wpAny_bind (wpAny_setField g1 (Obj.data_mapFields e3 _) (by simp) ?_)
  refine wpAny_pure ⟨_,rfl,wpAny_pure (h _ ?_ ((Heap.SameBut.update ..).trans (Heap.SameBut.update ..)))⟩
  have ka:∀ {b:Addr} {u:Obj},b≠it→s.heap.get? b=some u→((s.heap.update it (Obj.mapFields (·.setIfInBounds 0 (rawInt ((p0+1:Nat):Int))))).update it (Obj.mapFields (·.setIfInBounds 1 (rawInt (((0:Nat):Int)+1))))).get? b=some u:=fun hb q=>by
   rw[Heap.get?_update_ne _ _ _ _ hb,Heap.get?_update_ne _ _ _ _ hb];exact q
  refine⟨o,es,ep,t,ka (Ne.symm hit) h1,h2,h3,h4,h5,.inr (.inr ⟨a1,a2,p0+1,hs0.1,?_,b3⟩)⟩
  rw[hp0]
  simp[SetTable.below,SetTable.below.go]
theorem set_stop{it a pl:Addr}{vs:List Value}{Q:Option Value→Shared→Prop}(hh:A.handled=none)(x:WkT w it a pl vs vs.length s.heap)
  (h:∀ h',Heap.ExtBut it s.heap h'→Q none { s with heap:=h' }):wpAny (model P w) A (pyNext (.ref it)) Q E s:=by
 obtain⟨o,es,ep,t,h1,h2,h3,h4,h5,r⟩:=x
 rcases r with⟨a1,⟨oi,e1,e2,e3⟩,a3⟩|⟨a1,a2,a3,ps,⟨oi,e1,e2,e3⟩,⟨op,n,c1,c2⟩,b3,b4⟩|⟨a1,a2,sl,⟨oi,e1,e2,e3⟩,b2,b3⟩
 ·have hT:s.TypeIs (.ref it) "set_iterator" := ⟨_,e1,e2⟩
  unfold pyNext
  refine wpAny_bind (wpAny_attempt (wpAny_callSpecial?_slot (name:=Str.ofString "__next__") hT slot_setit_next (wpAny_call_entry slot_setit_next hT entry_setit_next ?_ (args_setit_next _))))
  unfold Builtin.«set_iterator.__next__»
  refine wpAny_bind (wpAny_pure ?_)
  refine wpAny_bind (wpAny_fieldsOf e1 e3 ?_)
  dsimp only
  refine wpAny_bind (wpAny_setEntries_of h1 h2 h3 ?_)
  rw[if_neg (by simp)]
  refine wpAny_bind (next_text h1 h2 h3 a1 ?_)
  have hl:(pickOrder (w.params.setOrder a ep) es).size=vs.length:=by rw[a3,List.length_map,Array.length_toList]
  rw[show ((ep:Nat):Int).toNat=ep from Int.toNat_natCast _,show ((vs.length:Nat):Int).toNat=vs.length from Int.toNat_natCast _,Array.getElem?_eq_none (by omega)]
  dsimp only[Option.map_none]
  refine wpAny_bind (wpAny_setField e1 e3 (by simp) ?_)
  refine wpAny_bind ?_
  simp only[newExc,newTuple]
  refine wpAny_bind (wpAny_newObj_type ?_ (by size_fits))
  refine wpAny_bind (m:=firstArgMember _ _) (wpAny_of_eq (a:=Value.none) (by first|rfl|(simp only[firstArgMember];rfl)) ?_)
  refine wpAny_newObj_type ?_ (by size_fits)
  simp only[raiseNew]
  refine wpAny_bind (wpAny_handled ?_)
  rw[show A.in1.handled=none from hh]
  refine wpAny_bind (wpAny_pure (wpAny_throw ?_))
  refine wpAny_bind (wpAny_isInstance (T := "StopIteration") (b:=true) ⟨_,Heap.get?_push_size _ rfl,rfl⟩ isSubtype_stop ?_)
  exact wpAny_pure (h _ (((Heap.SameBut.update ..).extBut.push _).push _))
 ·have hT:s.TypeIs (.ref it) "set_iterator" := ⟨_,e1,e2⟩
  unfold pyNext
  refine wpAny_bind (wpAny_attempt (wpAny_callSpecial?_slot (name:=Str.ofString "__next__") hT slot_setit_next (wpAny_call_entry slot_setit_next hT entry_setit_next ?_ (args_setit_next _))))
  unfold Builtin.«set_iterator.__next__»
  refine wpAny_bind (wpAny_pure ?_)
  refine wpAny_bind (wpAny_fieldsOf e1 e3 ?_)
  dsimp only
  refine wpAny_bind (wpAny_setEntries_of h1 h2 h3 ?_)
  rw[if_neg (by simp)]
  refine wpAny_bind (wpAny_seqItems c1 c2 ?_)
  dsimp only
  rw[show ((vs.length:Nat):Int).toNat=vs.length from Int.toNat_natCast _,show ((ps.map fun (p:Nat)=>rawInt p).toArray)[vs.length]?=none by rw[List.getElem?_toArray,List.getElem?_eq_none (by rw[List.length_map];omega)]]
  dsimp only
  refine wpAny_bind (wpAny_setField e1 e3 (by simp) ?_)
  have g1:=Heap.get?_update_self (Obj.mapFields (·.setIfInBounds 0 (rawInt 0))) e1 (Obj.isFreed_of_fields (Obj.data_mapFields e3 _))
  refine wpAny_bind (wpAny_setField g1 (Obj.data_mapFields e3 _) (by simp) ?_)
  refine wpAny_bind ?_
  simp only[newExc,newTuple]
  refine wpAny_bind (wpAny_newObj_type ?_ (by size_fits))
  refine wpAny_bind (m:=firstArgMember _ _) (wpAny_of_eq (a:=Value.none) (by first|rfl|(simp only[firstArgMember];rfl)) ?_)
  refine wpAny_newObj_type ?_ (by size_fits)
  simp only[raiseNew]
  refine wpAny_bind (wpAny_handled ?_)
  rw[show A.in1.handled=none from hh]
  refine wpAny_bind (wpAny_pure (wpAny_throw ?_))
  refine wpAny_bind (wpAny_isInstance (T := "StopIteration") (b:=true) ⟨_,Heap.get?_push_size _ rfl,rfl⟩ isSubtype_stop ?_)
  exact wpAny_pure (h _ ((((Heap.SameBut.update ..).trans (Heap.SameBut.update ..)).extBut.push _).push _))
 ·have hT:s.TypeIs (.ref it) "set_iterator" := ⟨_,e1,e2⟩
  unfold pyNext
  refine wpAny_bind (wpAny_attempt (wpAny_callSpecial?_slot (name:=Str.ofString "__next__") hT slot_setit_next (wpAny_call_entry slot_setit_next hT entry_setit_next ?_ (args_setit_next _))))
  unfold Builtin.«set_iterator.__next__»
  refine wpAny_bind (wpAny_pure ?_)
  refine wpAny_bind (wpAny_fieldsOf e1 e3 ?_)
  dsimp only
  refine wpAny_bind (wpAny_setEntries_of h1 h2 h3 ?_)
  rw[if_neg (by simp)]
  refine wpAny_bind (next_one h1 h2 h3 h4 a1 a2 ?_)
  rw[Int.toNat_natCast,b2,Array.getElem?_eq_none (show es.size≤vs.length by omega)]
  dsimp only
  refine wpAny_bind (wpAny_setField e1 e3 (by simp) ?_)
  refine wpAny_bind ?_
  simp only[newExc,newTuple]
  refine wpAny_bind (wpAny_newObj_type ?_ (by size_fits))
  refine wpAny_bind (m:=firstArgMember _ _) (wpAny_of_eq (a:=Value.none) (by first|rfl|(simp only[firstArgMember];rfl)) ?_)
  refine wpAny_newObj_type ?_ (by size_fits)
  simp only[raiseNew]
  refine wpAny_bind (wpAny_handled ?_)
  rw[show A.in1.handled=none from hh]
  refine wpAny_bind (wpAny_pure (wpAny_throw ?_))
  refine wpAny_bind (wpAny_isInstance (T := "StopIteration") (b:=true) ⟨_,Heap.get?_push_size _ rfl,rfl⟩ isSubtype_stop ?_)
  exact wpAny_pure (h _ (((Heap.SameBut.update ..).extBut.push _).push _))
theorem set_self{it a pl:Addr}{vs:List Value}{i:Nat}{Q:Value→Shared→Prop}(x:WkT w it a pl vs i s.heap)(h:Q (.ref it) s):wpAny (model P w) A (pyIter (.ref it)) Q E s:=by
 have hT:s.TypeIs (.ref it) "set_iterator" := by
  obtain⟨o,es,ep,t,h1,h2,h3,h4,h5,r⟩:=x
  rcases r with⟨_,⟨oi,e1,e2,_⟩,_⟩|⟨_,_,_,ps,⟨oi,e1,e2,_⟩,_⟩|⟨_,_,sl,⟨oi,e1,e2,_⟩,_⟩
  ·exact⟨oi,e1,e2⟩
  ·exact⟨oi,e1,e2⟩
  ·exact⟨oi,e1,e2⟩
 refine wpAny_pyIter_slot hT slot_setit_iter (wpAny_call_entry slot_setit_iter hT entry_setit_iter ?_ (args_setit_iter _))
 show wpAny _ _ (ret (.ref it)) _ _ s
 exact wpAny_pure ⟨_,rfl, "set_iterator",_,hT,slot_setit_next.lookup,h⟩
theorem set_walks{it a pl:Addr}{vs:List Value}(hh:A.handled=none)(hit:it≠a)(hip:it≠pl):WalksS P w A it [it,a,pl] [it] Eq vs.length (fun i v=>vs[i]?=some v) (fun i s=>WkT w it a pl vs i s.heap) where
 sub:=fun b hb=>by rw[List.mem_singleton.mp hb];simp
 grefl:=fun _=>rfl
 gtrans:=fun _ _ _=>Eq.trans
 frame:=fun i s h' tk st _ k=>WkT.keep st k
 item:=fun i s Q E hi st hQ=>set_next hit hip st (List.getElem?_eq_getElem hi) fun h' st' sb=>hQ _ _ (List.getElem?_eq_getElem hi) st' ⟨fun b o hb e=>(sb.2 b (fun z=>hb (by simp[z]))).trans e,rfl,rfl,rfl,Nat.le_refl _⟩
 done:=fun s Q E st hQ=>set_stop hh st fun h' eb=>hQ _ ⟨fun b o hb e=>eb b o (fun z=>hb (by simp[z])) e,rfl,rfl,rfl,Nat.le_refl _⟩
 self:=fun i s Q E st hQ=>set_self st hQ
theorem set_iter{a:Addr}{zs:List Str}{Q:Value→Shared→Prop}(hS:SetT P w s.heap a zs)
  (h:∀ (it pl:Addr) (vs:List Value) (zs':List Str) (h':Heap) (d:Drawn),it≠a→it≠pl→s.heap.objs.size≤it→(pl=a∨s.heap.objs.size≤pl)→StrsAre vs zs'→zs'.Perm zs→WkT w it a pl vs 0 h'→(∀ b o,s.heap.get? b=some o→h'.get? b=some o)→Q (.ref it) { s with heap:=h',drawn:=d }) :
  wpAny (model P w) A (pyIter (.ref a)) Q E s:=by
 obtain⟨o,es,ep,t,h1,hex,h2,hel,hst,hnd,hb,h3,h4,hp⟩:=hS
 have hT:s.TypeIs (.ref a) "set" := ⟨o,h1,hex.1⟩
 have hlt:=Heap.lt_size h1
 refine wpAny_pyIter_slot hT PySem.F.slot_set_iter (wpAny_call_entry PySem.F.slot_set_iter hT entry_set_iterS ?_ (PySem.F.args_set_iter_1 _))
 unfold Builtin.«frozenset.__iter__»
 refine wpAny_bind (m:=Builtin.Frozenset.slot0 _ _) (wpAny_bind (wpAny_pure (wpAny_pure ?_)))
 refine wpAny_bind (wpAny_bind (wpAny_setEntries_of h1 h2 h3 (wpAny_pure ?_)))
 refine wpAny_bind ?_
 unfold setDrawn
 refine wpAny_bind (wpAny_setState_of h1 h2 h3 ?_)
 dsimp only
 refine wpAny_bind (setsBy (wpAny_pure ?_))
 have fin:∀ (first:Value) (s1:Shared) (R:PySem.Fin→Shared→Prop) (EE:Value→Shared→Prop),s1.heap.get? a=some o→R (.done (.ret (.ref s1.heap.objs.size))) { s1 with heap:=s1.heap.push { cls:=.type "set_iterator",data:=.fields #[first,rawInt 0,.ref a,rawInt es.size,rawInt ep] } } →
   wpAny (model P w) A.in1 (do
    let __do_lift ← setEpoch a
    let __do_lift ← newFields "set_iterator" [first,rawInt 0,Value.ref a,rawInt es.size,rawInt __do_lift]
    ret __do_lift) R EE s1:=fun first s1 R EE q hR=>by
  refine wpAny_bind (wpAny_setEpoch_of q h2 h3 ?_)
  refine wpAny_bind ?_
  unfold newFields
  exact wpAny_newObj_type (wpAny_pure hR) (by size_fits)
 show wpAny _ _ (if (!byT w && (!t.plain && decide (es.size > 1)))=true then _ else _) _ _ _
 have itAt:∀ (h0:Heap) (first:Value) ,ItAt (h0.push { cls:=.type "set_iterator",data:=.fields #[first,rawInt 0,.ref a,rawInt es.size,rawInt ep] }) h0.objs.size first 0 a es.size ep:=fun h0 first=>⟨_,Heap.get?_push_size _ rfl,rfl,rfl⟩
 refine wpAny_ite_split (fun hd=>?_) fun hd=>?_
 ·simp only[Bool.and_eq_true,Bool.not_eq_true',decide_eq_true_eq] at hd
  refine wpAny_bind (draw_ok _ _ _ _ (List.length_range ..) fun ps d hps=>?_)
  refine wpAny_bind (wpAny_newTuple ?_ (by rw[List.length_map,hps.length_eq,List.length_range];exact fits_of_scanBound hb))
  refine fin _ _ _ _ (Heap.get?_push_of_some _ h1) ⟨_,rfl, "set_iterator",_,⟨_,Heap.get?_push_size _ rfl,rfl⟩,slot_setit_next.lookup,?_⟩
  have hlp:ps.length=es.size:=by rw[hps.length_eq,List.length_range]
  have hvr:(List.range es.size).map (fun p=>(es[p]?.map Prod.snd).getD Value.none)=es.toList.map Prod.snd:=by
   refine List.ext_getElem (by simp) fun j g1 g2=>?_
   have hj:j<es.size:=by simpa using g1
   simp[Array.getElem?_eq_getElem hj]
  have hpp:(ps.map fun p=>(es[p]?.map Prod.snd).getD Value.none).Perm (es.toList.map Prod.snd):=by rw[← hvr];exact hps.map _
  obtain⟨zs',hs',hp'⟩:=strs_perm hpp hst
  have hne:(s.heap.push { cls:=.type "tuple",data:=.seq (ps.map fun (i:Nat)=>rawInt i).toArray }).objs.size=s.heap.objs.size+1:=Heap.size_push ..
  have:=h (s.heap.push { cls:=.type "tuple",data:=.seq (ps.map fun (i:Nat)=>rawInt i).toArray }).objs.size s.heap.objs.size (ps.map fun p=>(es[p]?.map Prod.snd).getD Value.none) zs' _ d (by rw[hne];exact Nat.ne_of_gt (Nat.lt_succ_of_lt hlt)) (by rw[hne];exact Nat.ne_of_gt (Nat.lt_succ_self _)) (by rw[hne];exact Nat.le_succ _) (.inr (Nat.le_refl _)) hs' hp'
   ⟨o,es,ep,t,Heap.get?_push_of_some _ (Heap.get?_push_of_some _ h1),h2,h3,h4,by rw[List.length_map,hlp],.inr (.inl ⟨hd.1,hd.2.1,hd.2.2,ps,itAt _ _,⟨_,_,Heap.get?_push_of_some _ (Heap.get?_push_size _ rfl),rfl⟩,by rw[List.length_map],fun j p hj=>?_⟩)⟩ fun b u q=>Heap.get?_push_of_some _ (Heap.get?_push_of_some _ q)
  ·exact this
  ·have hp1:p<es.size:=by
    have:=hps.mem_iff.mp (List.mem_of_getElem? hj)
    exact List.mem_range.mp this
   exact⟨es[p],Array.getElem?_eq_getElem hp1,by rw[List.getElem?_map,hj];simp[Array.getElem?_eq_getElem hp1]⟩
 ·refine wpAny_bind (wpAny_pure ?_)
  refine fin _ _ _ _ h1 ⟨_,rfl, "set_iterator",_,⟨_,Heap.get?_push_size _ rfl,rfl⟩,slot_setit_next.lookup,?_⟩
  have ka:∀ b u,s.heap.get? b=some u→(s.heap.push { cls:=.type "set_iterator",data:=.fields #[rawInt 0,rawInt 0,.ref a,rawInt es.size,rawInt ep] }).get? b=some u:=fun b u q=>Heap.get?_push_of_some _ q
  cases hbt:byT w with
  | true =>
   obtain⟨zs',hs',hp'⟩:=strs_perm ((pick_perm (w.params.setOrder a ep) es).map Prod.snd) hst
   exact h s.heap.objs.size a _ zs' _ s.drawn (Nat.ne_of_gt hlt) (Nat.ne_of_gt hlt) (Nat.le_refl _) (.inl rfl) hs' hp' ⟨o,es,ep,t,ka _ _ h1,h2,h3,h4,by rw[List.length_map,(pick_perm _ _).length_eq,Array.length_toList],.inl ⟨hbt,itAt _ _,rfl⟩⟩ ka
  | false =>
   have hz:es.size≤1:=by
    refine Nat.le_of_not_lt fun q=>hd ?_
    rw[hbt,hp (by omega),decide_eq_true q]
    rfl
   have hps:t.place.size=es.size:=by simp only[SetTable.fits,Bool.and_eq_true,beq_iff_eq] at h3;exact h3.1
   refine h s.heap.objs.size a _ zs _ s.drawn (Nat.ne_of_gt hlt) (Nat.ne_of_gt hlt) (Nat.le_refl _) (.inl rfl) hst (.refl _) ⟨o,es,ep,t,ka _ _ h1,h2,h3,h4,by rw[List.length_map,Array.length_toList],.inr (.inr ⟨hbt,hz,0,itAt _ _,?_,rfl⟩)⟩ ka
   generalize t.place=pl at hps
   obtain⟨l⟩:=pl
   match l,hps with
   | [],_=>rfl
   | [p],_=>simp[SetTable.below,SetTable.below.go]
   | _::_::_,q=>exact absurd hz (by rw[← q];simp)
theorem hint_set(hT:s.TypeIs (.ref a) "set"){Q:Bool→Shared→Prop}(h:Q false s):wpAny (model P w) A (Builtin.List.listLengthHint (.ref a)) Q E s:=by
 unfold Builtin.List.listLengthHint
 refine wpAny_bind (wpAny_specialOf hT PySem.F.slot_set_len.lookup ?_)
 generalize hid:("set.__len__" : String)=id0
 wp_delta
 rw[show splitId id0=some ("set", "__len__") from by subst hid;decide +kernel]
 subst hid
 refine wpAny_bind (wpAny_isInstance (T := "set") (b:=true) hT (by rw[isSubtype_type];kernel_rfl) ?_)
 refine wpAny_ite_split (fun hab=>absurd hab (by decide)) (fun _=>?_)
 refine wpAny_ite_split (fun _=>?_) (fun hab=>absurd (by decide +kernel) hab)
 refine wpAny_bind (wpAny_typeOf hT ?_)
 exact wpAny_pure h
theorem set_collect{a:Addr}{zs:List Str}{R:List Value→Shared→Prop}(hh:A.handled=none)(hS:SetT P w s.heap a zs)
  (h:∀ (h':Heap) (tk:Nat) (d:Drawn) (acc:List Value) (zs':List Str),(∀ b o,s.heap.get? b=some o→h'.get? b=some o)→StrsAre acc zs'→zs'.Perm zs→R acc { s with heap:=h',toks:=tk,drawn:=d }) :
  wpAny (model P w) A (collect (.ref a)) R E s:=by
 have hb:zs.length≤sizeLine:=by
  obtain⟨o,es,ep,t,_,_,_,_,hst,_,hb,_⟩:=hS
  have:=strs_len hst
  rw[List.length_map,Array.length_toList] at this
  rw[← this];exact fits_of_scanBound hb
 unfold collect
 refine wpAny_bind (wpAny_runValue (codeAny_builtin entry_proto_collect' ?_))
 rw[Around.under_plainId PySem.F.plain_proto_collect _]
 show wpAny _ A.in1 (newList [] >>= fun l=>again (.builtin "list.__iadd__" ⟨[l,.ref a],[]⟩)) _ _ s
 refine wpAny_bind (wpAny_newObj_type ?_)
 refine wpAny_pure ⟨plainId_quiet PySem.F.plain_list_iadd _,codeAny_builtin entry_list_iadd' ?_⟩
 rw[Around.under_plainId PySem.F.plain_list_iadd _]
 have hS₁:(s.heap.push { cls:=.type "list",data:=.seq ([]:List Value).toArray }).get? s.heap.objs.size=some { cls:=.type "list",data:=.seq #[] }:=Heap.get?_push_size _ rfl
 have hSs:SetT P w (s.heap.push { cls:=.type "list",data:=.seq ([]:List Value).toArray }) a zs:=hS.moved fun o e=>Heap.get?_push_of_some _ e
 have hlt:a<s.heap.objs.size:=by obtain⟨o,_,_,_,h1,_⟩:=hS;exact Heap.lt_size h1
 have hT:∀ (s2:Shared),(∀ o,s.heap.get? a=some o→s2.heap.get? a=some o)→s2.TypeIs (.ref a) "set" := fun s2 k=>by obtain⟨o,_,_,_,h1,hex,_⟩:=hS;exact⟨o,k o h1,hex.1⟩
 show wpAny _ A.in1 (Builtin.List.listExtendWith (.ref s.heap.objs.size) (.ref a) (.ref s.heap.objs.size)) _ _ _
 unfold Builtin.List.listExtendWith
 refine wpAny_bind (wpAny_typeOf (T := "set") (hT _ fun o e=>Heap.get?_push_of_some _ e) ?_)
 have h1:Builtin.List.listSameRef (.ref s.heap.objs.size) (.ref a)=false:=by simp[Builtin.List.listSameRef,Nat.ne_of_gt hlt]
 have h2:(Value.type "set" == Value.type "list")=false:=by decide
 have h3:(Value.type "set" == Value.type "tuple")=false:=by decide
 simp only[h1,h2,h3,Bool.or_false,Bool.false_eq_true,if_false]
 refine wpAny_bind (set_iter hSs fun it pl vs zs' h' d hit hip hge hpl hst hpm wk hk=>?_)
 refine wpAny_bind (wpAny_holding (hint_set (hT _ fun o e=>hk _ _ (Heap.get?_push_of_some _ e)) ?_))
 have hsz:(s.heap.push { cls:=.type "list",data:=.seq ([]:List Value).toArray }).objs.size=s.heap.objs.size+1:=Heap.size_push ..
 have hSi:s.heap.objs.size≠it:=fun z=>by have h0:(s.heap.push { cls:=.type "list",data:=.seq ([]:List Value).toArray }).objs.size≤it:=hge;rw[hsz,← z] at h0;exact absurd h0 (Nat.not_succ_le_self _)
 have hSp:s.heap.objs.size≠pl:=fun z=>by
  rcases hpl with e|e
  ·exact absurd hlt (by rw[← e,← z];exact Nat.lt_irrefl _)
  ·have h0:(s.heap.push { cls:=.type "list",data:=.seq ([]:List Value).toArray }).objs.size≤pl:=e
   rw[hsz,← z] at h0;exact absurd h0 (Nat.not_succ_le_self _)
 have hSf:s.heap.objs.size∉[it,a,pl]:=by simp only[List.mem_cons,List.not_mem_nil,or_false,not_or];exact⟨hSi,Nat.ne_of_gt hlt,hSp⟩
 have hvl:vs.length≤sizeLine:=by rw[strs_len hst,hpm.length_eq];exact hb
 have hS1:h'.get? s.heap.objs.size=some { cls:=.type "list",data:=.seq #[] }:=hk _ _ hS₁
 have hold:∀ b o,s.heap.get? b=some o→h'.get? b=some o:=fun b o e=>hk _ _ (Heap.get?_push_of_some _ e)
 have itn:s.heap.get? it=none:=Heap.get?_none_of_le (Nat.le_trans (Nat.le_succ _) (by show s.heap.objs.size+1≤it;rw[← hsz];exact hge))
 have last:∀ (s':Shared) (acc':Array Value) (c':Nat) (h2:Heap) ,(∀ b o,b≠s.heap.objs.size→h'.get? b=some o→h2.get? b=some o)→Moved (s.heap.objs.size::[it]) Eq { s with heap:=h2,drawn:=d } s'→s'.heap.get? s.heap.objs.size=some { cls:=.type "list",dict:=none,data:=.seq acc' c',slots:=#[] }→ItemsOf (fun i v=>vs[i]?=some v) acc' vs.length →
   wpAny (model P w) A (load s.heap.objs.size >>= fun o=>match o.data with|.seq xs _=>pure xs.toList|_=>unsupported "internal:collect") R E s':=fun s' acc' c' h2 k2 hm hS' hacc=>by
  refine wpAny_bind (wpAny_load hS' ?_)
  have e:acc'.toList=vs:=by
   refine List.ext_getElem? fun j=>?_
   rw[Array.getElem?_toList]
   by_cases q:j<acc'.size
   ·have:=hacc.2 j acc'[j] (Array.getElem?_eq_getElem q)
    rw[Array.getElem?_eq_getElem q];exact this.symm
   ·rw[Array.getElem?_eq_none (by omega),List.getElem?_eq_none (by have:=hacc.1;omega)]
  have em:s'={ s with heap:=s'.heap,toks:=s'.toks,drawn:=d }:=by
   obtain⟨hh',g',d',t',o'⟩:=s'
   have e1:s.gens=g':=hm.gens
   have e2:d'=d:=hm.drawn
   have e3:o'=s.os:=hm.os
   subst e1 e2 e3
   rfl
  show wpAny _ _ (pure acc'.toList) _ _ _
  rw[e,em]
  exact wpAny_pure (h _ _ _ vs zs' (fun b o q=>hm.heap b o (by
   simp only[List.mem_cons,List.not_mem_nil,or_false,not_or]
   exact⟨Nat.ne_of_lt (Heap.lt_size q),fun z=>by rw[z,itn] at q;cases q⟩) (k2 b o (Nat.ne_of_lt (Heap.lt_size q)) (hold b o q))) hst hpm)
 have hh1:A.in1.handled=none:=hh
 refine wpAny_ite_split (fun _=>?_) fun _=>?_
 ·refine wpAny_bind (wpAny_rule ?_)
  refine wpAny_bind ?_
  show wpAny _ _ (updateSeq s.heap.objs.size (·.push .none) >>= fun _=>updateSeq s.heap.objs.size (·.pop)) _ _ _
  refine wpAny_bind (wpAny_updateSeq hS1 rfl ?_)
  have hS₂:=Heap.get?_update_self (Obj.mapSeq (·.push Value.none)) hS1 rfl
  refine wpAny_updateSeq (hz:=by seq_fits) hS₂ rfl ?_
  have hS₃:=Heap.get?_update_self (Obj.mapSeq (·.pop)) hS₂ rfl
  have k3:∀ b o,b≠s.heap.objs.size→h'.get? b=some o→((h'.update s.heap.objs.size (Obj.mapSeq (·.push Value.none))).update s.heap.objs.size (Obj.mapSeq (·.pop))).get? b=some o:=fun b o hb e =>
   (Heap.get?_update_other _ _ (Ne.symm hb)).trans ((Heap.get?_update_other _ _ (Ne.symm hb)).trans e)
  refine wpAny_pure ⟨plainId_quiet PySem.F.plain_extend_loop _,codeAny_extend_loopS (set_walks hh1 hit hip) hvl s.heap.objs.size hSf _ vs.length 0 _ #[] _ rfl (Nat.zero_le _) (wk.keep fun b hb o e=>k3 b o (fun z=>hSf (z▸hb)) e) hS₃ (ItemsOf.nil _) fun s' acc' c' hm hS' hacc=>?_⟩
  exact last s' acc' c' _ k3 hm hS' hacc
 ·refine wpAny_pure ⟨plainId_quiet PySem.F.plain_extend_loop _,codeAny_extend_loopS (set_walks hh1 hit hip) hvl s.heap.objs.size hSf _ vs.length 0 _ #[] _ rfl (Nat.zero_le _) wk hS1 (ItemsOf.nil _) fun s' acc' c' hm hS' hacc=>?_⟩
  exact last s' acc' c' _ (fun _ _ _ e=>e) hm hS' hacc
end
end L2
end
section
namespace L2
open PySem PySem.Spec PyProof.Rows PySem.Calls
theorem Inv.keptD{X:Cx}{pins:List (Addr×Obj)}{σ:St}{H:Hp}{s:Shared}{h':Heap}{t':Nat}{d:Drawn}(I:Inv X pins σ H s)(k:∀ b u,s.heap.get? b=some u→h'.get? b=some u):Inv X pins σ H { s with heap:=h',toks:=t',drawn:=d } :=
 let J:=I.kept (t':=t') k
 ⟨J.ok,J.os,J.bare,J.base,J.loc,J.cell,J.free,J.freeC,J.pin,J.hok,J.len⟩
noncomputable def hST(P:Program)(w:World)(p:Addr)(zs:List Str):HO:=.ext fun h=>SetT P w h p zs
theorem ok_hST{P:Program}{w:World}{H:Hp}{h:Heap}{p:Addr}{zs:List Str}(x:SetT P w h p zs):ObjOk P w H h p (hST P w p zs) :=
 ⟨x,let ⟨o,_,_,_,q,_⟩:=x;⟨o,q⟩,fun h1 h2 y k=>y.moved k⟩
theorem valsS:∀ {zs:List Str} {vs:List Value},Vals (zs.map V.str) vs→StrsAre vs zs
 | [],_,.nil=>.nil
 | z::zs,_,.cons r t=>by
  obtain⟨t',rfl⟩:=r
  exact .cons z t' (valsS t)
noncomputable def rSetT(P:Program)(w:World)(K:W.Frag):List V→Hp→VK→Prop:=fun xs H Q=>∃ (l:Addr) (ns:List Str),xs=[.ref l]∧SqL K H l (ns.map V.str)∧ns.length≤4000∧∀ p zs,H p=none→zs.Nodup→(∀ y,y∈zs↔y∈ns)→zs.length≤ns.length→Q (.ref p) (upd H p (hST P w p zs))
theorem call_setT{X:Cx}{P:Program}{w:World}{K:W.Frag}(hP:X.prog=P)(hw:X.w=w)(hK:X.K=K)(hc:X.calm=true):CallR X (.type "set") (rSetT P w K):=by
 subst hP hw hK
 intro pins s σ H xs us Q I r h
 obtain⟨l,ns,rfl,hq,hz,q⟩:=h
 obtain⟨u,rfl,ru⟩:=r.one
 cases (show u=Value.ref l from ru)
 obtain⟨its,rv,pl,_⟩:=I.list hq
 have hS:=valsS rv
 have hl:its.toArray.size=ns.length:=by rw[List.size_toArray];exact strs_len hS
 refine call_setT0 (I.ok.hd hc) pl.isList (by simpa using hS) (by rw[hl];unfold scanBound;omega) fun h' tk zs hT hm hle hk=>?_
 have hn:H s.heap.objs.size=none:=I.hok.fresh (Nat.le_refl _)
 have nd:zs.Nodup:=by obtain⟨_,_,_,_,_,_,_,_,_,nd,_⟩:=hT;exact nd
 exact⟨.ref s.heap.objs.size,_,I.laid (t':=tk) (o:=hST X.prog X.w s.heap.objs.size zs) (fun b o e=>hk b o (Heap.lt_size e) e) (Nat.le_refl _) (ok_hST hT),rfl,q _ zs hn nd hm hle⟩
theorem sort_tail{X:Cx}{pins:List (Addr×Obj)}{σ:St}{H:Hp}{s:Shared}{Q:VK}{E:Value→Shared→Prop}{acc:List Value}{zs:List Str}{h':Heap}{tk:Nat}{d:Drawn}(I1:Inv X pins σ H { s with heap:=h',toks:=tk,drawn:=d })(hS:StrsAre acc zs)(h64:zs.length<64)
  (q:∀ p (ys:List Str),H p=none→ys.Perm zs→sortedS ys=true→Q (.ref p) (upd H p (.lst (ys.map V.str)))) :
  wpAny (model X.prog X.w) X.A.in1 (do
   let l ← newList acc
   let _ ← holding [l] (call (.builtin "list.sort") [l] [])
   ret l) (fun fin s'=>∃ v,fin=.done (.ret v)∧EP X pins σ Q v s') E { s with heap:=h',toks:=tk,drawn:=d }:=by
 have hl:acc.length=zs.length:=strs_len hS
 refine wpAny_bind (wpAny_newList ?_ (by rw[hl,sizeLine_eq];omega))
 have hoL:(h'.push (seqObj "list" acc.toArray 0)).get? h'.objs.size=some (seqObj "list" acc.toArray 0):=Heap.get?_push_size _ rfl
 show wpAny _ _ _ _ _ { s with heap:=h'.push (seqObj "list" acc.toArray 0),toks:=tk,drawn:=d }
 refine wpAny_bind (wpAny_holding (wpAny_call_entry slot_list_sort ⟨_,hoL,rfl⟩ entry_list_sort (list_sort_treeK strKind_oneLt hoL hS.keysOf (fun v₁ v₂ rest e=>keyKind_strs (by rw[← e];exact hS)) (by rw[hl];exact h64) fun st' a1 a2=>⟨_,rfl,?_⟩) (args_list_sort _)))
 obtain⟨ss,h1,h2,h3⟩:=sorted_out_str hS a1 a2
 obtain⟨ee,he⟩:=sortedHeap_at (vs:=acc) (out:=(arrOf st').map (·.2)) hoL
 refine wpAny_pure ⟨_,rfl,.ref h'.objs.size,_,I1.laid (a:=h'.objs.size) (o:=.lst (ss.map V.str)) (t':=tk) (fun b o eb=>?_) (Nat.le_refl _) ⟨?_,_,ee,strsV h1,by rw[Array.toArray_toList];exact he⟩,rfl,q _ _ (I1.hok.fresh (Nat.le_refl _)) h2 h3⟩
 ·have eb:h'.get? b=some o:=eb
  have hb:=Heap.lt_size eb
  rw[sortedHeap_old (Nat.ne_of_lt hb) (by rw[size_push'];exact Nat.lt_succ_of_lt hb)]
  exact Heap.get?_push_of_some _ eb
 ·rw[List.length_map,h2.length_eq]
  exact Nat.le_trans (Nat.le_of_lt h64) (by rw[sizeLine_eq];decide)
noncomputable def rSortT(P:Program)(w:World):List V→Hp→VK→Prop:=fun xs H Q=>∃ (a:Addr) (zs:List Str),xs=[.ref a]∧H a=some (hST P w a zs)∧zs.length<64∧∀ p (ys:List Str),H p=none→ys.Perm zs→sortedS ys=true→Q (.ref p) (upd H p (.lst (ys.map V.str)))
theorem call_sortT{X:Cx}{P:Program}{w:World}(hP:X.prog=P)(hw:X.w=w)(hc:X.calm=true):CallR X (.builtin "sorted") (rSortT P w):=by
 subst hP hw
 intro pins s σ H xs us Q I rv h
 obtain⟨a,zs,rfl,e,h64,q⟩:=h
 obtain⟨u,rfl,ru⟩:=rv.one
 cases ru
 have hT:SetT X.prog X.w s.heap a zs:=(I.hok _ _ e).1
 refine call_function_entry kind_sorted plain_sorted entry_sorted (args_sorted1 _) ?_
 unfold Builtin.«sorted»
 refine wpAny_bind (m:=checkCount "sorted" 1 1 _) (wpAny_pure ?_)
 refine wpAny_bind (set_collect (A:=X.A.in1) (I.ok.hd hc) hT fun h' tk d acc zs' hk hS hp=>?_)
 have I1:Inv X pins σ H { s with heap:=h',toks:=tk,drawn:=d }:=I.keptD hk
 exact sort_tail I1 hS (by rw[hp.length_eq];exact h64) fun p ys hn h1 h2=>q p ys hn (h1.trans hp) h2
noncomputable def rSortL(K:W.Frag):List V→Hp→VK→Prop:=fun xs H Q=>∃ (a:Addr) (zs:List Str),xs=[.ref a]∧SqL K H a (zs.map V.str)∧zs.length<64∧∀ p (ys:List Str),H p=none→ys.Perm zs→sortedS ys=true→Q (.ref p) (upd H p (.lst (ys.map V.str)))
theorem call_sortL{X:Cx}{K:W.Frag}(hK:X.K=K):CallR X (.builtin "sorted") (rSortL K):=by
 subst hK
 intro pins s σ H xs us Q I rv h
 obtain⟨a,zs,rfl,e,h64,q⟩:=h
 obtain⟨u,rfl,ru⟩:=rv.one
 cases (show u=Value.ref a from ru)
 obtain⟨its,rv,pl,_⟩:=I.list e
 have hS:=valsS rv
 refine call_function_entry kind_sorted plain_sorted entry_sorted (args_sorted1 _) ?_
 unfold Builtin.«sorted»
 refine wpAny_bind (m:=checkCount "sorted" 1 1 _) (wpAny_pure ?_)
 refine wpAny_bind (collect_list (A:=X.A.in1) (vs:=its) pl.isList ?_ (by rw[strs_len hS,sizeLine_eq];omega))
 have I1:Inv X pins σ H { s with heap:=(s.heap.push (seqObj "list" #[] 0)).update s.heap.objs.size (Obj.mapSeq (·++its.toArray)),toks:=s.toks,drawn:=s.drawn }:=I.keptD fun b o q=>by
  rw[Heap.get?_update_ne _ _ _ _ (Nat.ne_of_lt (Heap.lt_size q))]
  exact Heap.get?_push_of_some _ q
 exact sort_tail I1 hS h64 q
end L2
namespace VL
open PySem PySem.Spec PyProof.Rows L2
variable[Tabs]
section
variable{K:W.Frag}{E:FK}{X:Exc→Sl→Prop}{ρ:Sl}{Q:TV→Prop}{P:Program}{w:World}
theorem Rep.strsL{H:Hp}{v:V}{zs:List Str}(h:Rep K H v (.list (zs.map .str))):∃ l,v=.ref l∧SqL K H l (zs.map V.str):=by
 cases h with
 | @lst a xs ds h1 h2 =>
  refine⟨a,rfl,?_⟩
  have:xs=zs.map V.str:=by
   clear h1
   induction zs generalizing xs with
   | nil=>cases h2;rfl
   | cons k ks ih=>cases h2 with
    | cons r rs=>rw[Rep.str_inv r,ih rs];rfl
  rw[← this];exact h1
noncomputable def SetTAt(P:Program)(w:World)(zs:List Str):V→Hp→Prop:=fun v H=>∃ p,v=.ref p∧H p=some (hST P w p zs)
theorem SR.pushObj{H0 H:Hp}{σ:L2.St}{ts:List V}{as:List TV}{l:Addr}{o:HO}{φ:V→Hp→Prop}(h:SR K H0 σ ρ ts as H)(hl:H l=none)(hφ:∀ G:Hp,G l=some o→φ (.ref l) G)(hs:∀ G1 G2:Hp,Same G1 G2→φ (.ref l) G1→φ (.ref l) G2):SR K H0 σ ρ (.ref l::ts) (.av (.obj φ)::as) (upd H l o):=by
 obtain⟨⟨p,q,h1,h2,h3,h4⟩,e⟩:=h
 have zl:p l+q l=0:=by
  rcases Nat.eq_zero_or_pos (p l+q l) with w|w
  ·exact w
  ·obtain⟨_,w,_⟩:=SR.lsts h1 h2 l w;rw[hl] at w;cases w
 have s2:Same H (upd H l o):=same_new hl
 have m:Same (VL.hid H p q) (VL.hid (upd H l o) p q):=same_hid s2
 refine⟨⟨p,q,h1.mono m (fun b o _=>s2 b o),.cons (.av (.obj (p:=fun _=>0) (hφ _ ?_) hs fun _=>rfl)) (h2.mono m s2) (fun b=>by simp),h3,h4⟩,e.trans s2⟩
 unfold VL.hid
 rw[if_pos zl]
 exact upd_same
theorem bi_setT{a:TV}{ns:List Str}(ha:a.data=.list (ns.map .str))(hz:ns.length≤4000)(q:∀ zs:List Str,zs.Nodup→(∀ y,y∈zs↔y∈ns)→zs.length≤ns.length→Q (.av (.obj (SetTAt P w zs))))(na:NR a:=by first|exact NR.av|exact NR.bor):Bi K E X (rSetT P w K) [a] Q:=fun H0 σ ρ ts as H vs QV s hl _ k=>by
 obtain⟨v,rfl,s⟩:=one_of s hl
 have r:=s.top na
 rw[ha] at r
 obtain⟨l,rfl,hq⟩:=Rep.strsL r
 exact⟨l,ns,rfl,hq,hz,fun p zs hp h1 h2 h3=>k _ (q zs h1 h2 h3) _ _ (s.pop.pushObj hp (fun G e=>⟨p,rfl,e⟩) fun G1 G2 m ⟨p',e1,e2⟩=>⟨p',e1,m _ _ e2⟩)⟩
theorem bi_sortT{zs:List Str}(hz:zs.length<64)(q:∀ ys:List Str,ys.Perm zs→sortedS ys=true→Q (.av (.own (ys.map fun z=>.d (.str z))))):Bi K E X (rSortT P w) [.av (.obj (SetTAt P w zs))] Q:=fun H0 σ ρ ts as H vs QV s hl _ kk=>by
 obtain⟨v,rfl,s⟩:=one_of s hl
 have:∃ p,v=.ref p∧H p=some (hST P w p zs):=by
  obtain⟨⟨p,q,h1,h2,h3,h4⟩,e⟩:=s
  cases h2 with
  | cons r _ _ =>
   cases r with
   | av r =>
    cases r with
    | obj f _ _ =>
     obtain⟨p',e1,e2⟩:=f
     exact⟨p',e1,hid_le _ _ e2⟩
 obtain⟨p,rfl,hp⟩:=this
 exact⟨p,zs,rfl,hp,hz,fun p' ys hn h1 h2=>kk _ (q ys h1 h2) _ _ (((SR.pop s).strs ys).new (by simp) hn)⟩
theorem bi_sortL{a:TV}{zs:List Str}(ha:a.data=.list (zs.map .str))(hz:zs.length<64)(q:∀ ys:List Str,ys.Perm zs→sortedS ys=true→Q (.av (.own (ys.map fun z=>.d (.str z)))))(na:NR a:=by first|exact NR.av|exact NR.bor):Bi K E X (rSortL K) [a] Q:=fun H0 σ ρ ts as H vs QV s hl _ kk=>by
 obtain⟨v,rfl,s⟩:=one_of s hl
 have r:=s.top na
 rw[ha] at r
 obtain⟨l,rfl,hq⟩:=Rep.strsL r
 exact⟨l,zs,rfl,hq,hz,fun p' ys hn h1 h2=>kk _ (q ys h1 h2) _ _ (((SR.pop s).strs ys).new (by simp) hn)⟩
end
end VL
end
section
namespace L2
open PySem PySem.Spec PyProof.Rows
noncomputable def tMethA{ι:Type}(m:Str)(Cl:ι→Addr)(sp:ι→Sp)(E:XK)(ta:TE):TE:=fun σ H Q=>ta σ H fun x H1=>∃ j a dx fs,x=.ref a∧H1 a=some (.ins (Cl j) dx fs)∧fs.lookup m=none∧sp j [x] H1 Q E
theorem pe_methA{ι:Type}{X:Cx}{CX:CXT}{k:Nat}{sp:ι→Sp}{E:XK}{m:Str}{pos apos:Pos}{o:Expr}{ta:TE}{Cl:ι→Addr}{pl:Sem Bool}(he:PE X o ta)
  (hC:∀ j,Cls X.K (Cl j)∧∃ f fd,Meth X.K (Cl j) m f∧FnOk X.prog X.w X.K X.mg X.base CX k f fd ["self"] (sp j)∧Binds X.K fd ["self"] []) (hr:Room k X.A) (hx:Passes CX X E)
  (ht:eval (.Call (.Attribute o m apos) [] [] pos) X.env=(do
   let ov ← eval o X.env
   standAt apos.atName
   let (f,first) ← holding [ov] (getMethod ov m pl)
   callWith pos f first (backTo pos (starEach [] X.env)) (backToKw pos (keywordEach [] X.env))):=by rfl) :
  PE X (.Call (.Attribute o m apos) [] [] pos) (tMethA m Cl sp E ta):=by
 intro pins s σ H Q I h
 refine PySem.W.methodCall_KW (pl:=pl) (thn (he pins s σ H _ I h) fun u s1 ⟨x,H1,I1,rx,j,a,dx,fs,ex,ea,l,q⟩=>?_) ht
 subst ex
 obtain rfl:u=Value.ref a:=rx
 obtain⟨c,f,fd,M,F,B⟩:=hC j
 refine getmeth_ok I1 ea c M l ?_
 exact PySem.W.callWith_K0 (first:=[.ref a]) I1.kIn M.kp (run_fn (us:=[.ref a]) (vs:=[.ref a]) (dvs:=[]) F hr B .nil hx I1 (.cons rfl .nil) q)
theorem pe_fldK{X:Cx}{K:W.Frag}{e:Expr}{f:Str}{pos:Pos}{ta:TE}(h:X.K=K)(he:PE X e ta)(hb:attributeBase e f X.env (eval e X.env)=eval e X.env:=by rfl):PE X (.Attribute e f pos) (tFld K ta f):=h▸pe_fld he hb
noncomputable def spIns(C:Addr)(ks:List Str):Sp:=fun vs H Q _=>∃ e dx ws,vs=.ref e::ws∧ws.length=ks.length∧H e=some (.ins C dx [])∧Q .non (upd H e (.ins C dx (ks.zip ws)))
section
variable{K:W.Frag}{C e dx:Addr}{k1 k2 k3 k4:Str}{H:Hp}{Q:VK}{w1 w2 w3 w4:V}
theorem ins_sem2(c:Cls K C)(n1:NoAttr K C k1)(n2:NoAttr K C k2)(hk:∀ a b:V,putF k2 b [(k1,a)]=[(k1,a),(k2,b)])(he:H e=some (.ins C dx []))(q:Q .non (upd H e (.ins C dx [(k1,w1),(k2,w2)]))) :
  tSeq (sFld K (tVar 0) (tVar 1) k1) (sFld K (tVar 0) (tVar 2) k2) { nx:=fun _ H'=>Q .non H',rt:=Q } [some (.ref e),some w1,some w2] H :=
 ⟨w1,rfl,.ref e,rfl,e,C,dx,[],rfl,he,c,n1,by simp,w2,rfl,.ref e,rfl,e,C,dx,[(k1,w1)],rfl,upd_same,c,n2,by simp,by
  show Q .non (upd (upd H e (.ins C dx [(k1,w1)])) e (.ins C dx (putF k2 w2 [(k1,w1)])))
  rw[upd_upd,hk];exact q⟩
theorem ins_sem3(c:Cls K C)(n1:NoAttr K C k1)(n2:NoAttr K C k2)(n3:NoAttr K C k3)(hk:∀ a b d:V,putF k3 d (putF k2 b [(k1,a)])=[(k1,a),(k2,b),(k3,d)])(he:H e=some (.ins C dx []))(q:Q .non (upd H e (.ins C dx [(k1,w1),(k2,w2),(k3,w3)]))) :
  tSeq (sFld K (tVar 0) (tVar 1) k1) (tSeq (sFld K (tVar 0) (tVar 2) k2) (sFld K (tVar 0) (tVar 3) k3)) { nx:=fun _ H'=>Q .non H',rt:=Q } [some (.ref e),some w1,some w2,some w3] H :=
 ⟨w1,rfl,.ref e,rfl,e,C,dx,[],rfl,he,c,n1,by simp,w2,rfl,.ref e,rfl,e,C,dx,[(k1,w1)],rfl,upd_same,c,n2,by simp,w3,rfl,.ref e,rfl,e,C,dx,putF k2 w2 [(k1,w1)],rfl,upd_same,c,n3,by have:=length_putF k2 w2 [(k1,w1)];simp at this;omega,by
  show Q .non (upd (upd (upd H e (.ins C dx [(k1,w1)])) e (.ins C dx (putF k2 w2 [(k1,w1)]))) e (.ins C dx (putF k3 w3 (putF k2 w2 [(k1,w1)]))))
  rw[upd_upd,upd_upd,hk];exact q⟩
theorem ins_sem4(c:Cls K C)(n1:NoAttr K C k1)(n2:NoAttr K C k2)(n3:NoAttr K C k3)(n4:NoAttr K C k4)(hk:∀ a b d g:V,putF k4 g (putF k3 d (putF k2 b [(k1,a)]))=[(k1,a),(k2,b),(k3,d),(k4,g)])(he:H e=some (.ins C dx []))(q:Q .non (upd H e (.ins C dx [(k1,w1),(k2,w2),(k3,w3),(k4,w4)]))) :
  tSeq (sFld K (tVar 0) (tVar 1) k1) (tSeq (sFld K (tVar 0) (tVar 2) k2) (tSeq (sFld K (tVar 0) (tVar 3) k3) (sFld K (tVar 0) (tVar 4) k4))) { nx:=fun _ H'=>Q .non H',rt:=Q } [some (.ref e),some w1,some w2,some w3,some w4] H:=by
 have l2:=length_putF k2 w2 [(k1,w1)]
 have l3:=length_putF k3 w3 (putF k2 w2 [(k1,w1)])
 simp at l2
 refine⟨w1,rfl,.ref e,rfl,e,C,dx,[],rfl,he,c,n1,by simp,w2,rfl,.ref e,rfl,e,C,dx,[(k1,w1)],rfl,upd_same,c,n2,by simp,w3,rfl,.ref e,rfl,e,C,dx,putF k2 w2 [(k1,w1)],rfl,upd_same,c,n3,by omega,w4,rfl,.ref e,rfl,e,C,dx,putF k3 w3 (putF k2 w2 [(k1,w1)]),rfl,upd_same,c,n4,by omega,?_⟩
 show Q .non (upd (upd (upd (upd H e (.ins C dx [(k1,w1)])) e (.ins C dx (putF k2 w2 [(k1,w1)]))) e (.ins C dx (putF k3 w3 (putF k2 w2 [(k1,w1)])))) e (.ins C dx (putF k4 w4 (putF k3 w3 (putF k2 w2 [(k1,w1)])))))
 rw[upd_upd,upd_upd,upd_upd,hk];exact q
end
noncomputable def spInsL(K:W.Frag)(C:Addr)(k1 k2 k3:Str):Sp:=fun vs H Q _=>∃ e dx l r w3 xs ys,vs=[.ref e,.ref l,.ref r,w3]∧H e=some (.ins C dx [])∧SqL K H l xs∧SqL K H r ys ∧
 ∀ b1 b2,H b1=none→H b2=none→b1≠b2→b1≠e→b2≠e→Q .non (upd (upd (upd H b1 (.lst xs)) b2 (.lst ys)) e (.ins C dx [(k1,.ref b1),(k2,.ref b2),(k3,w3)]))
theorem SqL.updN{K:W.Frag}{H:Hp}{a b:Addr}{o:HO}{xs:List V}(h:SqL K H a xs)(hb:H b=none):SqL K (L2.upd H b o) a xs:=by
 rcases h with h|h
 ·rcases h with h|⟨ob,h⟩
  ·exact .inl (.inl (by rw[upd_ne (fun z=>by rw[z,hb] at h;cases h)];exact h))
  ·exact .inl (.inr ⟨ob,by rw[upd_ne (fun z=>by rw[z,hb] at h;cases h)];exact h⟩)
 ·exact .inr h
theorem SqL.updI{K:W.Frag}{H:Hp}{a b C dx:Addr}{o:HO}{fs:List (Str×V)}{xs:List V}(h:SqL K H a xs)(hb:H b=some (.ins C dx fs)):SqL K (L2.upd H b o) a xs:=by
 rcases h with h|h
 ·rcases h with h|⟨ob,h⟩
  ·exact .inl (.inl (by rw[upd_ne (fun z=>by rw[z,hb] at h;cases h)];exact h))
  ·exact .inl (.inr ⟨ob,by rw[upd_ne (fun z=>by rw[z,hb] at h;cases h)];exact h⟩)
 ·exact .inr h
section
variable{K:W.Frag}{C e dx l r:Addr}{k1 k2 k3:Str}{H:Hp}{Q:VK}{w3:V}{xs ys:List V}
theorem ins_semL(c:Cls K C)(n1:NoAttr K C k1)(n2:NoAttr K C k2)(n3:NoAttr K C k3)(hk:∀ a b d:V,putF k3 d (putF k2 b [(k1,a)])=[(k1,a),(k2,b),(k3,d)])(he:H e=some (.ins C dx []))(hl:SqL K H l xs)(hr:SqL K H r ys)
  (q:∀ b1 b2,H b1=none→H b2=none→b1≠b2→b1≠e→b2≠e→Q .non (upd (upd (upd H b1 (.lst xs)) b2 (.lst ys)) e (.ins C dx [(k1,.ref b1),(k2,.ref b2),(k3,w3)]))) :
  tSeq (sFld K (tVar 0) (tCB (rLst K) (tCons (tVar 1) tNil)) k1) (tSeq (sFld K (tVar 0) (tCB (rLst K) (tCons (tVar 2) tNil)) k2) (sFld K (tVar 0) (tVar 3) k3)) { nx:=fun _ H'=>Q .non H',rt:=Q } [some (.ref e),some (.ref l),some (.ref r),some w3] H:=by
 refine⟨.ref l,rfl,l,xs,rfl,.inl hl,fun b1 hb1=>?_⟩
 have b1e:b1≠e:=fun z=>by rw[z,he] at hb1;cases hb1
 refine⟨.ref e,rfl,e,C,dx,[],rfl,by rw[upd_ne (Ne.symm b1e)];exact he,c,n1,by simp,?_⟩
 refine⟨.ref r,rfl,r,ys,rfl,.inl ((hr.updN hb1).updI (by rw[upd_ne (Ne.symm b1e)];exact he)),fun b2 hb2=>?_⟩
 have b2e:b2≠e:=fun z=>by rw[z,upd_same] at hb2;cases hb2
 have b21:b2≠b1:=fun z=>by rw[z,upd_ne b1e,upd_same] at hb2;cases hb2
 have hb2':H b2=none:=by rw[upd_ne b2e,upd_ne b21] at hb2;exact hb2
 refine⟨.ref e,rfl,e,C,dx,putF k1 (.ref b1) [],rfl,by rw[upd_ne (Ne.symm b2e),upd_same],c,n2,by simp[putF],?_⟩
 refine⟨w3,rfl,.ref e,rfl,e,C,dx,putF k2 (.ref b2) [(k1,.ref b1)],rfl,upd_same,c,n3,by have:=length_putF k2 (V.ref b2) [(k1,V.ref b1)];simp at this;omega,?_⟩
 have:=q b1 b2 hb1 hb2' (Ne.symm b21) b1e b2e
 rw[← hk] at this
 have eH:upd (upd (upd (upd (upd H b1 (.lst xs)) e (.ins C dx (putF k1 (.ref b1) []))) b2 (.lst ys)) e (.ins C dx (putF k2 (.ref b2) (putF k1 (.ref b1) [])))) e (.ins C dx (putF k3 w3 (putF k2 (.ref b2) [(k1,.ref b1)])))=upd (upd (upd H b1 (.lst xs)) b2 (.lst ys)) e (.ins C dx (putF k3 w3 (putF k2 (.ref b2) [(k1,.ref b1)]))):=by
  funext b
  by_cases z:b=e
  ·subst z;rw[upd_same,upd_same]
  ·rw[upd_ne z,upd_ne z,upd_ne z]
   by_cases y:b=b2
   ·subst y;rw[upd_same,upd_same]
   ·rw[upd_ne y,upd_ne y,upd_ne z]
 show Q .non _
 rw[eH]
 exact this
end
section
variable{P:Program}{w:World}{K:W.Frag}{mg:Str→Option Value}{base:Heap}{CX:CXT}{qual self p1 p2 p3 p4 k1 k2 k3 k4:Str}{st:Stmt}{f C:Addr}{fd:FuncData}{k:Nat}{dV:Value}
theorem mk2(F:FunD K "__init__" qual st dV f fd)(Sc:FnScope [self,p1,p2] [self,p1,p2] (defScope st))(c:Cls K C)(n1:NoAttr K C k1)(n2:NoAttr K C k2)(hk:∀ a b:V,putF k2 b [(k1,a)]=[(k1,a),(k2,b)])
  (hbody:∀ (cdv:Value) (A:Around) (outer:List Env) (s:Shared) (H:Hp) (E:XK),PSs (cxOf CX P w K mg base [self,p1,p2] qual (defScope st) f cdv A outer s H E).nox (defBody st) (tSeq (sFld K (tVar 0) (tVar 1) k1) (sFld K (tVar 0) (tVar 2) k2))) :
  FnOk P w K mg base CX (k+1) f fd [self,p1,p2] (spIns C [k1,k2]):=by
 refine F.ok Sc (fun vs H Q E ⟨e,dx,ws,z,l,_⟩=>by rw[z,List.length_cons,l];rfl) fun cdv A outer s H vs Q E _ h=>⟨_,hbody cdv A outer s H E,?_⟩
 obtain⟨e,dx,ws,rfl,l,he,q⟩:=h
 match ws,l with
 | [w1,w2],_=>exact ins_sem2 c n1 n2 hk he q
theorem mk3(F:FunD K "__init__" qual st dV f fd)(Sc:FnScope [self,p1,p2,p3] [self,p1,p2,p3] (defScope st))(c:Cls K C)(n1:NoAttr K C k1)(n2:NoAttr K C k2)(n3:NoAttr K C k3)(hk:∀ a b d:V,putF k3 d (putF k2 b [(k1,a)])=[(k1,a),(k2,b),(k3,d)])
  (hbody:∀ (cdv:Value) (A:Around) (outer:List Env) (s:Shared) (H:Hp) (E:XK),PSs (cxOf CX P w K mg base [self,p1,p2,p3] qual (defScope st) f cdv A outer s H E).nox (defBody st) (tSeq (sFld K (tVar 0) (tVar 1) k1) (tSeq (sFld K (tVar 0) (tVar 2) k2) (sFld K (tVar 0) (tVar 3) k3)))) :
  FnOk P w K mg base CX (k+1) f fd [self,p1,p2,p3] (spIns C [k1,k2,k3]):=by
 refine F.ok Sc (fun vs H Q E ⟨e,dx,ws,z,l,_⟩=>by rw[z,List.length_cons,l];rfl) fun cdv A outer s H vs Q E _ h=>⟨_,hbody cdv A outer s H E,?_⟩
 obtain⟨e,dx,ws,rfl,l,he,q⟩:=h
 match ws,l with
 | [w1,w2,w3],_=>exact ins_sem3 c n1 n2 n3 hk he q
theorem mk4(F:FunD K "__init__" qual st dV f fd)(Sc:FnScope [self,p1,p2,p3,p4] [self,p1,p2,p3,p4] (defScope st))(c:Cls K C)(n1:NoAttr K C k1)(n2:NoAttr K C k2)(n3:NoAttr K C k3)(n4:NoAttr K C k4)(hk:∀ a b d g:V,putF k4 g (putF k3 d (putF k2 b [(k1,a)]))=[(k1,a),(k2,b),(k3,d),(k4,g)])
  (hbody:∀ (cdv:Value) (A:Around) (outer:List Env) (s:Shared) (H:Hp) (E:XK),PSs (cxOf CX P w K mg base [self,p1,p2,p3,p4] qual (defScope st) f cdv A outer s H E).nox (defBody st) (tSeq (sFld K (tVar 0) (tVar 1) k1) (tSeq (sFld K (tVar 0) (tVar 2) k2) (tSeq (sFld K (tVar 0) (tVar 3) k3) (sFld K (tVar 0) (tVar 4) k4))))) :
  FnOk P w K mg base CX (k+1) f fd [self,p1,p2,p3,p4] (spIns C [k1,k2,k3,k4]):=by
 refine F.ok Sc (fun vs H Q E ⟨e,dx,ws,z,l,_⟩=>by rw[z,List.length_cons,l];rfl) fun cdv A outer s H vs Q E _ h=>⟨_,hbody cdv A outer s H E,?_⟩
 obtain⟨e,dx,ws,rfl,l,he,q⟩:=h
 match ws,l with
 | [w1,w2,w3,w4],_=>exact ins_sem4 c n1 n2 n3 n4 hk he q
theorem mkL(F:FunD K "__init__" qual st dV f fd)(Sc:FnScope [self,p1,p2,p3] [self,p1,p2,p3] (defScope st))(c:Cls K C)(n1:NoAttr K C k1)(n2:NoAttr K C k2)(n3:NoAttr K C k3)(hk:∀ a b d:V,putF k3 d (putF k2 b [(k1,a)])=[(k1,a),(k2,b),(k3,d)])
  (hbody:∀ (cdv:Value) (A:Around) (outer:List Env) (s:Shared) (H:Hp) (E:XK),PSs (cxOf CX P w K mg base [self,p1,p2,p3] qual (defScope st) f cdv A outer s H E).nox (defBody st) (tSeq (sFld K (tVar 0) (tCB (rLst K) (tCons (tVar 1) tNil)) k1) (tSeq (sFld K (tVar 0) (tCB (rLst K) (tCons (tVar 2) tNil)) k2) (sFld K (tVar 0) (tVar 3) k3)))) :
  FnOk P w K mg base CX (k+1) f fd [self,p1,p2,p3] (spInsL K C k1 k2 k3):=by
 refine F.ok Sc (fun vs H Q E ⟨e,dx,l,r,w3,xs,ys,z,_⟩=>by rw[z];rfl) fun cdv A outer s H vs Q E _ h=>⟨_,hbody cdv A outer s H E,?_⟩
 obtain⟨e,dx,l,r,w3,xs,ys,rfl,he,hl,hr,q⟩:=h
 exact ins_semL c n1 n2 n3 hk he hl hr q
end
end L2
end
section
namespace VL
open PySem PySem.Spec PyProof.Rows L2
variable[Tabs]
noncomputable def InsOf(K:W.Frag)(C:Addr)(fds:List (Str×PyData)):V→Hp→Prop:=fun v G=>∃ a dx fs,v=.ref a∧G a=some (.ins C dx fs)∧fs.map Prod.fst=fds.map Prod.fst∧Reps K G (fs.map Prod.snd) (fds.map Prod.snd)
section
variable{K:W.Frag}{C:Addr}{fds:List (Str×PyData)}{G:Hp}
theorem InsOf.same{v:V}{G1 G2:Hp}(m:Same G1 G2)(h:InsOf K C fds v G1):InsOf K C fds v G2 :=
 let ⟨a,dx,fs,e1,e2,e3,e4⟩:=h;⟨a,dx,fs,e1,m _ _ e2,e3,e4.same m⟩
theorem fld_at{f:Str}{x:PyData}:∀ {fs:List (Str×V)} {fds:List (Str×PyData)},fs.map Prod.fst=fds.map Prod.fst→Reps K G (fs.map Prod.snd) (fds.map Prod.snd)→fds.lookup f=some x→∃ v,fs.lookup f=some v∧Rep K G v x
 | [],[],_,_,h=>by cases h
 | [],_::_,e,_,_=>by cases e
 | _::_,[],e,_,_=>by cases e
 | (g,v)::fs,(g',d)::fds,e,r,h=>by
  simp only[List.map_cons,List.cons.injEq] at e
  obtain⟨rfl,e⟩:=e
  cases r with
  | cons r rs =>
   rw[List.lookup_cons] at h ⊢
   cases q:f == g with
   | true=>rw[q] at h;cases h;exact⟨v,rfl,r⟩
   | false=>rw[q] at h;exact fld_at e rs h
theorem fld_no{f:Str}:∀ {fs:List (Str×V)} {fds:List (Str×PyData)},fs.map Prod.fst=fds.map Prod.fst→fds.lookup f=none→fs.lookup f=none
 | [],_,_,_=>rfl
 | _::_,[],e,_=>by cases e
 | (g,v)::fs,(g',d)::fds,e,h=>by
  simp only[List.map_cons,List.cons.injEq] at e
  obtain⟨rfl,e⟩:=e
  rw[List.lookup_cons] at h ⊢
  cases q:f == g with
  | true=>rw[q] at h;cases h
  | false=>rw[q] at h;exact fld_no e h
end
section
variable{K:W.Frag}{E:FK}{X:Exc→Sl→Prop}{ρ:Sl}{Q:TV→Prop}{C:Addr}{fds:List (Str×PyData)}{i:Nat}{f:Str}{x:PyData}
theorem SR.fld{H0 H:Hp}{σ:L2.St}{ts:List V}{as:List TV}(s:SR K H0 σ ρ ts as H)(hi:ρ[i]?=some (some (.obj (InsOf K C fds))))(hl:fds.lookup f=some x) :
  ∃ a dx fs v,σ[i]?=some (some (.ref a))∧H a=some (.ins C dx fs)∧fs.lookup f=some v∧SR K H0 σ ρ (v::ts) (.av (.d x)::as) H:=by
 obtain⟨⟨p,q,h1,h2,h3,h4⟩,e⟩:=s
 obtain⟨p1,p2,v,e1,e2,e3,e4⟩:=h1.frz hi fun _ _ _ _=>trivial
 cases e3 with
 | obj φ m z =>
  obtain⟨a,dx,fs,rfl,g1,g2,g3⟩:=φ
  obtain⟨v,k1,k2⟩:=fld_at g2 g3 hl
  exact⟨a,dx,fs,v,e2,hid_le _ _ g1,k1,⟨⟨p,q,h1,.cons (.av (.d (p:=fun _=>0) k2 fun _=>rfl)) h2 (fun b=>by simp),h3,h4⟩,e⟩⟩
theorem ev_fld(hi:ρ[i]?=some (some (.obj (InsOf K C fds))))(c:Cls K C)(n:NoAttr K C f)(hl:fds.lookup f=some x)(q:Q (.av (.d x))):Ev K E X (tFld K (tVar i) f) ρ Q:=fun H0 σ ts as H QV s _ k=>by
 obtain⟨a,dx,fs,v,e1,e2,e3,s2⟩:=s.fld hi hl
 exact⟨.ref a,e1,a,C,dx,fs,v,rfl,e2,c,n,e3,k _ q _ _ s2⟩
theorem ev_methA{ι:Type}{m:Str}{Cl:ι→Addr}{sp:ι→Sp}{E':XK}(j:ι)(hi:ρ[i]?=some (some (.obj (InsOf K (Cl j) fds))))(hl:fds.lookup m=none)(h:Ev K E X (tCall (sp j) [] E' (tCons (tVar i) tNil)) ρ Q):Ev K E X (tMethA m Cl sp E' (tVar i)) ρ Q:=fun H0 σ ts as H QV s x k=>by
 obtain⟨v,e1,⟨a,dx,fs,rfl,g1,g2,g3⟩,_⟩:=s.atO hi
 obtain⟨v',e1',hh⟩:=h H0 σ ts as H QV s x k
 rw[e1] at e1'
 cases e1'
 exact⟨.ref a,e1,j,a,dx,fs,rfl,g1,fld_no g2 hl,hh⟩
structure InsCls(K:W.Frag)(C:Addr):Prop where
 cl:Cls K C
 ha:PySem.W.findIn K (.ref C) "__class__" = some (some (.builtin "object.__class__"))
 hn:PySem.W.specialIn K (.builtin "object.__class__") "__get__" = some (some (.builtin "getset_descriptor.__get__"))
 ht:PySem.W.takesIn K (.builtin "object.__class__")=some true
 hm:PySem.W.mroIn K C (.type "object")=some true
theorem bi_isiO{c:V}{cv:Value}{b:Bool}(g:InsCls K C)(hc:clsV c=some cv)(e:PySem.W.kitOne K (.ref C) cv=some b)(q:Q (.av (.d (.bool b)))):Bi K E X (rIsi2 K) [.av (.obj (InsOf K C fds)),.raw c] Q:=fun H0 σ ρ ts as H vs QV s hl _ k=>by
 obtain⟨v,w,rfl,s⟩:=two_of s hl
 have hw:=s.pop.raw
 subst hw
 have:∃ a dx fs,v=.ref a∧H a=some (.ins C dx fs):=by
  obtain⟨⟨p,q,h1,h2,h3,h4⟩,e⟩:=s
  cases h2 with
  | cons r _ _ =>
   cases r with
   | av r =>
    cases r with
    | obj f _ _ =>
     obtain⟨a,dx,fs,e1,e2,_⟩:=f
     exact⟨a,dx,fs,e1,hid_le _ _ e2⟩
 obtain⟨a,dx,fs,rfl,ha⟩:=this
 exact rd_isi2 hc (TyOf.ins ha g.cl g.ha g.hn g.ht g.hm) e (k _ q _ _ (s.pop.pop.bl _))
noncomputable def isSca:PyData→Bool
 | .int _=>true
 | .str _=>true
 | _=>false
theorem sca_of{G:Hp}{v:V}{d:PyData}(h:isSca d=true)(r:Rep K G v d):∀ G':Hp,Rep K G' v d:=fun G'=>by
 cases d with
 | int i=>rw[r.int_inv];exact .int i
 | str z=>rw[Rep.str_inv r];exact .str z
 | _=>cases h
theorem scas_of{G:Hp}:∀ {vs:List V} {ds:List PyData},ds.all isSca=true→Reps K G vs ds→∀ G':Hp,Reps K G' vs ds
 | _,[],_,.nil,_=>.nil
 | _,d::ds,h,.cons r rs,G'=>by
  simp only[List.all_cons,Bool.and_eq_true] at h
  exact .cons (sca_of h.1 r G') (scas_of h.2 rs G')
theorem fst_zip{β:Type}:∀ {ks:List Str} {vs:List β},vs.length=ks.length→(ks.zip vs).map Prod.fst=ks
 | [],[],_=>rfl
 | _::_,_::_,h=>by simp only[List.zip_cons_cons,List.map_cons];rw[fst_zip (by simpa using h)]
 | [],_::_,h=>by cases h
 | _::_,[],h=>by cases h
theorem snd_zip{β:Type}:∀ {ks:List Str} {vs:List β},vs.length=ks.length→(ks.zip vs).map Prod.snd=vs
 | [],[],_=>rfl
 | _::_,_::_,h=>by simp only[List.zip_cons_cons,List.map_cons];rw[snd_zip (by simpa using h)]
 | [],_::_,h=>by cases h
 | _::_,[],h=>by cases h
theorem strsR{G:Hp}:∀ zs:List Str,Reps K G (zs.map V.str) (zs.map PyData.str)
 | []=>.nil
 | z::zs=>.cons (.str z) (strsR zs)
theorem SR.pushGx{H0 H H':Hp}{σ:L2.St}{ts:List V}{as:List TV}{v:V}{φ:V→Hp→Prop}(h:SR K H0 σ ρ ts as H)(sm:Same H H')(hφ:∀ G:Hp,(∀ b,H b=none→G b=H' b)→φ v G)(hs:∀ G1 G2:Hp,Same G1 G2→φ v G1→φ v G2):SR K H0 σ ρ (v::ts) (.av (.obj φ)::as) H':=by
 obtain⟨⟨p,q,h1,h2,h3,h4⟩,e⟩:=h
 have z:∀ b,H b=none→p b+q b=0:=fun b hb=>by
  rcases Nat.eq_zero_or_pos (p b+q b) with w|w
  ·exact w
  ·obtain⟨_,w,_⟩:=SR.lsts h1 h2 b w;rw[hb] at w;cases w
 have m:Same (VL.hid H p q) (VL.hid H' p q):=same_hid sm
 refine⟨⟨p,q,h1.mono m (fun b o _=>sm b o),.cons (.av (.obj (p:=fun _=>0) (hφ _ fun b hb=>?_) hs fun _=>rfl)) (h2.mono m sm) (fun b=>by simp),h3,h4⟩,e.trans sm⟩
 unfold VL.hid
 rw[if_pos (z b hb)]
theorem ev_make{ks:List Str}{E':XK}{A:TA}(h:Ea K E X A ρ fun bs=>∃ ds:List PyData,Shs bs (ds.map AV.d)∧ds.length=ks.length∧ds.all isSca=true∧Q (.av (.obj (InsOf K C (ks.zip ds))))):Ev K E X (tMake C (spIns C ks) [] E' A) ρ Q:=fun H0 σ ts as H QV s x k =>
 h H0 σ ts as H _ s x fun bs ⟨ds,sh,hd,hs,q⟩ vs H1 s1 hl y dx hy hdx hne=>by
  obtain⟨rp,s2⟩:=SR.lent sh hl s1
  have r:Reps K H1 vs ds:=by have:=rp.rep (fun _ _ z=>z);rwa [datas_d] at this
  have hvl:vs.length=ks.length:=by rw[← hd];exact r.length
  refine⟨y,dx,vs,by simp,hvl,upd_same,rfl,?_⟩
  rw[upd_upd]
  have s3:SR K H0 σ ρ ts as (upd H1 dx (.own y)):=s2.ext (same_new hdx)
  refine k _ q _ _ (s3.pushObj (by rw[upd_ne (Ne.symm hne)];exact hy) (fun G e=>⟨y,dx,_,rfl,e,?_,?_⟩) fun G1 G2 m hh=>hh.same m)
  ·rw[fst_zip hvl,fst_zip hd]
  ·rw[snd_zip hvl,snd_zip hd];exact scas_of hs r G
theorem ev_makeL{k1 k2 k3:Str}{E':XK}{A:TA}(h:Ea K E X A ρ fun bs=>∃ (xs ys:List Str) (d:PyData),Shs bs [.d (.list (xs.map .str)),.d (.list (ys.map .str)),.d d]∧isSca d=true∧Q (.av (.obj (InsOf K C [(k1,.list (xs.map .str)),(k2,.list (ys.map .str)),(k3,d)])))):Ev K E X (tMake C (spInsL K C k1 k2 k3) [] E' A) ρ Q:=fun H0 σ ts as H QV s x k =>
 h H0 σ ts as H _ s x fun bs ⟨xs,ys,d,sh,hd,q⟩ vs H1 s1 hl y dx hy hdx hne=>by
  obtain⟨rp,s2⟩:=SR.lent sh hl s1
  have r:Reps K H1 vs [.list (xs.map .str),.list (ys.map .str),d]:=rp.rep (fun _ _ z=>z)
  cases r with
  | cons r1 r=>cases r with
   | cons r2 r=>cases r with
    | cons r3 r =>
     cases r
     obtain⟨l,rfl,hl1⟩:=Rep.strsL r1
     obtain⟨r',rfl,hr1⟩:=Rep.strsL r2
     have hy1:upd H1 dx (.own y) y=none:=by rw[upd_ne (Ne.symm hne)];exact hy
     refine⟨y,dx,l,r',_,xs.map V.str,ys.map V.str,rfl,upd_same,((hl1.updN hdx).updN hy1),((hr1.updN hdx).updN hy1),fun b1 b2 hb1 hb2 b12 b1y b2y=>⟨rfl,?_⟩⟩
     have c1:b1≠dx:=fun z=>by rw[z,upd_ne hne,upd_same] at hb1;cases hb1
     have c2:b2≠dx:=fun z=>by rw[z,upd_ne hne,upd_same] at hb2;cases hb2
     have hb1':H1 b1=none:=by rw[upd_ne b1y,upd_ne c1] at hb1;exact hb1
     have hb2':H1 b2=none:=by rw[upd_ne b2y,upd_ne c2] at hb2;exact hb2
     refine k _ q _ _ (s2.pushGx (fun b o e=>?_) (fun G g=>⟨y,dx,_,rfl,(g y hy).trans upd_same,rfl,?_⟩) fun G1 G2 m hh=>hh.same m)
     ·have n1:b≠y:=fun z=>by rw[z,hy] at e;cases e
      have n2:b≠dx:=fun z=>by rw[z,hdx] at e;cases e
      have n3:b≠b1:=fun z=>by rw[z,hb1'] at e;cases e
      have n4:b≠b2:=fun z=>by rw[z,hb2'] at e;cases e
      rw[upd_ne n1,upd_ne n4,upd_ne n3,upd_ne n1,upd_ne n2];exact e
     ·have g1:G b1=some (.lst (xs.map V.str)):=(g b1 hb1').trans (by rw[upd_ne b1y,upd_ne b12,upd_same])
      have g2:G b2=some (.lst (ys.map V.str)):=(g b2 hb2').trans (by rw[upd_ne b2y,upd_same])
      exact .cons (.lst (SqL.of g1) (strsR xs)) (.cons (.lst (SqL.of g2) (strsR ys)) (.cons (sca_of hd r3 G) .nil))
end
section
variable{K:W.Frag}{E:FK}{X:Exc→Sl→Prop}{ρ:Sl}{DV:VEnds}{n:Nat}{r':R2}
theorem sv_ap2S{xs ys:List AV}{k:Int}{e:Str}{m:Nat}(hi:ρ[n]?=some (some (.own xs)))(hk:ixN xs.length k=some m)(hy:xs[m]?=some (.own ys))(hz:ys.length≤1000000)
  (h:DV.nx (ρ.set n (some (.own (xs.set m (.own (ys++[.d (.str e)]))))))) :
  Sv K E X (tDrop (tBM K "list" rAppend (tOp (rOr (rIxL K) r') (tVar n) (tC (.int k))) (tCons (tC (.str e)) tNil))) ρ DV:=fun H0 σ ts as H D st s x f=>by
 obtain⟨l,m',us,vs,e1,e2,e3,e4,e5,e6,e7⟩:=(s.push (v:=.str e) (x:=.str e) fun _=>.str e).write2 (ys':=ys++[.d (.str e)]) st hi hy
 refine⟨.ref l,e1,.inl ⟨l,us,k,.ref m',rfl,rfl,SqL.of e2,?_,rd_tyL e5 ⟨m',vs,.str e,rfl,rfl,e5,small6 (by omega),f.nx _ h _ _ (e7 _ fun G H p q r1 r2=>⟨_,fun _=>Nat.le_refl _,RAs.snoc r2 r1⟩)⟩⟩⟩
 unfold L2.atI
 rw[e3,hk]
 exact e4
theorem sv_clearC{xs ys:List AV}{k:Int}{m:Nat}(hi:ρ[n]?=some (some (.own xs)))(hk:ixN xs.length k=some m)(hy:xs[m]?=some (.own ys))
  (h:DV.nx (ρ.set n (some (.own (xs.set m (.own [])))))) :
  Sv K E X (tDrop (tBM0 K "list" rClear (tOp (rOr (rIxL K) r') (tVar n) (tC (.int k))))) ρ DV:=fun H0 σ ts as H D st s x f=>by
 obtain⟨l,m',us,vs,e1,e2,e3,e4,e5,e6,e7⟩:=(s.int 0).write2 (ys':=[]) st hi hy
 refine⟨.ref l,e1,.inl ⟨l,us,k,.ref m',rfl,rfl,SqL.of e2,?_,rd_tyL e5 ⟨m',vs,rfl,rfl,e5,f.nx _ h _ _ (e7 _ fun G H p q r1 r2=>⟨fun _=>0,fun _=>Nat.zero_le _,.nil fun _=>rfl⟩)⟩⟩⟩
 unfold L2.atI
 rw[e3,hk]
 exact e4
end
section
variable{P:Program}{w:World}{K:W.Frag}{mg:Str→Option Value}{base:Heap}{CX:CXT}{name qual:Str}{st:Stmt}{N ps:List Str}{k:Nat}{Θ:Type}{Pre:Θ→List AV→Prop}{Post:Θ→List AV→AV→Prop}{f:Addr}{fd:FuncData}{dV:Value}
theorem valM(F:FunD K name qual st dV f fd)(Sc:FnScope N ps (defScope st))(hS:∀ θ cs,Pre θ cs→cs.length=ps.length)
  (hbody:∀ (θ:Θ) (cdv:Value) (A:Around) (outer:List Env) (s:Shared) (H:Hp) (E:XK),Room k (A.deeper (envOfC qual (defScope st) s.heap.objs.size f cdv)) →
   ∃ t,PSs (cxOf CX P w K mg base N qual (defScope st) f cdv A outer s H E).nox (defBody st) t∧∀ cs,Pre θ cs→Sv K (toF E) NE t (inA N cs) (finR (Post θ cs))) :
  FnOk P w K mg base CX (k+1) f fd ps (spF K Pre Post) :=
 F.ok Sc (fun vs H Q E ⟨θ,h⟩=>spR_len h (hS θ)) fun cdv A outer s H vs Q E hr ⟨θ,h⟩ =>
  let ⟨t,h1,h2⟩:=hbody θ cdv A outer s H E hr
  ⟨t,h1,bodyR h fun cs pre=>h2 cs pre⟩
end
end VL
end
section
set_option exponentiation.threshold 2000
namespace K50
open PySem L2 VL
noncomputable def top(i:Nat):Stmt:=PySem.Challenge.pw_figurewheel_k50_leaves_told.main.body.getD i (.Pass ⟨0,0,0,0⟩)
noncomputable abbrev s_SignIs_init:Stmt:=(clsBody (top 5)).getD 0 (.Pass ⟨0,0,0,0⟩)
theorem sc_SignIs_init:FnScope ["self", "row", "name", "sign"] ["self", "row", "name", "sign"] (defScope s_SignIs_init):=⟨rfl,rfl,rfl,by decide +kernel,rfl,by decide +kernel,by decide +kernel⟩
noncomputable abbrev s_SignIs_free:Stmt:=(clsBody (top 5)).getD 1 (.Pass ⟨0,0,0,0⟩)
theorem sc_SignIs_free:FnScope ["self"] ["self"] (defScope s_SignIs_free):=⟨rfl,rfl,rfl,by decide +kernel,rfl,by decide +kernel,by decide +kernel⟩
noncomputable abbrev s_SignIs_text:Stmt:=(clsBody (top 5)).getD 2 (.Pass ⟨0,0,0,0⟩)
theorem sc_SignIs_text:FnScope ["self"] ["self"] (defScope s_SignIs_text):=⟨rfl,rfl,rfl,by decide +kernel,rfl,by decide +kernel,by decide +kernel⟩
noncomputable abbrev s_SignsLike_init:Stmt:=(clsBody (top 6)).getD 0 (.Pass ⟨0,0,0,0⟩)
theorem sc_SignsLike_init:FnScope ["self", "row", "name", "other", "second"] ["self", "row", "name", "other", "second"] (defScope s_SignsLike_init):=⟨rfl,rfl,rfl,by decide +kernel,rfl,by decide +kernel,by decide +kernel⟩
noncomputable abbrev s_SignsLike_free:Stmt:=(clsBody (top 6)).getD 1 (.Pass ⟨0,0,0,0⟩)
theorem sc_SignsLike_free:FnScope ["self"] ["self"] (defScope s_SignsLike_free):=⟨rfl,rfl,rfl,by decide +kernel,rfl,by decide +kernel,by decide +kernel⟩
noncomputable abbrev s_SignsLike_text:Stmt:=(clsBody (top 6)).getD 2 (.Pass ⟨0,0,0,0⟩)
theorem sc_SignsLike_text:FnScope ["self"] ["self"] (defScope s_SignsLike_text):=⟨rfl,rfl,rfl,by decide +kernel,rfl,by decide +kernel,by decide +kernel⟩
noncomputable abbrev s_Sums_init:Stmt:=(clsBody (top 7)).getD 0 (.Pass ⟨0,0,0,0⟩)
theorem sc_Sums_init:FnScope ["self", "left", "right", "word"] ["self", "left", "right", "word"] (defScope s_Sums_init):=⟨rfl,rfl,rfl,by decide +kernel,rfl,by decide +kernel,by decide +kernel⟩
noncomputable abbrev s_Sums_free:Stmt:=(clsBody (top 7)).getD 1 (.Pass ⟨0,0,0,0⟩)
theorem sc_Sums_free:FnScope ["self"] ["self"] (defScope s_Sums_free):=⟨rfl,rfl,rfl,by decide +kernel,rfl,by decide +kernel,by decide +kernel⟩
noncomputable abbrev s_Sums_text:Stmt:=(clsBody (top 7)).getD 2 (.Pass ⟨0,0,0,0⟩)
theorem sc_Sums_text:FnScope ["self"] ["self"] (defScope s_Sums_text):=⟨rfl,rfl,rfl,by decide +kernel,rfl,by decide +kernel,by decide +kernel⟩
noncomputable abbrev s_PlaceIs_init:Stmt:=(clsBody (top 8)).getD 0 (.Pass ⟨0,0,0,0⟩)
theorem sc_PlaceIs_init:FnScope ["self", "name", "place"] ["self", "name", "place"] (defScope s_PlaceIs_init):=⟨rfl,rfl,rfl,by decide +kernel,rfl,by decide +kernel,by decide +kernel⟩
noncomputable abbrev s_PlaceIs_free:Stmt:=(clsBody (top 8)).getD 1 (.Pass ⟨0,0,0,0⟩)
theorem sc_PlaceIs_free:FnScope ["self"] ["self"] (defScope s_PlaceIs_free):=⟨rfl,rfl,rfl,by decide +kernel,rfl,by decide +kernel,by decide +kernel⟩
noncomputable abbrev s_PlaceIs_text:Stmt:=(clsBody (top 8)).getD 2 (.Pass ⟨0,0,0,0⟩)
theorem sc_PlaceIs_text:FnScope ["self"] ["self"] (defScope s_PlaceIs_text):=⟨rfl,rfl,rfl,by decide +kernel,rfl,by decide +kernel,by decide +kernel⟩
noncomputable abbrev s_wall:Stmt:=top 0
noncomputable abbrev s_rising:Stmt:=top 2
theorem sc_rising:FnScope ["names"] ["names"] (defScope s_rising):=⟨rfl,rfl,rfl,by decide +kernel,rfl,by decide +kernel,by decide +kernel⟩
noncomputable abbrev s_law_cell:Stmt:=top 10
theorem sc_law_cell:FnScope ["_law_script", "_law_k", "_law_cell_here"] ["_law_script", "_law_k"] (defScope s_law_cell):=⟨rfl,rfl,rfl,by decide +kernel,rfl,by decide +kernel,by decide +kernel⟩
noncomputable abbrev s_law_whole:Stmt:=top 11
theorem sc_law_whole:FnScope ["_law_found"] ["_law_found"] (defScope s_law_whole):=⟨rfl,rfl,rfl,by decide +kernel,rfl,by decide +kernel,by decide +kernel⟩
noncomputable abbrev s_law_name:Stmt:=top 12
theorem sc_law_name:FnScope ["_law_cell_here", "_law_letters", "_law_turn", "_law_name_here", "_law_k"] ["_law_cell_here"] (defScope s_law_name):=⟨rfl,rfl,rfl,by decide +kernel,rfl,by decide +kernel,by decide +kernel⟩
noncomputable abbrev s_law_told:Stmt:=top 13
theorem sc_law_told:FnScope ["_law_one", "_law_free", "_law_text", "_law_turn", "_law_found", "_law_told_here"] ["_law_one", "_law_free", "_law_text"] (defScope s_law_told):=⟨rfl,rfl,rfl,by decide +kernel,rfl,by decide +kernel,by decide +kernel⟩
noncomputable abbrev s_law_once:Stmt:=top 14
theorem sc_law_once:FnScope ["_law_names", "_law_found", "_law_name_here"] ["_law_names"] (defScope s_law_once):=⟨rfl,rfl,rfl,by decide +kernel,rfl,by decide +kernel,by decide +kernel⟩
noncomputable abbrev s_law:Stmt:=top 15
theorem sc_law:FnScope ["_law_script", "_law_great", "_law_row", "_law_other", "_law_names", "_law_sign", "_law_place", "_law_one", "_law_left", "_law_right", "_law_word", "_law_handed"] ["_law_script"] (defScope s_law):=⟨rfl,rfl,rfl,by decide +kernel,rfl,by decide +kernel,by decide +kernel⟩
noncomputable def ts0:List (Addr×(Nat→Nat→Str)):=[]
structure Cs(K:W.Frag)(mg:Str→Option Value)(C_Statement:Addr)(C_SignIs:Addr)(C_SignsLike:Addr)(C_Sums:Addr)(C_PlaceIs:Addr):Prop where
 c_Statement:mg "Statement" = some (.ref C_Statement)
 c_SignIs:mg "SignIs" = some (.ref C_SignIs)
 c_SignsLike:mg "SignsLike" = some (.ref C_SignsLike)
 c_Sums:mg "Sums" = some (.ref C_Sums)
 c_PlaceIs:mg "PlaceIs" = some (.ref C_PlaceIs)
 ic_SignIs:InsCls K C_SignIs
 is_SignIs:PySem.W.kitOne K (.ref C_SignIs) (.ref C_Statement)=some true
 na_SignIs_row:NoAttr K C_SignIs "row"
 na_SignIs_name:NoAttr K C_SignIs "name"
 na_SignIs_sign:NoAttr K C_SignIs "sign"
 x_SignIs:∃ f fd,Mk K C_SignIs f∧FunD K "__init__" "SignIs.__init__" s_SignIs_init .none f fd∧Binds K fd ["self", "row", "name", "sign"] []
 x_SignIs_free:∃ f fd,Meth K C_SignIs "free" f∧FunD K "free" "SignIs.free" s_SignIs_free .none f fd∧Binds K fd ["self"] []
 x_SignIs_text:∃ f fd,Meth K C_SignIs "text" f∧FunD K "text" "SignIs.text" s_SignIs_text .none f fd∧Binds K fd ["self"] []
 ic_SignsLike:InsCls K C_SignsLike
 is_SignsLike:PySem.W.kitOne K (.ref C_SignsLike) (.ref C_Statement)=some true
 na_SignsLike_row:NoAttr K C_SignsLike "row"
 na_SignsLike_name:NoAttr K C_SignsLike "name"
 na_SignsLike_other:NoAttr K C_SignsLike "other"
 na_SignsLike_second:NoAttr K C_SignsLike "second"
 x_SignsLike:∃ f fd,Mk K C_SignsLike f∧FunD K "__init__" "SignsLike.__init__" s_SignsLike_init .none f fd∧Binds K fd ["self", "row", "name", "other", "second"] []
 x_SignsLike_free:∃ f fd,Meth K C_SignsLike "free" f∧FunD K "free" "SignsLike.free" s_SignsLike_free .none f fd∧Binds K fd ["self"] []
 x_SignsLike_text:∃ f fd,Meth K C_SignsLike "text" f∧FunD K "text" "SignsLike.text" s_SignsLike_text .none f fd∧Binds K fd ["self"] []
 ic_Sums:InsCls K C_Sums
 is_Sums:PySem.W.kitOne K (.ref C_Sums) (.ref C_Statement)=some true
 na_Sums_left:NoAttr K C_Sums "left"
 na_Sums_right:NoAttr K C_Sums "right"
 na_Sums_word:NoAttr K C_Sums "word"
 x_Sums:∃ f fd,Mk K C_Sums f∧FunD K "__init__" "Sums.__init__" s_Sums_init .none f fd∧Binds K fd ["self", "left", "right", "word"] []
 x_Sums_free:∃ f fd,Meth K C_Sums "free" f∧FunD K "free" "Sums.free" s_Sums_free .none f fd∧Binds K fd ["self"] []
 x_Sums_text:∃ f fd,Meth K C_Sums "text" f∧FunD K "text" "Sums.text" s_Sums_text .none f fd∧Binds K fd ["self"] []
 ic_PlaceIs:InsCls K C_PlaceIs
 is_PlaceIs:PySem.W.kitOne K (.ref C_PlaceIs) (.ref C_Statement)=some true
 na_PlaceIs_name:NoAttr K C_PlaceIs "name"
 na_PlaceIs_place:NoAttr K C_PlaceIs "place"
 x_PlaceIs:∃ f fd,Mk K C_PlaceIs f∧FunD K "__init__" "PlaceIs.__init__" s_PlaceIs_init .none f fd∧Binds K fd ["self", "name", "place"] []
 x_PlaceIs_free:∃ f fd,Meth K C_PlaceIs "free" f∧FunD K "free" "PlaceIs.free" s_PlaceIs_free .none f fd∧Binds K fd ["self"] []
 x_PlaceIs_text:∃ f fd,Meth K C_PlaceIs "text" f∧FunD K "text" "PlaceIs.text" s_PlaceIs_text .none f fd∧Binds K fd ["self"] []
structure Txt(K:W.Frag)(mg:Str→Option Value):Prop where
 n_bool:mg "bool" = none
 n_int:mg "int" = none
 n_isinstance:mg "isinstance" = none
 n_len:mg "len" = none
 n_list:mg "list" = none
 n_range:mg "range" = none
 n_set:mg "set" = none
 n_sorted:mg "sorted" = none
 n_str:mg "str" = none
 n_tuple:mg "tuple" = none
 x_wall:Tx K mg "_wall" s_wall ["k"] [[]]
 x_rising:Tx K mg "rising" s_rising ["names"] [[]]
 x_law_cell:Tx K mg "_law_cell" s_law_cell ["_law_script", "_law_k"] [[]]
 x_law_whole:Tx K mg "_law_whole" s_law_whole ["_law_found"] [[]]
 x_law_name:Tx K mg "_law_name" s_law_name ["_law_cell_here"] [[]]
 x_law_told:Tx K mg "_law_told" s_law_told ["_law_one", "_law_free", "_law_text"] [[]]
 x_law_once:Tx K mg "_law_once" s_law_once ["_law_names"] [[]]
 cs:∃ C_Statement C_SignIs C_SignsLike C_Sums C_PlaceIs,Cs K mg C_Statement C_SignIs C_SignsLike C_Sums C_PlaceIs
local macro_rules | `(tactic| walk_at "sd") => `(tactic| first
 | (show (0 : Int) < _; omega)
 | (refine ⟨?_, ?_⟩ <;> omega)
 | exact Or.inl ⟨by omega, by omega⟩
 | exact Or.inr ⟨by omega, by omega⟩
 | exact ⟨by decide, by decide, by decide⟩)
local macro_rules | `(tactic| walk_at "nrs") => `(tactic| (repeat (first | exact NRs.nil | refine NRs.cons (by first | exact NR.av | exact NR.bor) ?_)))
local macro_rules | `(tactic| walk_at "v0") => `(tactic| first | walk_at "v0i" | (with_reducible refine s_if ?_))
local macro_rules | `(tactic| walk_at "v0i") => `(tactic| with_reducible first
 | refine s_seq ?_ | refine ev_op ?_ | refine ev_cb ?_ | refine ea_cons ?_ | refine ea_nil ?_ | refine s_next ?_
 | refine ev_int ?_ | refine ev_bl ?_ | refine ev_str ?_ | refine ev_ty ?_ | refine add_i ?_ | refine op_i0 ?_ | refine op_b0 ?_
 | refine ev_and ?_ | refine ev_not ?_ | refine tv_test ?_ | refine tv_b ?_ | refine tv_or ?_ | refine tv_not ?_ | refine tv_all ?_
 | refine v_b ?_ | refine v_i ?_ | refine v_s ?_ | refine ev_c0 ?_ | refine ev_r0 ?_ | refine ev_l0 ?_ | refine to_no ?_ | refine to_part ?_ | refine iteT ?_ | refine iteNT ?_)
local macro_rules | `(tactic| walk_at "v1") => `(tactic| with_reducible first
 | refine ev_v0 ?_ | refine ev_v1 ?_ | refine ev_v2 ?_ | refine ev_v3 ?_ | refine ev_v4 ?_ | refine ev_v5 ?_ | refine ev_v6 ?_ | refine ev_v8 ?_ | refine ev_v9 ?_ | refine ev_v10 ?_
 | refine ev_o1 ?_ | refine ev_o4 ?_ | refine ev_o11 ?_
 | refine sv_a1 ?_ | refine sv_a2 ?_ | refine sv_a3 ?_ | refine sv_a4 ?_ | refine sv_a5 ?_ | refine sv_a6 ?_ | refine sv_a7 ?_ | refine sv_a8 ?_ | refine sv_a9 ?_ | refine sv_a10 ?_ | refine sv_a11 ?_
 | refine gv_0 ?_ | refine gv_2 ?_ | refine gv_3 ?_ | refine gv_4 ?_
 | refine sv_ap1 ?_ | refine sv_ap4 ?_
 | refine ev_f0 ?_ | refine ev_f7 ?_
 )
local macro_rules | `(tactic| walk_at "v") => `(tactic| first | walk_at "v0" | walk_at "v1" | (with_reducible refine s_drop ?_) | (with_reducible refine s_ret ?_) | (refine op_i ?c ?_; (case c => walk_at "sd")) | (refine mul_i ?c ?_; (case c => walk_at "sd")))
local macro_rules | `(tactic| walk_at "vs") => `(tactic| repeat walk_at "v")
local macro_rules | `(tactic| walk_at "vm") => `(tactic| repeat (first | walk_at "v" | refine ix_T rfl rfl Item.d ?_))
local macro_rules | `(tactic| walk_at "vj") => `(tactic| first | walk_at "v0i" | walk_at "v1" | (with_reducible refine s_drop ?_) | (with_reducible refine s_ret ?_) | (refine op_i ?c ?_; (case c => walk_at "sd")) | (refine mul_i ?c ?_; (case c => walk_at "sd")))
local macro_rules | `(tactic| walk_at "vi") => `(tactic| repeat (first | walk_at "vj" | refine ix_T rfl rfl Item.d ?_))
section
variable[Tabs]{P:Program}{w:World}{K:W.Frag}{mg:Str→Option Value}{base:Heap}
theorem lt_anti:∀ {a b:List Nat},PySem.Spec.ltCps a b=false→PySem.Spec.ltCps b a=false→a=b
 | [],[],_,_=>rfl
 | [],_::_,h,_=>by simp[PySem.Spec.ltCps] at h
 | _::_,[],_,h=>by simp[PySem.Spec.ltCps] at h
 | x::a,y::b,h,g=>by
  simp only[PySem.Spec.ltCps] at h g
  have e:x=y:=by
   rcases Nat.lt_trichotomy x y with z|z|z
   ·simp[z] at h
   ·exact z
   ·simp[z] at g
  subst e
  simp at h g
  rw[lt_anti h g]
theorem lt_tr:∀ {a b c:List Nat},PySem.Spec.ltCps b a=false→PySem.Spec.ltCps c b=false→PySem.Spec.ltCps c a=false
 | _,_,[],h,g=>by
  rename_i a b
  cases b with
  | nil =>
   cases a with
   | nil=>rfl
   | cons _ _=>simp[PySem.Spec.ltCps] at h
  | cons _ _=>simp[PySem.Spec.ltCps] at g
 | [],_,_::_,_,_=>by simp[PySem.Spec.ltCps]
 | x::a,[],z::c,h,g=>by simp[PySem.Spec.ltCps] at h
 | x::a,y::b,z::c,h,g=>by
  simp only[PySem.Spec.ltCps] at h g ⊢
  rcases Nat.lt_trichotomy x y with q|q|q
  ·rcases Nat.lt_trichotomy y z with r|r|r
   ·have:¬ z<x:=by omega
    have:¬ z=x:=by omega
    simp[*]
   ·have:¬ z<x:=by omega
    have:¬ z=x:=by omega
    simp[*]
   ·simp[r] at g
  ·subst q
   rcases Nat.lt_trichotomy x z with r|r|r
   ·have:¬ z<x:=by omega
    have:¬ z=x:=by omega
    simp[*]
   ·subst r
    simp at h g ⊢
    exact lt_tr h g
   ·simp[r] at g
  ·simp[q] at h
noncomputable def leS(a b:Str):Prop:=PySem.Spec.ltCps b.cps.toList a.cps.toList=false
theorem leS_anti{a b:Str}(h:leS a b)(g:leS b a):a=b:=by
 have:=lt_anti h g
 cases a;cases b
 exact congrArg Str.mk (Array.ext' this.symm)
theorem srt_pw:∀ {zs:List Str},PyProof.Rows.sortedS zs=true→zs.Pairwise leS
 | [],_=>.nil
 | z::zs,h=>by
  have key:∀ (zs:List Str) (p:Str),PyProof.Rows.risingS p zs=true→(p::zs).Pairwise leS:=by
   intro zs
   induction zs with
   | nil=>intro p _;simp
   | cons x zs ih =>
    intro p h
    have h:(!PySem.Spec.ltCps x.cps.toList p.cps.toList && PyProof.Rows.risingS x zs)=true:=h
    rw[Bool.and_eq_true] at h
    have hx:leS p x:=by show PySem.Spec.ltCps _ _=false;simpa using h.1
    have hp:=ih x h.2
    refine List.pairwise_cons.mpr ⟨fun y hy=>?_,hp⟩
    rcases List.mem_cons.mp hy with e|e
    ·rw[e];exact hx
    ·exact lt_tr hx ((List.pairwise_cons.mp hp).1 y e)
  exact key zs z h
structure Once(ns ys:List Str):Prop where
 s:PyProof.Rows.sortedS ys=true
 d:ys.Nodup
 m:∀ y,y∈ys↔y∈ns
 l:ys.length≤ns.length
theorem Once.one{ns ys zs:List Str}(h:Once ns ys)(g:Once ns zs):ys=zs :=
 List.Perm.eq_of_pairwise (le:=leS) (fun a b _ _ h1 h2=>leS_anti h1 h2) (srt_pw h.s) (srt_pw g.s) ((List.perm_ext_iff_of_nodup h.d g.d).mpr fun y=>(h.m y).trans (g.m y).symm)
noncomputable abbrev dLs(ns:List Str):PyData:=.list (ns.map .str)
theorem dLs_inj{a b:List Str}(h:dLs a=dLs b):a=b:=by
 have h:=PyData.list.inj h
 exact (List.map_inj_right fun x y e=>PyData.str.inj e).mp h
noncomputable abbrev oS(ns:List Str):AV:=.own (ns.map fun z=>.d (.str z))
theorem oS_data(ns:List Str):(oS ns).data=dLs ns:=by rw[AV.data,datas_mapd]
theorem oS_clean(ns:List Str):(oS ns).clean=true:=clean_map fun _=>rfl
noncomputable def Pre_ri(cs:List AV):Prop:=∃ ns:List Str,cs=[.d (dLs ns)]∧ns.length≤60
noncomputable def Post_ri(cs:List AV)(c:AV):Prop:=∃ ns ys:List Str,cs=[.d (dLs ns)]∧Once ns ys∧c=.d (.tuple (ys.map .str))
theorem noLsts_strs(zs:List Str):noLsts (zs.map PyData.str)=true:=noLsts_map (fun _=>rfl) zs
theorem ok_rising(T:Txt K mg):Cal P w K mg base (CXE P w) 1 "rising" ["names"] [] (spR K Pre_ri Post_ri NP):=by
 refine valR T.x_rising sc_rising (fun cs ⟨n,e,_⟩=>by rw[e];rfl) (fun f cdv A outer s H E hr=>?_) [] (by simp)
 refine⟨_,(pss_one (ps_ret (pe_callTy (call_tupK (K:=K) rfl) rfl T.n_tuple PyProof.Rows.boot_tuple (pa_cons (pe_callB (call_sortT (P:=P) (w:=w) rfl rfl rfl) rfl T.n_sorted PyProof.Rows.boot_sorted (pa_cons (pe_callTy (call_setT (P:=P) (w:=w) (K:=K) rfl rfl rfl rfl) rfl T.n_set PyProof.Rows.boot_set (pa_cons (pv 0) pa_nil)) pa_nil)) pa_nil)))),?_⟩
 rintro cs ⟨ns,rfl,hn⟩
 show Sv K _ _ _ [some (.d (dLs ns))] _
 walk_at "vs"
 refine bi_setT (P:=P) (w:=w) (ns:=ns) rfl (by omega) fun zs h1 h2 h3=>?_
 walk_at "vs"
 refine bi_sortT (by omega) fun ys p1 p2=>?_
 walk_at "vs"
 refine bi_tupL (ds:=ys.map .str) (oS_data ys) (.inr (noLsts_strs ys)) ?_
 exact⟨_,res_d rfl,ns,ys,rfl,⟨p2,p1.nodup_iff.mpr h1,fun y=>(p1.mem_iff).trans (h2 y),by rw[p1.length_eq];exact h3⟩,rfl⟩
theorem use_ri{Q:TV→Prop}{X:Exc→Prop}{ns:List Str}{a:TV}(na:NR a)(ha:a.data=dLs ns)(hn:ns.length≤60)(q:∀ ys,Once ns ys→Q (.av (.d (.tuple (ys.map .str))))):ClR Pre_ri Post_ri NP [] Q X [a] :=
 ⟨[.d (dLs ns)],.cons (.d na ha) .nil,⟨ns,rfl,hn⟩,fun c ⟨ns',ys,e,h,ec⟩=>by
  simp only[List.append_nil,List.cons.injEq,AV.d.injEq,and_true] at e
  have e:=dLs_inj e
  subst e ec
  exact⟨_,Got.own (by show noLst (.tuple (ys.map .str))=true;simp only[noLst];exact noLsts_strs ys),q ys h⟩,fun _ z=>z.elim⟩
theorem atI_intL{ns:List Int}{k:Int}(h0:0≤k)(h:k<ns.length):atI (ns.map PyData.int) k=some (.int (ns.getD k.toNat 0)):=by
 have e:k.toNat<ns.length:=by omega
 exact atI_of h0 (by rw[List.getElem?_map,List.getElem?_eq_getElem e,List.getD_eq_getElem?_getD,List.getElem?_eq_getElem e];rfl)
noncomputable def Pre_cell(cs:List AV):Prop:=∃ (ns:List Int) (k:Int),cs=[.d (dI ns),.d (.int k)]∧0≤k∧k<900
noncomputable def PostN(c:AV):Prop:=∃ r:Int,c=.d (.int r)∧0≤r
theorem ok_cell(T:Txt K mg):Cal P w K mg base (CXE P w) 1 "_law_cell" ["_law_script", "_law_k"] [] (spR K Pre_cell (fun _=>PostN) NP):=by
 refine valR T.x_law_cell sc_law_cell (fun cs ⟨c,k,e,_⟩=>by rw[e];rfl) (fun f cdv A outer s H E hr=>?_) [] (by simp)
 refine⟨_,(pss_cons (ps_set (i:=2) sc_law_cell.nd rfl (Or.inl rfl) pe_int)
   (pss_cons (ps_ifJ (pt_cmpR op_lt (pv 1) (pe_callB (call_lenAny (K:=K) rfl) rfl T.n_len PySem.boot_len (pa_cons (pv 0) pa_nil)) (nomark _))
    (pss_one (ps_set (i:=2) sc_law_cell.nd rfl (Or.inl rfl) (pe_op op_mod (pe_ix (ix_any (K:=K) rfl hr.units) (pv 0) (pv 1) (fun _ _=>rfl)) (pe_op op_pow pe_int pe_int))))
    pss_nil)
   (pss_one (ps_ret (pe_op op_mod (pe_op op_times (pe_op op_mod (pe_op (op_plus (K:=K) rfl) (pe_op op_times (pv 2) pe_int) (pe_op op_times pe_int (pv 1))) pe_int) pe_int) pe_int))))),?_⟩
 rintro cs ⟨ns,k,rfl,h0,h1⟩
 show Sv K _ _ _ [some (.d (dI ns)),some (.d (.int k)),none] _
 walk_at "vs"
 refine s_ifJ (fun ρ=>∃ c:Int,ρ=[some (.d (dI ns)),some (.d (.int k)),some (.d (.int c))]∧0≤c∧c<10 ^ 18) ?_ ?_
 case refine_2 =>
  walk_at "vs"
  refine len_L rfl ?_
  rw[List.length_map]
  walk_at "vs"
  refine ite2 (fun h=>?_) fun h=>?_
  ·have hk:=of_decide_eq_true h
   walk_at "vs"
   refine ix_L rfl (atI_intL h0 hk) (Item.flat rfl) ?_
   walk_at "vs"
   refine op_i (by decide) ?_
   walk_at "vs"
   exact⟨_,rfl,Int.emod_nonneg _ (by decide),Int.emod_lt_of_pos _ (by decide)⟩
  ·walk_at "vs"
   exact⟨0,rfl,by decide,by decide⟩
 rintro ρ ⟨c,rfl,c0,c1⟩
 walk_at "vs"
 exact⟨_,res_d rfl,_,rfl,Int.emod_nonneg _ (by decide)⟩
theorem use_cell{Q:TV→Prop}{X:Exc→Prop}{ns:List Int}{k:Int}(h:0≤k∧k<900)(q:∀ r:Int,0≤r→Q (.av (.d (.int r)))):ClR Pre_cell (fun _=>PostN) NP [] Q X [.av (.d (dI ns)),.av (.d (.int k))] :=
 ⟨[.d (dI ns),.d (.int k)],.cons (.d NR.av rfl) (.cons (.d NR.av rfl) .nil),⟨ns,k,rfl,h.1,h.2⟩,fun c ⟨r,e,h⟩=>e▸⟨_,Got.own rfl,q r h⟩,fun _ z=>z.elim⟩
noncomputable def Nm(z:Str):Prop:=z.length≤6∧∀ c∈z.cps.toList,c<128
theorem Nm.ok{z:Str}(h:Nm z):PyData.strOk z=true:=by
 unfold PyData.strOk
 rw[Array.all_eq_true]
 intro i hi
 have:=h.2 z.cps[i] (Array.getElem_mem_toList hi)
 simp
 omega
noncomputable abbrev ABC:Str := "abcdefghijklmnopqrstuvwxyz"
theorem abc_at{k:Int}(h:0≤k∧k<26):∃ c,atI ABC.cps.toList k=some c∧c<128:=by
 have H:∀ n,n<26→(atI ABC.cps.toList ((n:Nat):Int)).isSome=true∧(atI ABC.cps.toList ((n:Nat):Int)).getD 0<128:=by decide +kernel
 obtain⟨n,rfl⟩:=Int.eq_ofNat_of_zero_le h.1
 obtain⟨h1,h2⟩:=H n (by omega)
 obtain⟨c,hc⟩:=Option.isSome_iff_exists.mp h1
 rw[hc] at h2
 exact⟨c,hc,h2⟩
noncomputable abbrev GRT:Str := "ABCDEFGHIJKLMNOPQRSTUVWXYZ"
theorem grt_at{k:Int}(h:0≤k∧k<26):∃ c,atI GRT.cps.toList k=some c∧c<128:=by
 have H:∀ n,n<26→(atI GRT.cps.toList ((n:Nat):Int)).isSome=true∧(atI GRT.cps.toList ((n:Nat):Int)).getD 0<128:=by decide +kernel
 obtain⟨n,rfl⟩:=Int.eq_ofNat_of_zero_le h.1
 obtain⟨h1,h2⟩:=H n (by omega)
 obtain⟨c,hc⟩:=Option.isSome_iff_exists.mp h1
 rw[hc] at h2
 exact⟨c,hc,h2⟩
noncomputable def Pre_nm(cs:List AV):Prop:=∃ r:Int,cs=[.d (.int r)]∧0≤r
noncomputable def PostS(c:AV):Prop:=∃ z:Str,c=.d (.str z)∧Nm z
theorem ok_name(T:Txt K mg):Cal P w K mg base (CXE P w) 1 "_law_name" ["_law_cell_here"] [] (spR K Pre_nm (fun _=>PostS) NP):=by
 refine valR T.x_law_name sc_law_name (fun cs ⟨r,e,_⟩=>by rw[e];rfl) (fun f cdv A outer s H E hr=>?_) [] (by simp)
 refine⟨_,(pss_cons (ps_set (i:=1) sc_law_name.nd rfl (Or.inl rfl) pe_str)
   (pss_cons (ps_set (i:=2) sc_law_name.nd rfl (Or.inl rfl) (pe_op (op_plus (K:=K) rfl) pe_int (pe_op op_mod (pv 0) pe_int)))
   (pss_cons (ps_set (i:=3) sc_law_name.nd rfl (Or.inl rfl) pe_str)
   (pss_cons (ps_for PassesOwn.never rfl (pi_range1 rfl T.n_range (pa_cons (pe_op (op_plus (K:=K) rfl) pe_int (pe_op op_mod (pv 0) pe_int)) pa_nil)) (pg_name (i:=4) sc_law_name.nd rfl (Or.inl rfl))
    (pss_cons (ps_set (i:=2) sc_law_name.nd rfl (Or.inl rfl) (pe_op op_mod (pe_op op_times (pv 2) pe_int) pe_int))
    (pss_one (ps_set (i:=3) sc_law_name.nd rfl (Or.inl rfl) (pe_op (op_plus (K:=K) rfl) (pv 3) (pe_ix (ix_any (K:=K) rfl hr.units) (pv 1) (pe_op op_mod (pe_op op_fdiv (pv 2) pe_int) (pe_ix (ix_any (K:=K) rfl hr.units) (pe_lst (pa_cons pe_int (pa_cons pe_int pa_nil))) (pe_op op_mod (pe_op op_fdiv (pv 0) pe_int) pe_int) (fun _ _=>rfl))) (fun _ _=>rfl)))))))
   (pss_cons (ps_if (pt_cmpR (op_inA (K:=K) rfl hr.units) (pv 3) (pe_tup (pa_cons pe_str (pa_cons pe_str (pa_cons pe_str (pa_cons pe_str (pa_cons pe_str (pa_cons pe_str (pa_cons pe_str pa_nil)))))))) (by with_unfolding_all rfl))
    (pss_one (ps_ret pe_str))
    pss_nil)
   (pss_one (ps_ret (pv 3)))))))),?_⟩
 rintro cs ⟨r,rfl,h0⟩
 show Sv K _ _ _ [some (.d (.int r)),none,none,none,none] _
 walk_at "vi"
 refine for_R ?_
 walk_at "vi"
 refine⟨1+r%6,rfl,⟨by omega,by omega⟩,fun i ρ=>∃ (t:Int) (z:Str) (o:Option AV),ρ=[some (.d (.int r)),some (.d (.str ABC)),some (.d (.int t)),some (.d (.str z)),o]∧0≤t∧t<2147483647∧z.length=i∧∀ c∈z.cps.toList,c<128,⟨1+r%2147483646, "",none,rfl,by omega,by omega,rfl,fun c hc=>by cases (show c∈([]:List Nat) from hc)⟩,?_,?_⟩
 ·rintro i ρ hi ⟨t,z,o,rfl,t0,t1,hz,hc⟩
  have hi6:i<6:=by omega
  walk_at "vi"
  refine ev_lst ?_
  walk_at "vi"
  refine⟨[.d (.int 26),.d (.int 3)],.cons rfl (.cons rfl .nil),by show 2≤1000;decide,?_⟩
  walk_at "vi"
  have hm:∃ m:Int,atI [PyData.int 26,.int 3] (r / 6%2)=some (.int m)∧0<m∧m≤26:=by
   have:r / 6%2=0∨r / 6%2=1:=by omega
   rcases this with q|q
   ·rw[q];exact⟨26,rfl,by decide,by decide⟩
   ·rw[q];exact⟨3,rfl,by decide,by decide⟩
  obtain⟨m,hm,m0,m1⟩:=hm
  refine ix_L (ds:=[.int 26,.int 3]) rfl hm (Item.flat rfl) ?_
  have u0:0≤t*48271%2147483647:=Int.emod_nonneg _ (by decide)
  have u1:t*48271%2147483647<2147483647:=Int.emod_lt_of_pos _ (by decide)
  generalize t*48271%2147483647=t2 at u0 u1
  refine op_i m0 ?_
  have k0:0≤t2 / 3%m:=Int.emod_nonneg _ (by omega)
  have k1:t2 / 3%m<m:=Int.emod_lt_of_pos _ m0
  obtain⟨c,hc1,hc2⟩:=abc_at (k:=t2 / 3%m) ⟨k0,by omega⟩
  refine ix_S (z:=ABC) rfl (by decide +kernel) hc1 ?_
  walk_at "vi"
  refine add_s (y:=z) (z:=⟨#[c]⟩) rfl rfl (by rw[hz];show i+1≤_;omega) ?_
  walk_at "vi"
  refine⟨t2,_,_,rfl,u0,u1,by rw[Str.length_append,hz];rfl,fun x hx=>?_⟩
  rw[PySem.W.KT.app_list] at hx
  rcases List.mem_append.mp hx with q|q
  ·exact hc x q
  ·rw[List.mem_singleton.mp (show x∈[c] from q)];exact hc2
 rintro ρ ⟨t,z,o,rfl,t0,t1,hz,hc⟩
 have nz:Nm z:=⟨by rw[hz];omega,hc⟩
 walk_at "vi"
 refine s_if ?_
 walk_at "vi"
 refine ev_tup ?_
 walk_at "vi"
 refine⟨[.d (.str "some"),.d (.str "all"),.d (.str "not"),.d (.str "and"),.d (.str "or"),.d (.str "is"),.d (.str "like")],.cons rfl (.cons rfl (.cons rfl (.cons rfl (.cons rfl (.cons rfl (.cons rfl .nil)))))),by show 7≤1000;decide,?_⟩
 refine in_d (f:=dS) (c:=⟨z,nz.ok⟩) (xs:=[⟨"some",by decide +kernel⟩,⟨"all",by decide +kernel⟩,⟨"not",by decide +kernel⟩,⟨"and",by decide +kernel⟩,⟨"or",by decide +kernel⟩,⟨"is",by decide +kernel⟩,⟨"like",by decide +kernel⟩]) Enc.str rfl (.inr rfl) ?_
 refine⟨_,rfl,?_⟩
 refine ite2 (fun _=>?_) fun _=>?_
 ·walk_at "vi"
  exact⟨_,res_d rfl,_,rfl,by decide +kernel,by decide +kernel⟩
 ·walk_at "vi"
  exact⟨_,res_d rfl,z,rfl,nz⟩
theorem use_name{Q:TV→Prop}{X:Exc→Prop}{r:Int}(h:0≤r)(q:∀ z:Str,Nm z→Q (.av (.d (.str z)))):ClR Pre_nm (fun _=>PostS) NP [] Q X [.av (.d (.int r))] :=
 ⟨[.d (.int r)],.cons (.d NR.av rfl) .nil,⟨r,rfl,h⟩,fun c ⟨z,e,h⟩=>e▸⟨_,Got.own rfl,q z h⟩,fun _ z=>z.elim⟩
noncomputable def Pre_on(cs:List AV):Prop:=∃ ns:List Str,cs=[.d (dLs ns)]∧ns.length≤60∧∀ z∈ns,PyData.strOk z=true
noncomputable def Post_on(cs:List AV)(c:AV):Prop:=∃ ns ys:List Str,cs=[.d (dLs ns)]∧Once ns ys∧c=oS ys
theorem okS:∀ {ns:List Str},(∀ z∈ns,PyData.strOk z=true)→∃ xs:List OkS,ns=xs.map Subtype.val
 | [],_=>⟨[],rfl⟩
 | z::ns,h=>by
  obtain⟨xs,e⟩:=okS (ns:=ns) fun y hy=>h y (.tail _ hy)
  exact⟨⟨z,h z (.head _)⟩::xs,congrArg (z::·) e⟩
theorem ok_once(T:Txt K mg):Cal P w K mg base (CXE P w) 1 "_law_once" ["_law_names"] [] (spR K Pre_on Post_on NP):=by
 refine valR T.x_law_once sc_law_once (fun cs ⟨r,e,_⟩=>by rw[e];rfl) (fun f cdv A outer s H E hr=>?_) [] (by simp)
 refine⟨_,(pss_cons (ps_set (i:=1) sc_law_once.nd rfl (Or.inl rfl) (pe_lst pa_nil))
   (pss_cons (ps_for PassesOwn.never rfl (pi_seq (K:=K) rfl (pv 0)) (pg_name (i:=2) sc_law_once.nd rfl (Or.inl rfl))
    (pss_one (ps_ifJ (pt_cmpR (op_notInA (K:=K) rfl hr.units) (pv 2) (pv 1) (by with_unfolding_all rfl))
     (pss_one (ps_expr (pe_bmK (K:=K) rfl PySem.F.plainAttrs_list PySem.F.slot_list_append PySem.F.type_list_append mt_append (pv 1) (pa_cons (pv 2) pa_nil))))
     pss_nil)))
   (pss_one (ps_ret (pe_callB (call_sortL (K:=K) rfl) rfl T.n_sorted PyProof.Rows.boot_sorted (pa_cons (pv 1) pa_nil)))))),?_⟩
 rintro cs ⟨ns,rfl,hn,ho⟩
 show Sv K _ _ _ [some (.d (dLs ns)),none,none] _
 walk_at "vi"
 refine for_L (α:=Str) ?_
 walk_at "vi"
 refine⟨ns,PyData.str,.inl rfl,⟨_,rfl⟩,fun i ρ=>∃ (ys:List Str) (o:Option AV),ρ=[some (.d (dLs ns)),some (oS ys),o]∧ys.Nodup∧(∀ y,y∈ys↔y∈ns.take i)∧ys.length≤i,⟨[],none,rfl,.nil,fun y=>by simp,Nat.le_refl _⟩,?_,?_⟩
 ·rintro i ρ hi ⟨ys,o,rfl,nd,hm,hl⟩
  have hty:∀ y,y∈ns.take (i+1)↔y∈ns.take i∨y=ns[i]:=fun y=>by rw[List.take_add_one,List.getElem?_eq_getElem hi,List.mem_append];show _∨y∈[ns[i]]↔_;rw[List.mem_singleton]
  have hys:∀ z∈ys,PyData.strOk z=true:=fun z hz=>ho z (List.mem_of_mem_take ((hm z).mp hz))
  obtain⟨xs,hxs⟩:=okS hys
  walk_at "vi"
  refine s_ifJ (fun ρ=>∃ (ys:List Str) (o:Option AV),ρ=[some (.d (dLs ns)),some (oS ys),o]∧ys.Nodup∧(∀ y,y∈ys↔y∈ns.take (i+1))∧ys.length≤i+1) (fun ρ h=>h) ?_
  walk_at "vi"
  refine nin_d (f:=dS) (c:=⟨ns[i],ho _ (List.getElem_mem hi)⟩) (xs:=xs) Enc.str rfl (.inl (by rw[TV.data,datas_mapd,hxs,List.map_map];rfl)) ?_
  have hmem:(⟨ns[i],ho _ (List.getElem_mem hi)⟩:OkS)∈xs↔ns[i]∈ys:=by
   rw[hxs,List.mem_map]
   exact⟨fun h=>⟨_,h,rfl⟩,fun⟨x,hx,e⟩=>by
    have:x=⟨ns[i],ho _ (List.getElem_mem hi)⟩:=Subtype.ext e
    rw[← this];exact hx⟩
  refine⟨_,rfl,?_⟩
  refine ite2 (fun h=>?_) fun h=>?_
  rotate_left
  ·have hin:ns[i]∈ys:=Classical.byContradiction fun z=>h (by simp only[Bool.not_eq_true',decide_eq_false_iff_not];exact fun q=>z (hmem.mp q))
   walk_at "vi"
   refine⟨ys,_,rfl,nd,fun y=>?_,by omega⟩
   rw[hty,← hm]
   exact⟨.inl,fun h=>h.elim id fun e=>e▸hin⟩
  ·have hin:¬ ns[i]∈ys:=fun z=>by simp[hmem.mpr z] at h
   walk_at "vi"
   refine v_ap ?hz ?_
   case hz=>rw[List.length_map];omega
   refine⟨ys++[ns[i]],_,by rw[show oS (ys++[ns[i]])=AV.own (ys.map (fun z=>.d (.str z))++[.d (.str ns[i])]) by show AV.own (List.map _ _)=_;rw[List.map_append];rfl],?_,fun y=>?_,by rw[List.length_append];simp;omega⟩
   ·rw[List.nodup_append]
    exact⟨nd,by simp,fun a ha b hb e=>hin (by rw[List.mem_singleton.mp hb] at e;exact e▸ha)⟩
   ·rw[List.mem_append,hty,hm,List.mem_singleton]
 rintro ρ ⟨ys,o,rfl,nd,hm,hl⟩
 rw[List.take_length] at hm
 walk_at "vi"
 refine bi_sortL (zs:=ys) (by rw[TV.data,datas_mapd]) (by omega) fun zs p1 p2=>?_
 exact⟨_,res_o rfl,ns,zs,rfl,⟨p2,p1.nodup_iff.mpr nd,fun y=>p1.mem_iff.trans (hm y),by rw[p1.length_eq];exact hl⟩,rfl⟩
theorem use_on{Q:TV→Prop}{X:Exc→Prop}{ns:List Str}{a:TV}(na:NR a)(ha:a.data=dLs ns)(hn:ns.length≤60)(ho:∀ z∈ns,PyData.strOk z=true)(q:∀ ys,Once ns ys→Q (.av (oS ys))):ClR Pre_on Post_on NP [] Q X [a] :=
 ⟨[.d (dLs ns)],.cons (.d na ha) .nil,⟨ns,rfl,hn,ho⟩,fun c ⟨ns',ys,e,h,ec⟩=>by
  simp only[List.append_nil,List.cons.injEq,AV.d.injEq,and_true] at e
  have e:=dLs_inj e
  subst e ec
  exact⟨_,Got.own (oS_clean ys),q ys h⟩,fun _ z=>z.elim⟩
noncomputable def S_whole(ds:List PyData)(c:AV):Prop:=∃ k:Int,ds=[.int k]∧c=.d (.bool true)
theorem ok_whole(T:Txt K mg):Cal P w K mg base (CXE P w) 1 "_law_whole" ["_law_found"] [] (spV K S_whole NX):=by
 refine val T.x_law_whole sc_law_whole (fun ds c ⟨k,e,_⟩=>by rw[e];rfl) (fun f cdv A outer s H E hr=>?_) [] (by simp)
 refine⟨_,(pss_one (ps_ret (pe_and (pe_callB (call_isi2K (K:=K) rfl) rfl T.n_isinstance PyProof.Rows.boot_isinstance (pa_cons (pv 0) (pa_cons (pe_bltn (v:=.ty "int") rfl T.n_int PyProof.Rows.boot_int rfl) pa_nil))) (pe_one (pe_not (pe_callB (call_isi2K (K:=K) rfl) rfl T.n_isinstance PyProof.Rows.boot_isinstance (pa_cons (pv 0) (pa_cons (pe_bltn (v:=.ty "bool") rfl T.n_bool PyProof.Rows.boot_bool rfl) pa_nil)))))))),?_⟩
 rintro ds c ⟨k,rfl,rfl⟩
 show Sv K _ _ _ [some (.d (.int k))] _
 walk_at "vs"
 refine isi_int_int ?_
 walk_at "vs"
 refine isi_int_bool ?_
 walk_at "vs"
 exact res_d rfl
theorem use_whole{Q:TV→Prop}{k:Int}(q:Q (.av (.d (.bool true)))):Cl S_whole [] Q [.av (.d (.int k))]:=call_of (by walk_at "nrs") ⟨k,rfl,rfl⟩ (Got.own rfl) q
noncomputable def Sn(x:Int):Prop:=0≤x∧x<10 ^ 10
theorem nT_len{x:Int}(h:Sn x):(nT x).length≤10:=PySem.W.KT.len_num h.1 h.2
theorem sum_le{m:Nat}:∀ {zs:List Str},(∀ z∈zs,z.length≤m)→(zs.map (·.length)).sum≤m*zs.length
 | [],_=>Nat.zero_le _
 | z::zs,h=>by
  have h1:=h z (.head _)
  have h2:=sum_le fun x hx=>h x (.tail _ hx)
  rw[List.map_cons,List.sum_cons,List.length_cons,Nat.mul_succ]
  omega
theorem join_ok{sep:Str}{zs:List Str}{m n:Nat}(hs:sep.length≤3)(h:∀ z∈zs,z.length≤m)(hn:zs.length≤n)(hb:(m+3)*n≤1000000):JoinOk sep zs=true∧(Txt.join sep zs).length≤(m+3)*n:=by
 have h1:=sum_le h
 have h2:(m+3)*zs.length≤(m+3)*n:=Nat.mul_le_mul_left _ hn
 have h3:(m+3)*zs.length=m*zs.length+3*zs.length:=Nat.add_mul ..
 have h4:zs.length*sep.length≤zs.length*3:=Nat.mul_le_mul_left _ hs
 refine⟨PyProof.Rows.joinOk_of ?_,?_⟩
 ·omega
 ·show (PySem.Builtin.Str.glued sep zs).length≤_
  rw[PySem.StrLaws.glued_eq_join]
  have:=PySem.StrLaws.join_length_le sep zs
  omega
noncomputable def Pc(z:Str):Prop:=∀ c∈z.cps.toList,c<128
theorem Pc.ok{z:Str}(h:Pc z):PyData.strOk z=true:=by
 unfold PyData.strOk
 rw[Array.all_eq_true]
 intro i hi
 have:=h z.cps[i] (Array.getElem_mem_toList hi)
 simp
 omega
theorem Pc.app{y z:Str}(h:Pc y)(g:Pc z):Pc (y++z):=fun c hc=>by
 rw[PySem.W.KT.app_list] at hc
 exact (List.mem_append.mp hc).elim (h c) (g c)
theorem Pc.num{x:Int}(h:0≤x):Pc (nT x):=by
 obtain⟨m,rfl⟩:=Int.eq_ofNat_of_zero_le h
 intro c hc
 rw[show (nT ((m:Nat):Int)).cps.toList=(Nat.toDigits 10 m).map Char.toNat from PySem.W.KIN.signs_num m] at hc
 obtain⟨ch,hch,e⟩:=List.mem_map.mp hc
 have r:=Nat.isDigit_of_mem_toDigits (by decide) (by decide) hch
 have r:=PyProof.Rows.digit_range r
 omega
theorem Pc.join{sep:Str}(hs:Pc sep):∀ {zs:List Str},(∀ z∈zs,Pc z)→Pc (Str.join sep zs)
 | [],_=>fun c hc=>by cases (show c∈([]:List Nat) from hc)
 | [x],h=>h x (.head _)
 | x::y::r,h=>((h x (.head _)).app hs).app (Pc.join hs fun z hz=>h z (.tail _ hz))
theorem tj(sep:Str)(zs:List Str):Txt.join sep zs=Str.join sep zs:=PySem.StrLaws.glued_eq_join sep zs
theorem str_ext{a b:Str}(h:a.cps.toList=b.cps.toList):a=b:=by
 cases a;cases b
 exact congrArg Str.mk (Array.ext' h)
inductive Kd
 | si|sl|su|pl
noncomputable def Cl(a b c d:Addr):Kd→Addr
 | .si=>a
 | .sl=>b
 | .su=>c
 | .pl=>d
structure Ob where
 fds:List (Str×PyData)
 fr:List Str
 tx:Str
inductive StK:Kd→Ob→Prop
 | si {row name:Str} {sign:Int} (h1:Nm row) (h2:Nm name) (h3:Sn sign):StK .si ⟨[("row",.str row),("name",.str name),("sign",.int sign)],[name],row ++ " " ++ name ++ " is " ++ nT sign⟩
 | sl {row name other second:Str} {ys:List Str} (h1:Nm row) (h2:Nm name) (h3:Nm other) (h4:Nm second) (ho:Once [name,second] ys):StK .sl ⟨[("row",.str row),("name",.str name),("other",.str other),("second",.str second)],ys,row ++ " " ++ name ++ " like " ++ other ++ " " ++ second⟩
 | su {l r:List Str} {wd:Str} {ys:List Str} (h1:∀ z∈l,Nm z) (h2:∀ z∈r,Nm z) (l1:l.length≤6) (l2:r.length≤6) (h3:Nm wd) (ho:Once (l++r) ys):StK .su ⟨[("left",dLs l),("right",dLs r),("word",.str wd)],ys,Txt.join " + " l ++ " " ++ wd ++ " " ++ Txt.join " + " r⟩
 | pl {name:Str} {place:Int} (h1:Nm name) (h2:Sn place):StK .pl ⟨[("name",.str name),("place",.int place)],[name],name ++ " = " ++ nT place⟩
theorem StK.no{j:Kd}{θ:Ob}(h:StK j θ):θ.fds.lookup ("free" : Str)=none∧θ.fds.lookup ("text" : Str)=none:=by
 cases h<;>exact⟨rfl,rfl⟩
theorem StK.len{j:Kd}{θ:Ob}(h:StK j θ):θ.fr.length≤12:=by
 cases h with
 | si=>exact (by decide:1≤12)
 | sl _ _ _ _ ho=>exact Nat.le_trans ho.l (by show 2≤12;decide)
 | su _ _ l1 l2 _ ho=>exact Nat.le_trans ho.l (by rw[List.length_append];omega)
 | pl=>exact (by decide:1≤12)
theorem Nm.pc{z:Str}(h:Nm z):Pc z:=h.2
theorem StK.ok{j:Kd}{θ:Ob}(h:StK j θ):(∀ z∈θ.fr,PyData.strOk z=true)∧PyData.strOk θ.tx=true:=by
 have hsp:Pc (" " : Str):=by unfold Pc;decide +kernel
 have hpl:Pc (" + " : Str):=by unfold Pc;decide +kernel
 cases h with
 | si h1 h2 h3=>exact⟨fun z hz=>by rw[List.mem_singleton.mp hz];exact h2.ok,((((h1.pc.app hsp).app h2.pc).app (by unfold Pc;decide +kernel)).app (Pc.num h3.1)).ok⟩
 | sl h1 h2 h3 h4 ho =>
  refine⟨fun z hz=>?_,(((((h1.pc.app hsp).app h2.pc).app (by unfold Pc;decide +kernel)).app h3.pc).app hsp |>.app h4.pc).ok⟩
  rcases List.mem_cons.mp ((ho.m z).mp hz) with e|e
  ·rw[e];exact h2.ok
  ·rw[List.mem_singleton.mp e];exact h4.ok
 | su h1 h2 l1 l2 h3 ho =>
  refine⟨fun z hz=>?_,?_⟩
  ·rcases List.mem_append.mp ((ho.m z).mp hz) with e|e
   ·exact (h1 z e).ok
   ·exact (h2 z e).ok
  ·rw[tj,tj]
   exact (((((Pc.join hpl fun z hz=>(h1 z hz).pc).app hsp).app h3.pc).app hsp).app (Pc.join hpl fun z hz=>(h2 z hz).pc)).ok
 | pl h1 h2=>exact⟨fun z hz=>by rw[List.mem_singleton.mp hz];exact h1.ok,((h1.pc.app (by unfold Pc;decide +kernel)).app (Pc.num h2.1)).ok⟩
section
variable{C_Statement C_SignIs C_SignsLike C_Sums C_PlaceIs:Addr}
noncomputable def Pre_m(K:W.Frag)(C:Addr)(j:Kd)(θ:Ob)(cs:List AV):Prop:=StK j θ∧cs=[.obj (InsOf K C θ.fds)]
noncomputable abbrev spFr(K:W.Frag)(a b c d:Addr)(j:Kd):L2.Sp:=spF K (Pre_m K (Cl a b c d j) j) (fun θ _ c=>c=oS θ.fr)
noncomputable abbrev spTx(K:W.Frag)(a b c d:Addr)(j:Kd):L2.Sp:=spF K (Pre_m K (Cl a b c d j) j) (fun θ _ c=>c=.d (.str θ.tx))
theorem ok_free(T:Txt K mg)(Z:Cs K mg C_Statement C_SignIs C_SignsLike C_Sums C_PlaceIs)(j:Kd):Cls K (Cl C_SignIs C_SignsLike C_Sums C_PlaceIs j)∧∃ f fd,Meth K (Cl C_SignIs C_SignsLike C_Sums C_PlaceIs j) "free" f∧FnOk P w K mg base (CXE P w) 2 f fd ["self"] (spFr K C_SignIs C_SignsLike C_Sums C_PlaceIs j)∧Binds K fd ["self"] []:=by
 have c_rising:Cal P w K mg base (CXE P w) 1 "rising" ["names"] [] (spR K Pre_ri Post_ri NP):=ok_rising T
 cases j with
 | si =>
  obtain⟨f,fd,M,F,B⟩:=Z.x_SignIs_free
  refine⟨Z.ic_SignIs.cl,f,fd,M,valM (k:=1) F sc_SignIs_free (fun θ cs h=>by rw[h.2];rfl) (fun θ cdv A outer s H E hr=>?_),B⟩
  refine⟨_,(pss_one (ps_ret (pe_lst (pa_cons (pe_fldK (K:=K) rfl (pv 0)) pa_nil)))),?_⟩
  rintro cs ⟨h,rfl⟩
  cases h with
  | @si row name sign h1 h2 h3 =>
  show Sv K _ _ _ [some (.obj (InsOf K C_SignIs [("row",.str row),("name",.str name),("sign",.int sign)]))] _
  walk_at "vi"
  refine ev_lst ?_
  walk_at "vi"
  refine ev_fld (i:=0) rfl Z.ic_SignIs.cl Z.na_SignIs_name rfl ?_
  walk_at "vi"
  exact⟨[.d (.str name)],.cons rfl .nil,by show 1≤1000;decide,_,res_o rfl,rfl⟩
 | sl =>
  obtain⟨f,fd,M,F,B⟩:=Z.x_SignsLike_free
  refine⟨Z.ic_SignsLike.cl,f,fd,M,valM (k:=1) F sc_SignsLike_free (fun θ cs h=>by rw[h.2];rfl) (fun θ cdv A outer s H E hr=>?_),B⟩
  refine⟨_,(pss_one (ps_ret (pe_callTy (call_listK (K:=K) rfl) rfl T.n_list PyProof.Rows.boot_list (pa_cons (pe_cal (c_rising.mono (by decide)) hr rfl passE (pa_cons (pe_lst (pa_cons (pe_fldK (K:=K) rfl (pv 0)) (pa_cons (pe_fldK (K:=K) rfl (pv 0)) pa_nil))) pa_nil)) pa_nil)))),?_⟩
  rintro cs ⟨h,rfl⟩
  cases h with
  | @sl row name other second ys h1 h2 h3 h4 ho =>
  show Sv K _ _ _ [some (.obj (InsOf K C_SignsLike [("row",.str row),("name",.str name),("other",.str other),("second",.str second)]))] _
  walk_at "vi"
  refine ev_lst ?_
  walk_at "vi"
  refine ev_fld (i:=0) rfl Z.ic_SignsLike.cl Z.na_SignsLike_name rfl ?_
  walk_at "vi"
  refine ev_fld (i:=0) rfl Z.ic_SignsLike.cl Z.na_SignsLike_second rfl ?_
  walk_at "vi"
  refine⟨[.d (.str name),.d (.str second)],.cons rfl (.cons rfl .nil),by show 2≤1000;decide,?_⟩
  walk_at "vi"
  refine use_ri (ns:=[name,second]) NR.av rfl (by show 2≤60;decide) fun zs hz=>?_
  rw[hz.one ho]
  walk_at "vi"
  refine bi_listT (ds:=ys.map .str) rfl Kp.d ?_
  exact⟨_,res_o rfl,by rw[List.map_map];rfl⟩
 | su =>
  obtain⟨f,fd,M,F,B⟩:=Z.x_Sums_free
  refine⟨Z.ic_Sums.cl,f,fd,M,valM (k:=1) F sc_Sums_free (fun θ cs h=>by rw[h.2];rfl) (fun θ cdv A outer s H E hr=>?_),B⟩
  refine⟨_,(pss_one (ps_ret (pe_callTy (call_listK (K:=K) rfl) rfl T.n_list PyProof.Rows.boot_list (pa_cons (pe_cal (c_rising.mono (by decide)) hr rfl passE (pa_cons (pe_op (op_plus (K:=K) rfl) (pe_fldK (K:=K) rfl (pv 0)) (pe_fldK (K:=K) rfl (pv 0))) pa_nil)) pa_nil)))),?_⟩
  rintro cs ⟨h,rfl⟩
  cases h with
  | @su l r wd ys h1 h2 l1 l2 h3 ho =>
  show Sv K _ _ _ [some (.obj (InsOf K C_Sums [("left",dLs l),("right",dLs r),("word",.str wd)]))] _
  walk_at "vi"
  refine ev_fld (i:=0) rfl Z.ic_Sums.cl Z.na_Sums_left rfl ?_
  walk_at "vi"
  refine ev_fld (i:=0) rfl Z.ic_Sums.cl Z.na_Sums_right rfl ?_
  walk_at "vi"
  refine cat_L (ds:=l.map .str) (es:=r.map .str) rfl rfl Kp.d Kp.d (by rw[List.length_map,List.length_map];omega) ?_
  walk_at "vi"
  refine use_ri (ns:=l++r) NR.av (by rw[TV.data,AV.data,datas_d];show _=PyData.list ((l++r).map .str);rw[List.map_append]) (by rw[List.length_append];omega) fun zs hz=>?_
  rw[hz.one ho]
  walk_at "vi"
  refine bi_listT (ds:=ys.map .str) rfl Kp.d ?_
  exact⟨_,res_o rfl,by rw[List.map_map];rfl⟩
 | pl =>
  obtain⟨f,fd,M,F,B⟩:=Z.x_PlaceIs_free
  refine⟨Z.ic_PlaceIs.cl,f,fd,M,valM (k:=1) F sc_PlaceIs_free (fun θ cs h=>by rw[h.2];rfl) (fun θ cdv A outer s H E hr=>?_),B⟩
  refine⟨_,(pss_one (ps_ret (pe_lst (pa_cons (pe_fldK (K:=K) rfl (pv 0)) pa_nil)))),?_⟩
  rintro cs ⟨h,rfl⟩
  cases h with
  | @pl name place h1 h2 =>
  show Sv K _ _ _ [some (.obj (InsOf K C_PlaceIs [("name",.str name),("place",.int place)]))] _
  walk_at "vi"
  refine ev_lst ?_
  walk_at "vi"
  refine ev_fld (i:=0) rfl Z.ic_PlaceIs.cl Z.na_PlaceIs_name rfl ?_
  walk_at "vi"
  exact⟨[.d (.str name)],.cons rfl .nil,by show 1≤1000;decide,_,res_o rfl,rfl⟩
end
theorem spc1:(" " : Str).length≤3:=by decide +kernel
theorem spc3:(" + " : Str).length≤3:=by decide +kernel
theorem tx_si(row name:Str)(s:Str):Txt.join " " [row,name, "is",s]=row ++ " " ++ name ++ " is " ++ s:=by
 rw[tj]
 refine str_ext ?_
 show (row ++ " " ++ (name ++ " " ++ (("is" : Str) ++ " " ++ s))).cps.toList=_
 rw[show (" is " : Str) = " " ++ ("is" ++ " ") by decide +kernel]
 simp only[PySem.W.KT.app_list,List.append_assoc]
theorem tx_sl(row name other second:Str):Txt.join " " [row,name, "like",other,second]=row ++ " " ++ name ++ " like " ++ other ++ " " ++ second:=by
 rw[tj]
 refine str_ext ?_
 show (row ++ " " ++ (name ++ " " ++ (("like" : Str) ++ " " ++ (other ++ " " ++ second)))).cps.toList=_
 rw[show (" like " : Str) = " " ++ ("like" ++ " ") by decide +kernel]
 simp only[PySem.W.KT.app_list,List.append_assoc]
theorem tx_su(a b c:Str):Txt.join " " [a,b,c]=a ++ " " ++ b ++ " " ++ c:=by
 rw[tj]
 refine str_ext ?_
 show (a ++ " " ++ (b ++ " " ++ c)).cps.toList=_
 simp only[PySem.W.KT.app_list,List.append_assoc]
theorem tx_pl(a c:Str):Txt.join " " [a, "=",c]=a ++ " = " ++ c:=by
 rw[tj]
 refine str_ext ?_
 show (a ++ " " ++ (("=" : Str) ++ " " ++ c)).cps.toList=_
 rw[show (" = " : Str) = " " ++ ("=" ++ " ") by decide +kernel]
 simp only[PySem.W.KT.app_list,List.append_assoc]
section
variable{C_Statement C_SignIs C_SignsLike C_Sums C_PlaceIs:Addr}
theorem ok_text(T:Txt K mg)(Z:Cs K mg C_Statement C_SignIs C_SignsLike C_Sums C_PlaceIs)(j:Kd):Cls K (Cl C_SignIs C_SignsLike C_Sums C_PlaceIs j)∧∃ f fd,Meth K (Cl C_SignIs C_SignsLike C_Sums C_PlaceIs j) "text" f∧FnOk P w K mg base (CXE P w) 1 f fd ["self"] (spTx K C_SignIs C_SignsLike C_Sums C_PlaceIs j)∧Binds K fd ["self"] []:=by
 cases j with
 | si =>
  obtain⟨f,fd,M,F,B⟩:=Z.x_SignIs_text
  refine⟨Z.ic_SignIs.cl,f,fd,M,valM (k:=0) F sc_SignIs_text (fun θ cs h=>by rw[h.2];rfl) (fun θ cdv A outer s H E hr=>?_),B⟩
  refine⟨_,(pss_one (ps_ret (pe_bmK (K:=K) rfl PySem.F.plainAttrs_str PySem.F.slot_str_join PySem.F.type_str_join (mt_join (K:=K) rfl) pe_str (pa_cons (pe_lst (pa_cons (pe_fldK (K:=K) rfl (pv 0)) (pa_cons (pe_fldK (K:=K) rfl (pv 0)) (pa_cons pe_str (pa_cons (pe_callTy call_strI rfl T.n_str PyProof.Rows.boot_str (pa_cons (pe_fldK (K:=K) rfl (pv 0)) pa_nil)) pa_nil))))) pa_nil)))),?_⟩
  rintro cs ⟨h,rfl⟩
  cases h with
  | @si row name sign h1 h2 h3 =>
  have g1:=h1.1
  have g2:=h2.1
  have g3:=nT_len h3
  show Sv K _ _ _ [some (.obj (InsOf K C_SignIs [("row",.str row),("name",.str name),("sign",.int sign)]))] _
  walk_at "vi"
  refine ev_join ?_
  walk_at "vi"
  refine ev_lst ?_
  walk_at "vi"
  refine ev_fld (i:=0) rfl Z.ic_SignIs.cl Z.na_SignIs_row rfl ?_
  walk_at "vi"
  refine ev_fld (i:=0) rfl Z.ic_SignIs.cl Z.na_SignIs_name rfl ?_
  walk_at "vi"
  refine ev_fld (i:=0) rfl Z.ic_SignIs.cl Z.na_SignIs_sign rfl ?_
  walk_at "vi"
  refine bi_strI rfl ⟨by have:=h3.1;omega,by have:=h3.2;omega⟩ ?_
  walk_at "vi"
  refine⟨[.d (.str row),.d (.str name),.d (.str "is"),.d (.str (nT sign))],.cons rfl (.cons rfl (.cons rfl (.cons rfl .nil))),by show 4≤1000;decide,?_⟩
  refine⟨[row,name, "is",nT sign],rfl,NR.av,(join_ok (m:=10) (n:=4) spc1 (fun z hz=>?_) (Nat.le_refl _) (by decide)).1,?_⟩
  ·simp only[List.mem_cons,List.not_mem_nil,or_false] at hz
   rcases hz with rfl|rfl|rfl|rfl
   ·omega
   ·omega
   ·decide +kernel
   ·exact g3
  rw[tx_si]
  exact⟨_,res_d rfl,rfl⟩
 | sl =>
  obtain⟨f,fd,M,F,B⟩:=Z.x_SignsLike_text
  refine⟨Z.ic_SignsLike.cl,f,fd,M,valM (k:=0) F sc_SignsLike_text (fun θ cs h=>by rw[h.2];rfl) (fun θ cdv A outer s H E hr=>?_),B⟩
  refine⟨_,(pss_one (ps_ret (pe_bmK (K:=K) rfl PySem.F.plainAttrs_str PySem.F.slot_str_join PySem.F.type_str_join (mt_join (K:=K) rfl) pe_str (pa_cons (pe_lst (pa_cons (pe_fldK (K:=K) rfl (pv 0)) (pa_cons (pe_fldK (K:=K) rfl (pv 0)) (pa_cons pe_str (pa_cons (pe_fldK (K:=K) rfl (pv 0)) (pa_cons (pe_fldK (K:=K) rfl (pv 0)) pa_nil)))))) pa_nil)))),?_⟩
  rintro cs ⟨h,rfl⟩
  cases h with
  | @sl row name other second ys h1 h2 h3 h4 ho =>
  have g1:=h1.1
  have g2:=h2.1
  have g3:=h3.1
  have g4:=h4.1
  show Sv K _ _ _ [some (.obj (InsOf K C_SignsLike [("row",.str row),("name",.str name),("other",.str other),("second",.str second)]))] _
  walk_at "vi"
  refine ev_join ?_
  walk_at "vi"
  refine ev_lst ?_
  walk_at "vi"
  refine ev_fld (i:=0) rfl Z.ic_SignsLike.cl Z.na_SignsLike_row rfl ?_
  walk_at "vi"
  refine ev_fld (i:=0) rfl Z.ic_SignsLike.cl Z.na_SignsLike_name rfl ?_
  walk_at "vi"
  refine ev_fld (i:=0) rfl Z.ic_SignsLike.cl Z.na_SignsLike_other rfl ?_
  walk_at "vi"
  refine ev_fld (i:=0) rfl Z.ic_SignsLike.cl Z.na_SignsLike_second rfl ?_
  walk_at "vi"
  refine⟨[.d (.str row),.d (.str name),.d (.str "like"),.d (.str other),.d (.str second)],.cons rfl (.cons rfl (.cons rfl (.cons rfl (.cons rfl .nil)))),by show 5≤1000;decide,?_⟩
  refine⟨[row,name, "like",other,second],rfl,NR.av,(join_ok (m:=10) (n:=5) spc1 (fun z hz=>?_) (Nat.le_refl _) (by decide)).1,?_⟩
  ·simp only[List.mem_cons,List.not_mem_nil,or_false] at hz
   rcases hz with rfl|rfl|rfl|rfl|rfl
   ·omega
   ·omega
   ·decide +kernel
   ·omega
   ·omega
  rw[tx_sl]
  exact⟨_,res_d rfl,rfl⟩
 | su =>
  obtain⟨f,fd,M,F,B⟩:=Z.x_Sums_text
  refine⟨Z.ic_Sums.cl,f,fd,M,valM (k:=0) F sc_Sums_text (fun θ cs h=>by rw[h.2];rfl) (fun θ cdv A outer s H E hr=>?_),B⟩
  refine⟨_,(pss_one (ps_ret (pe_bmK (K:=K) rfl PySem.F.plainAttrs_str PySem.F.slot_str_join PySem.F.type_str_join (mt_join (K:=K) rfl) pe_str (pa_cons (pe_lst (pa_cons (pe_bmK (K:=K) rfl PySem.F.plainAttrs_str PySem.F.slot_str_join PySem.F.type_str_join (mt_join (K:=K) rfl) pe_str (pa_cons (pe_fldK (K:=K) rfl (pv 0)) pa_nil)) (pa_cons (pe_fldK (K:=K) rfl (pv 0)) (pa_cons (pe_bmK (K:=K) rfl PySem.F.plainAttrs_str PySem.F.slot_str_join PySem.F.type_str_join (mt_join (K:=K) rfl) pe_str (pa_cons (pe_fldK (K:=K) rfl (pv 0)) pa_nil)) pa_nil)))) pa_nil)))),?_⟩
  rintro cs ⟨h,rfl⟩
  cases h with
  | @su l r wd ys h1 h2 l1 l2 h3 ho =>
  have g3:=h3.1
  obtain⟨a1,a2⟩:=join_ok (m:=6) (n:=6) spc3 (fun z hz=>(h1 z hz).1) l1 (by decide)
  obtain⟨b1,b2⟩:=join_ok (m:=6) (n:=6) spc3 (fun z hz=>(h2 z hz).1) l2 (by decide)
  show Sv K _ _ _ [some (.obj (InsOf K C_Sums [("left",dLs l),("right",dLs r),("word",.str wd)]))] _
  walk_at "vi"
  refine ev_join ?_
  walk_at "vi"
  refine ev_lst ?_
  walk_at "vi"
  refine ev_join ?_
  walk_at "vi"
  refine ev_fld (i:=0) rfl Z.ic_Sums.cl Z.na_Sums_left rfl ?_
  refine⟨l,rfl,NR.av,a1,?_⟩
  walk_at "vi"
  refine ev_fld (i:=0) rfl Z.ic_Sums.cl Z.na_Sums_word rfl ?_
  walk_at "vi"
  refine ev_join ?_
  walk_at "vi"
  refine ev_fld (i:=0) rfl Z.ic_Sums.cl Z.na_Sums_right rfl ?_
  refine⟨r,rfl,NR.av,b1,?_⟩
  walk_at "vi"
  refine⟨[.d (.str (Txt.join " + " l)),.d (.str wd),.d (.str (Txt.join " + " r))],.cons rfl (.cons rfl (.cons rfl .nil)),by show 3≤1000;decide,?_⟩
  refine⟨[Txt.join " + " l,wd,Txt.join " + " r],rfl,NR.av,(join_ok (m:=100) (n:=3) spc1 (fun z hz=>?_) (Nat.le_refl _) (by decide)).1,?_⟩
  ·simp only[List.mem_cons,List.not_mem_nil,or_false] at hz
   rcases hz with rfl|rfl|rfl
   ·omega
   ·omega
   ·omega
  rw[tx_su]
  exact⟨_,res_d rfl,rfl⟩
 | pl =>
  obtain⟨f,fd,M,F,B⟩:=Z.x_PlaceIs_text
  refine⟨Z.ic_PlaceIs.cl,f,fd,M,valM (k:=0) F sc_PlaceIs_text (fun θ cs h=>by rw[h.2];rfl) (fun θ cdv A outer s H E hr=>?_),B⟩
  refine⟨_,(pss_one (ps_ret (pe_bmK (K:=K) rfl PySem.F.plainAttrs_str PySem.F.slot_str_join PySem.F.type_str_join (mt_join (K:=K) rfl) pe_str (pa_cons (pe_lst (pa_cons (pe_fldK (K:=K) rfl (pv 0)) (pa_cons pe_str (pa_cons (pe_callTy call_strI rfl T.n_str PyProof.Rows.boot_str (pa_cons (pe_fldK (K:=K) rfl (pv 0)) pa_nil)) pa_nil)))) pa_nil)))),?_⟩
  rintro cs ⟨h,rfl⟩
  cases h with
  | @pl name place h1 h2 =>
  have g1:=h1.1
  have g3:=nT_len h2
  show Sv K _ _ _ [some (.obj (InsOf K C_PlaceIs [("name",.str name),("place",.int place)]))] _
  walk_at "vi"
  refine ev_join ?_
  walk_at "vi"
  refine ev_lst ?_
  walk_at "vi"
  refine ev_fld (i:=0) rfl Z.ic_PlaceIs.cl Z.na_PlaceIs_name rfl ?_
  walk_at "vi"
  refine ev_fld (i:=0) rfl Z.ic_PlaceIs.cl Z.na_PlaceIs_place rfl ?_
  walk_at "vi"
  refine bi_strI rfl ⟨by have:=h2.1;omega,by have:=h2.2;omega⟩ ?_
  walk_at "vi"
  refine⟨[.d (.str name),.d (.str "="),.d (.str (nT place))],.cons rfl (.cons rfl (.cons rfl .nil)),by show 3≤1000;decide,?_⟩
  refine⟨[name, "=",nT place],rfl,NR.av,(join_ok (m:=10) (n:=3) spc1 (fun z hz=>?_) (Nat.le_refl _) (by decide)).1,?_⟩
  ·simp only[List.mem_cons,List.not_mem_nil,or_false] at hz
   rcases hz with rfl|rfl|rfl
   ·omega
   ·decide +kernel
   ·exact g3
  rw[tx_pl]
  exact⟨_,res_d rfl,rfl⟩
end
section
variable{C_Statement C_SignIs C_SignsLike C_Sums C_PlaceIs:Addr}
theorem is_stmt(Z:Cs K mg C_Statement C_SignIs C_SignsLike C_Sums C_PlaceIs)(j:Kd):InsCls K (Cl C_SignIs C_SignsLike C_Sums C_PlaceIs j)∧PySem.W.kitOne K (.ref (Cl C_SignIs C_SignsLike C_Sums C_PlaceIs j)) (.ref C_Statement)=some true:=by
 cases j with
 | si=>exact⟨Z.ic_SignIs,Z.is_SignIs⟩
 | sl=>exact⟨Z.ic_SignsLike,Z.is_SignsLike⟩
 | su=>exact⟨Z.ic_Sums,Z.is_Sums⟩
 | pl=>exact⟨Z.ic_PlaceIs,Z.is_PlaceIs⟩
noncomputable def Pre_td(K:W.Frag)(a b c d:Addr)(θ:Kd×Ob)(cs:List AV):Prop:=StK θ.1 θ.2∧cs=[.obj (InsOf K (Cl a b c d θ.1) θ.2.fds),.d (dLs θ.2.fr),.d (.str θ.2.tx)]
theorem ok_told(T:Txt K mg)(Z:Cs K mg C_Statement C_SignIs C_SignsLike C_Sums C_PlaceIs):Cal P w K mg base (CXE P w) 3 "_law_told" ["_law_one", "_law_free", "_law_text"] [] (spF K (Pre_td K C_SignIs C_SignsLike C_Sums C_PlaceIs) (fun _ _ c=>c=.d (.bool true))):=by
 have m_free:=fun j=>ok_free (P:=P) (w:=w) (base:=base) T Z j
 have m_text:=fun j=>ok_text (P:=P) (w:=w) (base:=base) T Z j
 refine valRF T.x_law_told sc_law_told (fun θ cs h=>by rw[h.2];rfl) (fun θ f cdv A outer s H E hr=>?_) [] (by simp)
 refine⟨_,(pss_cons (ps_for PassesOwn.never rfl (pi_range1 rfl T.n_range (pa_cons pe_int pa_nil)) (pg_name (i:=3) sc_law_told.nd rfl (Or.inl rfl))
    (pss_cons (ps_set (i:=4) sc_law_told.nd rfl (Or.inl rfl) (pe_methA (pv 0) m_free (hr.mono (by decide)) passE))
    (pss_cons (ps_set (i:=5) sc_law_told.nd rfl (Or.inl rfl) (pe_methA (pv 0) m_text (hr.mono (by decide)) passE))
    (pss_cons (ps_if (PW.pt (pw_or (pt_not (pt_val (pe_callB (call_isi2K (K:=K) rfl) rfl T.n_isinstance PyProof.Rows.boot_isinstance (pa_cons (pv 0) (pa_cons (pe_glob (v:=.ref C_Statement) rfl Z.c_Statement rfl) pa_nil))))) (pw_or (pt_not (pt_val (pe_callB (call_isi2K (K:=K) rfl) rfl T.n_isinstance PyProof.Rows.boot_isinstance (pa_cons (pv 4) (pa_cons (pe_bltn (v:=.ty "list") rfl T.n_list PyProof.Rows.boot_list rfl) pa_nil))))) (pw_or1 (pt_cmpR (op_neq (K:=K) rfl hr.units) (pv 4) (pv 1) (nomark _))))))
     (pss_one (ps_ret pe_bl))
     pss_nil)
    (pss_cons (ps_if (PW.pt (pw_or (pt_not (pt_val (pe_callB (call_isi2K (K:=K) rfl) rfl T.n_isinstance PyProof.Rows.boot_isinstance (pa_cons (pv 5) (pa_cons (pe_bltn (v:=.ty "str") rfl T.n_str PyProof.Rows.boot_str rfl) pa_nil))))) (pw_or1 (pt_cmpR (op_neq (K:=K) rfl hr.units) (pv 5) (pv 2) (nomark _)))))
     (pss_one (ps_ret pe_bl))
     pss_nil)
    (pss_one (ps_expr (pe_bmK (K:=K) rfl PySem.F.plainAttrs_list PySem.F.slot_list_append PySem.F.type_list_append mt_append (pv 4) (pa_cons pe_str pa_nil)))))))))
   (pss_one (ps_ret pe_bl))),?_⟩
 obtain⟨j,θ⟩:=θ
 rintro cs ⟨h,rfl⟩
 have h:StK j θ:=h
 obtain⟨n1,n2⟩:=h.no
 have hfl:=h.len
 obtain⟨o1,o2⟩:=h.ok
 obtain⟨xs,hxs⟩:=okS o1
 obtain⟨ic,is⟩:=is_stmt Z j
 show Sv K _ _ _ [some (.obj (InsOf K (Cl C_SignIs C_SignsLike C_Sums C_PlaceIs j) θ.fds)),some (.d (dLs θ.fr)),some (.d (.str θ.tx)),none,none,none] _
 walk_at "vi"
 refine for_R ?_
 walk_at "vi"
 refine⟨2,rfl,⟨by decide,by decide⟩,fun i ρ=>∃ o1 o2 o3,ρ=[some (.obj (InsOf K (Cl C_SignIs C_SignsLike C_Sums C_PlaceIs j) θ.fds)),some (.d (dLs θ.fr)),some (.d (.str θ.tx)),o1,o2,o3],⟨none,none,none,rfl⟩,?_,?_⟩
 ·rintro i ρ hi ⟨o1',o2',o3',rfl⟩
  walk_at "vi"
  refine ev_methA j rfl n1 (ev_rF0 ?_)
  walk_at "vi"
  refine⟨θ,[.obj _],.cons .o .nil,⟨h,rfl⟩,fun c e=>?_,fun _ z=>z.elim⟩
  subst e
  refine⟨_,Got.own (oS_clean _),?_⟩
  walk_at "vi"
  refine ev_methA j rfl n2 (ev_rF0 ?_)
  walk_at "vi"
  refine⟨θ,[.obj _],.cons .o .nil,⟨h,rfl⟩,fun c e=>?_,fun _ z=>z.elim⟩
  subst e
  refine⟨_,Got.own rfl,?_⟩
  walk_at "vi"
  refine s_if ?_
  walk_at "vi"
  refine ev_ref ?_
  walk_at "vi"
  refine bi_isiO ic rfl is ?_
  walk_at "vi"
  refine isi_list (ds:=θ.fr.map .str) (by rw[TV.data,datas_mapd]) ?_
  walk_at "vi"
  refine ne_d (f:=fun xs:List OkS=>PyData.list (xs.map dS)) (c:=xs) (d:=xs) Enc.str.list (by rw[TV.data,datas_mapd,hxs,List.map_map];rfl) (by show dLs θ.fr=_;rw[hxs];show PyData.list ((xs.map Subtype.val).map .str)=_;rw[List.map_map];rfl) ?_
  rw[decide_eq_true rfl]
  walk_at "vi"
  refine s_if ?_
  walk_at "vi"
  refine isi_str rfl ?_
  walk_at "vi"
  refine ne_d (f:=dS) (c:=⟨θ.tx,o2⟩) (d:=⟨θ.tx,o2⟩) Enc.str rfl rfl ?_
  rw[decide_eq_true rfl]
  walk_at "vi"
  refine v_ap ?hz ?_
  case hz=>rw[List.length_map];omega
  exact⟨_,_,_,rfl⟩
 rintro ρ ⟨o1',o2',o3',rfl⟩
 walk_at "vi"
 exact⟨_,res_d rfl,rfl⟩
end
section
variable{C_Statement C_SignIs C_SignsLike C_Sums C_PlaceIs:Addr}
theorem ini_SignIs(T:Txt K mg)(Z:Cs K mg C_Statement C_SignIs C_SignsLike C_Sums C_PlaceIs):∃ f fd,Mk K C_SignIs f∧FnOk P w K mg base (CXE P w) 1 f fd ["self", "row", "name", "sign"] (spIns C_SignIs ["row", "name", "sign"])∧Binds K fd ["self", "row", "name", "sign"] []:=by
 obtain⟨f,fd,M,F,b⟩:=Z.x_SignIs
 refine⟨f,fd,M,mk3 F sc_SignIs_init Z.ic_SignIs.cl Z.na_SignIs_row Z.na_SignIs_name Z.na_SignIs_sign (fun _ _ _=>rfl) (fun cdv A outer s H E=>?_),b⟩
 exact (pss_cons (ps_fld (pv 0) (pv 1) rfl)
   (pss_cons (ps_fld (pv 0) (pv 2) rfl)
   (pss_one (ps_fld (pv 0) (pv 3) rfl))))
theorem ini_SignsLike(T:Txt K mg)(Z:Cs K mg C_Statement C_SignIs C_SignsLike C_Sums C_PlaceIs):∃ f fd,Mk K C_SignsLike f∧FnOk P w K mg base (CXE P w) 1 f fd ["self", "row", "name", "other", "second"] (spIns C_SignsLike ["row", "name", "other", "second"])∧Binds K fd ["self", "row", "name", "other", "second"] []:=by
 obtain⟨f,fd,M,F,b⟩:=Z.x_SignsLike
 refine⟨f,fd,M,mk4 F sc_SignsLike_init Z.ic_SignsLike.cl Z.na_SignsLike_row Z.na_SignsLike_name Z.na_SignsLike_other Z.na_SignsLike_second (fun _ _ _ _=>rfl) (fun cdv A outer s H E=>?_),b⟩
 exact (pss_cons (ps_fld (pv 0) (pv 1) rfl)
   (pss_cons (ps_fld (pv 0) (pv 2) rfl)
   (pss_cons (ps_fld (pv 0) (pv 3) rfl)
   (pss_one (ps_fld (pv 0) (pv 4) rfl)))))
theorem ini_Sums(T:Txt K mg)(Z:Cs K mg C_Statement C_SignIs C_SignsLike C_Sums C_PlaceIs):∃ f fd,Mk K C_Sums f∧FnOk P w K mg base (CXE P w) 1 f fd ["self", "left", "right", "word"] (spInsL K C_Sums "left" "right" "word")∧Binds K fd ["self", "left", "right", "word"] []:=by
 obtain⟨f,fd,M,F,b⟩:=Z.x_Sums
 refine⟨f,fd,M,mkL F sc_Sums_init Z.ic_Sums.cl Z.na_Sums_left Z.na_Sums_right Z.na_Sums_word (fun _ _ _=>rfl) (fun cdv A outer s H E=>?_),b⟩
 exact (pss_cons (ps_fld (pv 0) (pe_callTy (call_listK (K:=K) rfl) rfl T.n_list PyProof.Rows.boot_list (pa_cons (pv 1) pa_nil)) rfl)
   (pss_cons (ps_fld (pv 0) (pe_callTy (call_listK (K:=K) rfl) rfl T.n_list PyProof.Rows.boot_list (pa_cons (pv 2) pa_nil)) rfl)
   (pss_one (ps_fld (pv 0) (pv 3) rfl))))
theorem ini_PlaceIs(T:Txt K mg)(Z:Cs K mg C_Statement C_SignIs C_SignsLike C_Sums C_PlaceIs):∃ f fd,Mk K C_PlaceIs f∧FnOk P w K mg base (CXE P w) 1 f fd ["self", "name", "place"] (spIns C_PlaceIs ["name", "place"])∧Binds K fd ["self", "name", "place"] []:=by
 obtain⟨f,fd,M,F,b⟩:=Z.x_PlaceIs
 refine⟨f,fd,M,mk2 F sc_PlaceIs_init Z.ic_PlaceIs.cl Z.na_PlaceIs_name Z.na_PlaceIs_place (fun _ _=>rfl) (fun cdv A outer s H E=>?_),b⟩
 exact (pss_cons (ps_fld (pv 0) (pv 1) rfl)
   (pss_one (ps_fld (pv 0) (pv 2) rfl)))
end
noncomputable def fA:OkS ⊕ (Int ⊕ List OkS)→PyData
 | .inl z=>dS z
 | .inr (.inl k)=>.int k
 | .inr (.inr xs)=>.list (xs.map dS)
theorem encA:Enc fA 1:=by
 have hL:Enc (fun xs:List OkS=>PyData.list (xs.map dS)) 1:=Enc.str.list
 refine⟨fun a b=>?_,fun a=>?_,fun a=>?_⟩
 ·rcases a with a|a|a<;>rcases b with b|b|b
  ·exact (Enc.str.eqv a b).trans (by simp)
  ·show PyData.eqv (.str a.1) (.int b)=true↔_;simp[PyData.eqv]
  ·show PyData.eqv (.str a.1) (.list _)=true↔_;simp[PyData.eqv]
  ·show PyData.eqv (.int a) (.str b.1)=true↔_;simp[PyData.eqv]
  ·exact (Enc.int.eqv a b).trans (by simp)
  ·show PyData.eqv (.int a) (.list _)=true↔_;simp[PyData.eqv]
  ·show PyData.eqv (.list _) (.str b.1)=true↔_;simp[PyData.eqv]
  ·show PyData.eqv (.list _) (.int b)=true↔_;simp[PyData.eqv]
  ·exact (hL.eqv a b).trans (by simp)
 ·rcases a with a|a|a
  ·exact Enc.str.lay a
  ·exact Enc.int.lay a
  ·exact hL.lay a
 ·rcases a with a|a|a
  ·exact Nat.le_trans (Enc.str.dep a) (by decide)
  ·exact Nat.le_trans (Enc.int.dep a) (by decide)
  ·exact hL.dep a
theorem use_td{Q:TV→Prop}{X:Exc→Prop}{a b c d:Addr}{u v:TV}(j:Kd)(θ:Ob)(h:StK j θ)(nu:NR u)(hu:u.data=dLs θ.fr)(nv:NR v)(hv:v.data=.str θ.tx)(q:Q (.av (.d (.bool true)))) :
  ∃ θ',ClR (Pre_td K a b c d θ') (fun _ c=>c=.d (.bool true)) NP [] Q X [.av (.obj (InsOf K (Cl a b c d j) θ.fds)),u,v] :=
 ⟨(j,θ),[.obj _,.d (dLs θ.fr),.d (.str θ.tx)],.cons .o (.cons (.d nu hu) (.cons (.d nv hv) .nil)),⟨h,rfl⟩,fun c e=>e▸⟨_,Got.own rfl,q⟩,fun _ z=>z.elim⟩
noncomputable def cutA{α:Type}(xs:List α)(lo hi:Option Int):List α:=(xs.drop (HT.sIx xs.length 0 lo)).take (HT.sIx xs.length xs.length hi-HT.sIx xs.length 0 lo)
theorem cut_map{α:Type}(f:α→PyData)(xs:List α)(lo hi:Option Int):cutD (xs.map f) lo hi=(cutA xs lo hi).map f:=by
 unfold cutD cutA
 rw[List.length_map,List.map_take,List.map_drop]
theorem cut_len{α:Type}(xs:List α)(lo hi:Option Int):(cutA xs lo hi).length≤xs.length:=by
 unfold cutA
 rw[List.length_take,List.length_drop]
 omega
theorem cut_mem{α:Type}{xs:List α}{lo hi:Option Int}{x:α}(h:x∈cutA xs lo hi):x∈xs:=List.mem_of_mem_drop (List.mem_of_mem_take h)
theorem Nm.one{c:Nat}(h:c<128):Nm ⟨#[c]⟩:=⟨by show 1≤6;decide,fun x hx=>by rw[List.mem_singleton.mp (show x∈[c] from hx)];exact h⟩
theorem six{zs:List Str}(h:zs.length=6):∃ a b c d e f,zs=[a,b,c,d,e,f]:=by
 match zs,h with
 | [a,b,c,d,e,f],_=>exact⟨a,b,c,d,e,f,rfl⟩
theorem ok_law(T:Txt K mg){f:Addr}{fd:FuncData}(F:FunD K "law" "law" s_law .none f fd):FnOk P w K mg base (CXE P w) 5 f fd ["_law_script"] (sp_lawT K):=by
 obtain⟨C_Statement,C_SignIs,C_SignsLike,C_Sums,C_PlaceIs,Z⟩:=T.cs
 obtain⟨_,_,M_SignIs,i_SignIs,b_SignIs⟩:=ini_SignIs (P:=P) (w:=w) (base:=base) T Z
 obtain⟨_,_,M_SignsLike,i_SignsLike,b_SignsLike⟩:=ini_SignsLike (P:=P) (w:=w) (base:=base) T Z
 obtain⟨_,_,M_Sums,i_Sums,b_Sums⟩:=ini_Sums (P:=P) (w:=w) (base:=base) T Z
 obtain⟨_,_,M_PlaceIs,i_PlaceIs,b_PlaceIs⟩:=ini_PlaceIs (P:=P) (w:=w) (base:=base) T Z
 have c_law_cell:Cal P w K mg base (CXE P w) 1 "_law_cell" ["_law_script", "_law_k"] [] (spR K Pre_cell (fun _=>PostN) NP):=ok_cell T
 have c_law_name:Cal P w K mg base (CXE P w) 1 "_law_name" ["_law_cell_here"] [] (spR K Pre_nm (fun _=>PostS) NP):=ok_name T
 have c_law_once:Cal P w K mg base (CXE P w) 1 "_law_once" ["_law_names"] [] (spR K Pre_on Post_on NP):=ok_once T
 have c_law_whole:Cal P w K mg base (CXE P w) 1 "_law_whole" ["_law_found"] [] (spV K S_whole NX):=ok_whole T
 have c_law_told:Cal P w K mg base (CXE P w) 3 "_law_told" ["_law_one", "_law_free", "_law_text"] [] (spF K (Pre_td K C_SignIs C_SignsLike C_Sums C_PlaceIs) (fun _ _ c=>c=.d (.bool true))):=ok_told T Z
 refine val_lawT (k:=4) F sc_law rfl fun cdv A outer s H E hr=>?_
 refine⟨_,(pss_cons (ps_set (i:=1) sc_law.nd rfl (Or.inl rfl) pe_str)
   (pss_cons (ps_set (i:=2) sc_law.nd rfl (Or.inl rfl) (pe_ix (ix_any (K:=K) rfl hr.units) (pv 1) (pe_op op_mod (pe_cal (c_law_cell.mono (by decide)) hr rfl passE (pa_cons (pv 0) (pa_cons pe_int pa_nil))) pe_int) (fun _ _=>rfl)))
   (pss_cons (ps_set (i:=3) sc_law.nd rfl (Or.inl rfl) (pe_ix (ix_any (K:=K) rfl hr.units) (pv 1) (pe_op op_mod (pe_cal (c_law_cell.mono (by decide)) hr rfl passE (pa_cons (pv 0) (pa_cons pe_int pa_nil))) pe_int) (fun _ _=>rfl)))
   (pss_cons (ps_setC (i:=4) sc_law.nd rfl rfl (N:=["_law_k", "_law_script"]) (cap:=[none,some 0]) rfl rfl rfl (by kernel_rfl) (pi_range1 rfl T.n_range (pa_cons pe_int pa_nil)) (fun _ _ _ _=>(pg_name (i:=0) (show (["_law_k", "_law_script"]:List Str).Nodup from by decide +kernel) rfl (Or.inl rfl))) (fun _ _ _ _=>pifs_nil) (fun _ _ _ _=>(pe_cal (c_law_name.mono (by decide)) hr rfl passE (pa_cons (pe_cal (c_law_cell.mono (by decide)) hr rfl passE (pa_cons (pv 1) (pa_cons (pe_op (op_plus (K:=K) rfl) pe_int (pv 0)) pa_nil))) pa_nil))))
   (pss_cons (ps_set (i:=5) sc_law.nd rfl (Or.inl rfl) (pe_op op_mod (pe_cal (c_law_cell.mono (by decide)) hr rfl passE (pa_cons (pv 0) (pa_cons pe_int pa_nil))) pe_int))
   (pss_cons (ps_set (i:=6) sc_law.nd rfl (Or.inl rfl) (pe_op op_mod (pe_cal (c_law_cell.mono (by decide)) hr rfl passE (pa_cons (pv 0) (pa_cons pe_int pa_nil))) (pe_op op_pow pe_int pe_int)))
   (pss_cons (ps_set (i:=7) sc_law.nd rfl (Or.inl rfl) (pe_make M_SignIs i_SignIs (hr.mono (by decide)) rfl Z.c_SignIs b_SignIs .nil passE (pa_cons (pv 2) (pa_cons (pe_ix (ix_any (K:=K) rfl hr.units) (pv 4) pe_int (fun _ _=>rfl)) (pa_cons (pv 5) pa_nil)))))
   (pss_cons (ps_if (pt_not (pt_val (pe_cal (c_law_told.mono (by decide)) hr rfl passE (pa_cons (pv 7) (pa_cons (pe_lst (pa_cons (pe_ix (ix_any (K:=K) rfl hr.units) (pv 4) pe_int (fun _ _=>rfl)) pa_nil)) (pa_cons (pe_op (op_plus (K:=K) rfl) (pe_op (op_plus (K:=K) rfl) (pe_op (op_plus (K:=K) rfl) (pe_op (op_plus (K:=K) rfl) (pv 2) pe_str) (pe_ix (ix_any (K:=K) rfl hr.units) (pv 4) pe_int (fun _ _=>rfl))) pe_str) (pe_callTy call_strI rfl T.n_str PyProof.Rows.boot_str (pa_cons (pv 5) pa_nil))) pa_nil))))))
    (pss_one (ps_ret pe_bl))
    pss_nil)
   (pss_cons (ps_if (PW.pt (pw_or (pt_cmpR (op_neq (K:=K) rfl hr.units) (pe_tup (pa_cons (pe_fldK (K:=K) rfl (pv 7)) (pa_cons (pe_fldK (K:=K) rfl (pv 7)) (pa_cons (pe_fldK (K:=K) rfl (pv 7)) pa_nil)))) (pe_tup (pa_cons (pv 2) (pa_cons (pe_ix (ix_any (K:=K) rfl hr.units) (pv 4) pe_int (fun _ _=>rfl)) (pa_cons (pv 5) pa_nil)))) (nomark _)) (pw_or1 (pt_not (pt_val (pe_cal (c_law_whole.mono (by decide)) hr rfl passE (pa_cons (pe_fldK (K:=K) rfl (pv 7)) pa_nil)))))))
    (pss_one (ps_ret pe_bl))
    pss_nil)
   (pss_cons (ps_set (i:=7) sc_law.nd rfl (Or.inl rfl) (pe_make M_SignsLike i_SignsLike (hr.mono (by decide)) rfl Z.c_SignsLike b_SignsLike .nil passE (pa_cons (pv 2) (pa_cons (pe_ix (ix_any (K:=K) rfl hr.units) (pv 4) pe_int (fun _ _=>rfl)) (pa_cons (pv 3) (pa_cons (pe_ix (ix_any (K:=K) rfl hr.units) (pv 4) pe_int (fun _ _=>rfl)) pa_nil))))))
   (pss_cons (ps_if (pt_not (pt_val (pe_cal (c_law_told.mono (by decide)) hr rfl passE (pa_cons (pv 7) (pa_cons (pe_cal (c_law_once.mono (by decide)) hr rfl passE (pa_cons (pe_slice (sl_any (K:=K) rfl) (pv 4) po_none (po_some pe_int)) pa_nil)) (pa_cons (pe_op (op_plus (K:=K) rfl) (pe_op (op_plus (K:=K) rfl) (pe_op (op_plus (K:=K) rfl) (pe_op (op_plus (K:=K) rfl) (pe_op (op_plus (K:=K) rfl) (pe_op (op_plus (K:=K) rfl) (pv 2) pe_str) (pe_ix (ix_any (K:=K) rfl hr.units) (pv 4) pe_int (fun _ _=>rfl))) pe_str) (pv 3)) pe_str) (pe_ix (ix_any (K:=K) rfl hr.units) (pv 4) pe_int (fun _ _=>rfl))) pa_nil))))))
    (pss_one (ps_ret pe_bl))
    pss_nil)
   (pss_cons (ps_if (pt_cmpR (op_neq (K:=K) rfl hr.units) (pe_tup (pa_cons (pe_fldK (K:=K) rfl (pv 7)) (pa_cons (pe_fldK (K:=K) rfl (pv 7)) (pa_cons (pe_fldK (K:=K) rfl (pv 7)) (pa_cons (pe_fldK (K:=K) rfl (pv 7)) pa_nil))))) (pe_tup (pa_cons (pv 2) (pa_cons (pe_ix (ix_any (K:=K) rfl hr.units) (pv 4) pe_int (fun _ _=>rfl)) (pa_cons (pv 3) (pa_cons (pe_ix (ix_any (K:=K) rfl hr.units) (pv 4) pe_int (fun _ _=>rfl)) pa_nil))))) (nomark _))
    (pss_one (ps_ret pe_bl))
    pss_nil)
   (pss_cons (ps_set (i:=7) sc_law.nd rfl (Or.inl rfl) (pe_make M_PlaceIs i_PlaceIs (hr.mono (by decide)) rfl Z.c_PlaceIs b_PlaceIs .nil passE (pa_cons (pe_ix (ix_any (K:=K) rfl hr.units) (pv 4) pe_int (fun _ _=>rfl)) (pa_cons (pv 6) pa_nil))))
   (pss_cons (ps_if (PW.pt (pw_or (pt_not (pt_val (pe_cal (c_law_told.mono (by decide)) hr rfl passE (pa_cons (pv 7) (pa_cons (pe_lst (pa_cons (pe_ix (ix_any (K:=K) rfl hr.units) (pv 4) pe_int (fun _ _=>rfl)) pa_nil)) (pa_cons (pe_op (op_plus (K:=K) rfl) (pe_op (op_plus (K:=K) rfl) (pe_ix (ix_any (K:=K) rfl hr.units) (pv 4) pe_int (fun _ _=>rfl)) pe_str) (pe_callTy call_strI rfl T.n_str PyProof.Rows.boot_str (pa_cons (pv 6) pa_nil))) pa_nil)))))) (pw_or1 (pt_cmpR (op_neq (K:=K) rfl hr.units) (pe_tup (pa_cons (pe_fldK (K:=K) rfl (pv 7)) (pa_cons (pe_fldK (K:=K) rfl (pv 7)) pa_nil))) (pe_tup (pa_cons (pe_ix (ix_any (K:=K) rfl hr.units) (pv 4) pe_int (fun _ _=>rfl)) (pa_cons (pv 6) pa_nil))) (nomark _)))))
    (pss_one (ps_ret pe_bl))
    pss_nil)
   (pss_cons (ps_set (i:=8) sc_law.nd rfl (Or.inl rfl) (pe_slice (sl_any (K:=K) rfl) (pv 4) po_none (po_some (pe_op (op_plus (K:=K) rfl) pe_int (pe_op op_mod (pe_cal (c_law_cell.mono (by decide)) hr rfl passE (pa_cons (pv 0) (pa_cons pe_int pa_nil))) pe_int)))))
   (pss_cons (ps_set (i:=9) sc_law.nd rfl (Or.inl rfl) (pe_slice (sl_any (K:=K) rfl) (pv 4) (po_some (pe_op op_sub pe_int (pe_op op_mod (pe_cal (c_law_cell.mono (by decide)) hr rfl passE (pa_cons (pv 0) (pa_cons pe_int pa_nil))) pe_int))) po_none))
   (pss_cons (ps_set (i:=10) sc_law.nd rfl (Or.inl rfl) (pe_ix (ix_any (K:=K) rfl hr.units) (pe_lst (pa_cons pe_str (pa_cons pe_str pa_nil))) (pe_op op_mod (pe_op op_fdiv (pe_cal (c_law_cell.mono (by decide)) hr rfl passE (pa_cons (pv 0) (pa_cons pe_int pa_nil))) pe_int) pe_int) (fun _ _=>rfl)))
   (pss_cons (ps_set (i:=11) sc_law.nd rfl (Or.inl rfl) (pe_lst (pa_cons (pe_callTy (call_listK (K:=K) rfl) rfl T.n_list PyProof.Rows.boot_list (pa_cons (pv 8) pa_nil)) (pa_cons (pe_callTy (call_listK (K:=K) rfl) rfl T.n_list PyProof.Rows.boot_list (pa_cons (pv 9) pa_nil)) pa_nil))))
   (pss_cons (ps_set (i:=7) sc_law.nd rfl (Or.inl rfl) (pe_make M_Sums i_Sums (hr.mono (by decide)) rfl Z.c_Sums b_Sums .nil passE (pa_cons (pe_ix (ix_any (K:=K) rfl hr.units) (pv 11) pe_int (fun _ _=>rfl)) (pa_cons (pe_ix (ix_any (K:=K) rfl hr.units) (pv 11) pe_int (fun _ _=>rfl)) (pa_cons (pv 10) pa_nil)))))
   (pss_cons (ps_expr (pe_bmK (K:=K) rfl PySem.F.plainAttrs_list PySem.F.slot_list_append PySem.F.type_list_append mt_append (pe_ix (ix_any (K:=K) rfl hr.units) (pv 11) pe_int (fun _ _=>rfl)) (pa_cons pe_str pa_nil)))
   (pss_cons (ps_expr (pe_bm0K (K:=K) rfl PySem.F.plainAttrs_list PySem.F.slot_list_clear PySem.F.type_list_clear mt_clear (pe_ix (ix_any (K:=K) rfl hr.units) (pv 11) pe_int (fun _ _=>rfl))))
   (pss_cons (ps_if (pt_not (pt_val (pe_cal (c_law_told.mono (by decide)) hr rfl passE (pa_cons (pv 7) (pa_cons (pe_cal (c_law_once.mono (by decide)) hr rfl passE (pa_cons (pe_op (op_plus (K:=K) rfl) (pv 8) (pv 9)) pa_nil)) (pa_cons (pe_op (op_plus (K:=K) rfl) (pe_op (op_plus (K:=K) rfl) (pe_op (op_plus (K:=K) rfl) (pe_op (op_plus (K:=K) rfl) (pe_bmK (K:=K) rfl PySem.F.plainAttrs_str PySem.F.slot_str_join PySem.F.type_str_join (mt_join (K:=K) rfl) pe_str (pa_cons (pv 8) pa_nil)) pe_str) (pv 10)) pe_str) (pe_bmK (K:=K) rfl PySem.F.plainAttrs_str PySem.F.slot_str_join PySem.F.type_str_join (mt_join (K:=K) rfl) pe_str (pa_cons (pv 9) pa_nil))) pa_nil))))))
    (pss_one (ps_ret pe_bl))
    pss_nil)
   (pss_one (ps_ret (pe_cmpR (op_equ (K:=K) rfl hr.units) (pe_tup (pa_cons (pe_fldK (K:=K) rfl (pv 7)) (pa_cons (pe_fldK (K:=K) rfl (pv 7)) (pa_cons (pe_fldK (K:=K) rfl (pv 7)) pa_nil)))) (pe_tup (pa_cons (pv 8) (pa_cons (pv 9) (pa_cons (pv 10) pa_nil)))) (nomark _)))))))))))))))))))))))))),?_⟩
 intro ns hn hbits
 show Sv K _ _ _ [some (.d (dI ns)),none,none,none,none,none,none,none,none,none,none,none] _
 walk_at "vi"
 refine use_cell (by decide) fun r0 h0=>?_
 walk_at "vi"
 obtain⟨c1,hc1,hk1⟩:=grt_at (k:=r0%26) ⟨by omega,by omega⟩
 refine ix_S (z:=GRT) rfl (by decide +kernel) hc1 ?_
 have nrow:=Nm.one hk1
 generalize (⟨#[c1]⟩:Str)=row at nrow
 walk_at "vi"
 refine use_cell (by decide) fun r1 h1=>?_
 walk_at "vi"
 obtain⟨c2,hc2,hk2⟩:=grt_at (k:=r1%26) ⟨by omega,by omega⟩
 refine ix_S (z:=GRT) rfl (by decide +kernel) hc2 ?_
 have noth:=Nm.one hk2
 generalize (⟨#[c2]⟩:Str)=other at noth
 walk_at "vi"
 refine compR_R ?_
 walk_at "vi"
 refine⟨6,fun i ys=>∃ zs:List Str,ys=zs.map (fun z=>.d (.str z))∧zs.length=i∧∀ z∈zs,Nm z,rfl,⟨by decide,by decide⟩,⟨[],rfl,rfl,by simp⟩,?_,?_⟩
 ·rintro i ys hi ⟨zs,rfl,hl,hz⟩
  have hi:i<6:=hi
  show Gv K _ _ [none,some (.d (dI ns))] _
  walk_at "vi"
  refine⟨wk_0,?_⟩
  walk_at "vi"
  refine use_cell ⟨by omega,by omega⟩ fun r hr=>?_
  walk_at "vi"
  refine use_name hr fun z nz=>?_
  refine⟨_,rfl,zs++[z],by rw[List.map_append];rfl,by rw[List.length_append,hl];rfl,fun y hy=>?_⟩
  rcases List.mem_append.mp hy with q|q
  ·exact hz y q
  ·rw[List.mem_singleton.mp q];exact nz
 rintro ys ⟨zs,rfl,hl,hz⟩
 refine⟨_,Got.own (clean_map fun _=>rfl),?_⟩
 obtain⟨n0,n1,n2,n3,n4,n5,rfl⟩:=six hl
 have m0:=hz n0 (by simp)
 have m1:=hz n1 (by simp)
 have m2:=hz n2 (by simp)
 have hall:∀ z∈[n0,n1,n2,n3,n4,n5],Nm z:=hz
 refine v_sD (x:=dLs [n0,n1,n2,n3,n4,n5]) rfl ?_
 walk_at "vi"
 refine use_cell (by decide) fun r2 h2=>?_
 walk_at "vi"
 refine use_cell (by decide) fun r9 h9=>?_
 walk_at "vi"
 refine op_i (by decide) ?_
 have sp9:Sn (r9%10 ^ Int.toNat 9):=⟨Int.emod_nonneg _ (by decide),Int.lt_of_lt_of_le (Int.emod_lt_of_pos _ (by decide)) (by decide)⟩
 generalize r9%10 ^ Int.toNat 9=place at sp9
 have ss:Sn (r2%10):=⟨by omega,by omega⟩
 generalize r2%10=sign at ss
 have lr:=nrow.1
 have lo:=noth.1
 have l0:=m0.1
 have l1:=m1.1
 have l2:=m2.1
 have ls:=nT_len ss
 have lp:=nT_len sp9
 have e1:(" " : Str).length=1:=by decide +kernel
 have e4:(" is " : Str).length=4:=by decide +kernel
 have e6:(" like " : Str).length=6:=by decide +kernel
 have e3:(" = " : Str).length=3:=by decide +kernel
 walk_at "vi"
 refine ev_make ?_
 walk_at "vi"
 refine ix_L rfl rfl Item.d ?_
 walk_at "vi"
 refine⟨[.str row,.str n0,.int sign],.cons (.d NR.av rfl) (.cons (.d NR.av rfl) (.cons (.d NR.av rfl) .nil)),rfl,rfl,?_⟩
 walk_at "vi"
 refine s_if ?_
 walk_at "vi"
 refine ev_rF0 ?_
 walk_at "vi"
 refine ev_lst ?_
 walk_at "vi"
 refine ix_L rfl rfl Item.d ?_
 walk_at "vi"
 refine⟨[.d (.str n0)],.cons rfl .nil,by show 1≤1000;decide,?_⟩
 walk_at "vi"
 refine add_s rfl rfl (by first|omega|(simp only[Str.length_append];omega)) ?_
 walk_at "vi"
 refine ix_L rfl rfl Item.d ?_
 walk_at "vi"
 refine add_s rfl rfl (by first|omega|(simp only[Str.length_append];omega)) ?_
 walk_at "vi"
 refine add_s rfl rfl (by first|omega|(simp only[Str.length_append];omega)) ?_
 walk_at "vi"
 refine bi_strI rfl ⟨by have:=ss.1;omega,by have:=ss.2;omega⟩ ?_
 walk_at "vi"
 refine add_s rfl rfl (by first|omega|(simp only[Str.length_append];omega)) ?_
 walk_at "vi"
 refine use_td .si ⟨[("row",.str row),("name",.str n0),("sign",.int sign)],[n0],row ++ " " ++ n0 ++ " is " ++ nT sign⟩ (StK.si nrow m0 ss) NR.av rfl NR.av rfl ?_
 walk_at "vi"
 refine s_if ?_
 walk_at "vi"
 refine ev_tup ?_
 walk_at "vi"
 refine ev_fld (i:=7) rfl Z.ic_SignIs.cl Z.na_SignIs_row rfl ?_
 walk_at "vi"
 refine ev_fld (i:=7) rfl Z.ic_SignIs.cl Z.na_SignIs_name rfl ?_
 walk_at "vi"
 refine ev_fld (i:=7) rfl Z.ic_SignIs.cl Z.na_SignIs_sign rfl ?_
 walk_at "vi"
 refine⟨[.d (.str row),.d (.str n0),.d (.int sign)],.cons rfl (.cons rfl (.cons rfl .nil)),by show 3≤1000;decide,?_⟩
 walk_at "vi"
 refine ev_tup ?_
 walk_at "vi"
 refine ix_L rfl rfl Item.d ?_
 walk_at "vi"
 refine⟨[.d (.str row),.d (.str n0),.d (.int sign)],.cons rfl (.cons rfl (.cons rfl .nil)),by show 3≤1000;decide,?_⟩
 refine ne_d (f:=fun xs:List (OkS ⊕ (Int ⊕ List OkS))=>PyData.tuple (xs.map fA)) (c:=[.inl ⟨row,nrow.ok⟩,.inl ⟨n0,m0.ok⟩,.inr (.inl sign)]) (d:=[.inl ⟨row,nrow.ok⟩,.inl ⟨n0,m0.ok⟩,.inr (.inl sign)]) encA.tuple rfl rfl ?_
 rw[decide_eq_true rfl]
 walk_at "vi"
 refine ev_fld (i:=7) rfl Z.ic_SignIs.cl Z.na_SignIs_sign rfl ?_
 walk_at "vi"
 refine use_whole ?_
 walk_at "vi"
 refine ev_make ?_
 walk_at "vi"
 refine ix_L rfl rfl Item.d ?_
 walk_at "vi"
 refine ix_L rfl rfl Item.d ?_
 walk_at "vi"
 refine⟨[.str row,.str n0,.str other,.str n1],.cons (.d NR.av rfl) (.cons (.d NR.av rfl) (.cons (.d NR.av rfl) (.cons (.d NR.av rfl) .nil))),rfl,rfl,?_⟩
 walk_at "vi"
 refine s_if ?_
 walk_at "vi"
 refine ev_rF0 ?_
 walk_at "vi"
 refine sl_L ?_
 walk_at "vi"
 refine⟨[n0,n1,n2,n3,n4,n5].map .str,rfl,NR.av,.inl rfl,?_⟩
 walk_at "vi"
 refine use_on (ns:=[n0,n1]) NR.av rfl (by show 2≤60;decide) (fun z hz=>(hall z (show z∈[n0,n1]++[n2,n3,n4,n5] from List.mem_append_left _ hz)).ok) fun ys hy=>?_
 walk_at "vi"
 refine add_s rfl rfl (by first|omega|(simp only[Str.length_append];omega)) ?_
 walk_at "vi"
 refine ix_L rfl rfl Item.d ?_
 walk_at "vi"
 refine add_s rfl rfl (by first|omega|(simp only[Str.length_append];omega)) ?_
 walk_at "vi"
 refine add_s rfl rfl (by first|omega|(simp only[Str.length_append];omega)) ?_
 walk_at "vi"
 refine add_s rfl rfl (by first|omega|(simp only[Str.length_append];omega)) ?_
 walk_at "vi"
 refine add_s rfl rfl (by first|omega|(simp only[Str.length_append];omega)) ?_
 walk_at "vi"
 refine ix_L rfl rfl Item.d ?_
 walk_at "vi"
 refine add_s rfl rfl (by first|omega|(simp only[Str.length_append];omega)) ?_
 walk_at "vi"
 refine use_td .sl ⟨[("row",.str row),("name",.str n0),("other",.str other),("second",.str n1)],ys,row ++ " " ++ n0 ++ " like " ++ other ++ " " ++ n1⟩ (StK.sl nrow m0 noth m1 hy) NR.av (oS_data ys) NR.av rfl ?_
 walk_at "vi"
 refine s_if ?_
 walk_at "vi"
 refine ev_tup ?_
 walk_at "vi"
 refine ev_fld (i:=7) rfl Z.ic_SignsLike.cl Z.na_SignsLike_row rfl ?_
 walk_at "vi"
 refine ev_fld (i:=7) rfl Z.ic_SignsLike.cl Z.na_SignsLike_name rfl ?_
 walk_at "vi"
 refine ev_fld (i:=7) rfl Z.ic_SignsLike.cl Z.na_SignsLike_other rfl ?_
 walk_at "vi"
 refine ev_fld (i:=7) rfl Z.ic_SignsLike.cl Z.na_SignsLike_second rfl ?_
 walk_at "vi"
 refine⟨[.d (.str row),.d (.str n0),.d (.str other),.d (.str n1)],.cons rfl (.cons rfl (.cons rfl (.cons rfl .nil))),by show 4≤1000;decide,?_⟩
 walk_at "vi"
 refine ev_tup ?_
 walk_at "vi"
 refine ix_L rfl rfl Item.d ?_
 walk_at "vi"
 refine ix_L rfl rfl Item.d ?_
 walk_at "vi"
 refine⟨[.d (.str row),.d (.str n0),.d (.str other),.d (.str n1)],.cons rfl (.cons rfl (.cons rfl (.cons rfl .nil))),by show 4≤1000;decide,?_⟩
 refine ne_d (f:=fun xs:List (OkS ⊕ (Int ⊕ List OkS))=>PyData.tuple (xs.map fA)) (c:=[.inl ⟨row,nrow.ok⟩,.inl ⟨n0,m0.ok⟩,.inl ⟨other,noth.ok⟩,.inl ⟨n1,m1.ok⟩]) (d:=[.inl ⟨row,nrow.ok⟩,.inl ⟨n0,m0.ok⟩,.inl ⟨other,noth.ok⟩,.inl ⟨n1,m1.ok⟩]) encA.tuple rfl rfl ?_
 rw[decide_eq_true rfl]
 walk_at "vi"
 refine ev_make ?_
 walk_at "vi"
 refine ix_L rfl rfl Item.d ?_
 walk_at "vi"
 refine⟨[.str n2,.int place],.cons (.d NR.av rfl) (.cons (.d NR.av rfl) .nil),rfl,rfl,?_⟩
 walk_at "vi"
 refine s_if ?_
 walk_at "vi"
 refine ev_rF0 ?_
 walk_at "vi"
 refine ev_lst ?_
 walk_at "vi"
 refine ix_L rfl rfl Item.d ?_
 walk_at "vi"
 refine⟨[.d (.str n2)],.cons rfl .nil,by show 1≤1000;decide,?_⟩
 walk_at "vi"
 refine ix_L rfl rfl Item.d ?_
 walk_at "vi"
 refine add_s rfl rfl (by first|omega|(simp only[Str.length_append];omega)) ?_
 walk_at "vi"
 refine bi_strI rfl ⟨by have:=sp9.1;omega,by have:=sp9.2;omega⟩ ?_
 walk_at "vi"
 refine add_s rfl rfl (by first|omega|(simp only[Str.length_append];omega)) ?_
 walk_at "vi"
 refine use_td .pl ⟨[("name",.str n2),("place",.int place)],[n2],n2 ++ " = " ++ nT place⟩ (StK.pl m2 sp9) NR.av rfl NR.av rfl ?_
 walk_at "vi"
 refine ev_tup ?_
 walk_at "vi"
 refine ev_fld (i:=7) rfl Z.ic_PlaceIs.cl Z.na_PlaceIs_name rfl ?_
 walk_at "vi"
 refine ev_fld (i:=7) rfl Z.ic_PlaceIs.cl Z.na_PlaceIs_place rfl ?_
 walk_at "vi"
 refine⟨[.d (.str n2),.d (.int place)],.cons rfl (.cons rfl .nil),by show 2≤1000;decide,?_⟩
 walk_at "vi"
 refine ev_tup ?_
 walk_at "vi"
 refine ix_L rfl rfl Item.d ?_
 walk_at "vi"
 refine⟨[.d (.str n2),.d (.int place)],.cons rfl (.cons rfl .nil),by show 2≤1000;decide,?_⟩
 refine ne_d (f:=fun xs:List (OkS ⊕ (Int ⊕ List OkS))=>PyData.tuple (xs.map fA)) (c:=[.inl ⟨n2,m2.ok⟩,.inr (.inl place)]) (d:=[.inl ⟨n2,m2.ok⟩,.inr (.inl place)]) encA.tuple rfl rfl ?_
 rw[decide_eq_true rfl]
 walk_at "vi"
 refine sl_L ?_
 walk_at "vi"
 refine use_cell (by decide) fun ra ha=>?_
 walk_at "vi"
 refine⟨[n0,n1,n2,n3,n4,n5].map .str,rfl,NR.av,.inl rfl,?_⟩
 rw[cut_map]
 have hl1:=cut_len [n0,n1,n2,n3,n4,n5] none (some (1+ra%3))
 have hl2:∀ z∈cutA [n0,n1,n2,n3,n4,n5] none (some (1+ra%3)),Nm z:=fun z hz=>hall z (cut_mem hz)
 generalize cutA [n0,n1,n2,n3,n4,n5] none (some (1+ra%3))=l at hl1 hl2
 refine v_sD (x:=dLs l) (by rw[AV.data,datas_d]) ?_
 walk_at "vi"
 refine sl_L ?_
 walk_at "vi"
 refine use_cell (by decide) fun rb hb=>?_
 walk_at "vi"
 refine⟨[n0,n1,n2,n3,n4,n5].map .str,rfl,NR.av,.inl rfl,?_⟩
 rw[cut_map]
 have hr1:=cut_len [n0,n1,n2,n3,n4,n5] (some (5-rb%3)) none
 have hr2:∀ z∈cutA [n0,n1,n2,n3,n4,n5] (some (5-rb%3)) none,Nm z:=fun z hz=>hall z (cut_mem hz)
 generalize cutA [n0,n1,n2,n3,n4,n5] (some (5-rb%3)) none=r at hr1 hr2
 refine v_sD (x:=dLs r) (by rw[AV.data,datas_d]) ?_
 walk_at "vi"
 refine ev_lst ?_
 walk_at "vi"
 refine⟨[.d (.str "="),.d (.str "<")],.cons rfl (.cons rfl .nil),by show 2≤1000;decide,?_⟩
 walk_at "vi"
 refine use_cell (by decide) fun rc hc=>?_
 walk_at "vi"
 have hwd:∃ wd:Str,atI [PyData.str "=",.str "<"] (rc / 3%2)=some (.str wd)∧Nm wd:=by
  have:rc / 3%2=0∨rc / 3%2=1:=by omega
  rcases this with q|q
  ·rw[q];exact⟨"=",rfl,by decide +kernel,by decide +kernel⟩
  ·rw[q];exact⟨"<",rfl,by decide +kernel,by decide +kernel⟩
 obtain⟨wd,hwd,nwd⟩:=hwd
 refine ix_L (ds:=[.str "=",.str "<"]) rfl hwd (Item.flat rfl) ?_
 have hwl:=nwd.1
 walk_at "vi"
 refine ev_lst ?_
 walk_at "vi"
 refine bi_listL (ds:=l.map .str) rfl Kp.d ?_
 walk_at "vi"
 refine bi_listL (ds:=r.map .str) rfl Kp.d ?_
 walk_at "vi"
 refine⟨[.own ((l.map .str).map AV.d),.own ((r.map .str).map AV.d)],.cons rfl (.cons rfl .nil),by show 2≤1000;decide,?_⟩
 walk_at "vi"
 refine ev_makeL ?_
 walk_at "vi"
 have eL:(AV.own ((l.map PyData.str).map AV.d)).data=dLs l:=by rw[AV.data,datas_d]
 have eR:(AV.own ((r.map PyData.str).map AV.d)).data=dLs r:=by rw[AV.data,datas_d]
 have ed:AV.datas [.own ((l.map PyData.str).map AV.d),.own ((r.map PyData.str).map AV.d)]=[dLs l,dLs r]:=by show [_,_]=_;rw[eL,eR]
 rw[ed]
 refine ix_L (ds:=[dLs l,dLs r]) rfl rfl Item.br ?_
 walk_at "vi"
 rw[ed]
 refine ix_L (ds:=[dLs l,dLs r]) rfl rfl Item.br ?_
 walk_at "vi"
 refine⟨l,r,.str wd,.cons (.d NR.bor rfl) (.cons (.d NR.bor rfl) (.cons (.d NR.av rfl) .nil)),rfl,?_⟩
 walk_at "v"
 walk_at "v"
 refine sv_ap2S (n:=11) (k:=0) (m:=0) rfl rfl rfl (by rw[List.length_map,List.length_map];exact Nat.le_trans hl1 (by show 6≤1000000;decide)) ?_
 walk_at "v"
 refine sv_clearC (n:=11) (k:=1) (m:=1) rfl rfl rfl ?_
 show Sv K _ _ _ [some (.d (dI ns)),some (.d (.str GRT)),some (.d (.str row)),some (.d (.str other)),some (.d (dLs [n0,n1,n2,n3,n4,n5])),some (.d (.int sign)),some (.d (.int place)),some (.obj (InsOf K C_Sums [("left",dLs l),("right",dLs r),("word",.str wd)])),some (.d (dLs l)),some (.d (dLs r)),some (.d (.str wd)),some (.own [.own ((l.map .str).map AV.d++[.d (.str "z")]),.own []])] _
 have hl1:l.length≤6:=hl1
 have hr1:r.length≤6:=hr1
 obtain⟨a1,a2⟩:=join_ok (m:=6) (n:=6) spc3 (fun z hz=>(hl2 z hz).1) hl1 (by decide)
 obtain⟨b1,b2⟩:=join_ok (m:=6) (n:=6) spc3 (fun z hz=>(hr2 z hz).1) hr1 (by decide)
 walk_at "vi"
 refine s_if ?_
 walk_at "vi"
 refine ev_rF0 ?_
 walk_at "vi"
 refine cat_L (ds:=l.map .str) (es:=r.map .str) rfl rfl Kp.d Kp.d (by rw[List.length_map,List.length_map];omega) ?_
 walk_at "vi"
 refine use_on (ns:=l++r) NR.av (by rw[TV.data,AV.data,datas_d];show _=PyData.list ((l++r).map .str);rw[List.map_append]) (by rw[List.length_append];omega) (fun z hz=>(List.mem_append.mp hz).elim (fun q=>(hl2 z q).ok) fun q=>(hr2 z q).ok) fun ys hy=>?_
 walk_at "vi"
 refine ev_join ?_
 walk_at "vi"
 refine⟨l,rfl,NR.av,a1,?_⟩
 walk_at "vi"
 refine add_s rfl rfl (by first|omega|(simp only[Str.length_append];omega)) ?_
 walk_at "vi"
 refine add_s rfl rfl (by first|omega|(simp only[Str.length_append];omega)) ?_
 walk_at "vi"
 refine add_s rfl rfl (by first|omega|(simp only[Str.length_append];omega)) ?_
 walk_at "vi"
 refine ev_join ?_
 walk_at "vi"
 refine⟨r,rfl,NR.av,b1,?_⟩
 walk_at "vi"
 refine add_s rfl rfl (by first|omega|(simp only[Str.length_append];omega)) ?_
 walk_at "vi"
 refine use_td .su ⟨[("left",dLs l),("right",dLs r),("word",.str wd)],ys,Txt.join " + " l ++ " " ++ wd ++ " " ++ Txt.join " + " r⟩ (StK.su hl2 hr2 hl1 hr1 nwd hy) NR.av (oS_data ys) NR.av rfl ?_
 walk_at "vi"
 obtain⟨xl,hxl⟩:=okS fun z hz=>(hl2 z hz).ok
 obtain⟨xr,hxr⟩:=okS fun z hz=>(hr2 z hz).ok
 have fl:dLs l=fA (.inr (.inr xl)):=by show PyData.list (l.map .str)=PyData.list (xl.map dS);rw[hxl,List.map_map];rfl
 have fr:dLs r=fA (.inr (.inr xr)):=by show PyData.list (r.map .str)=PyData.list (xr.map dS);rw[hxr,List.map_map];rfl
 refine ev_tup ?_
 walk_at "vi"
 refine ev_fld (i:=7) rfl Z.ic_Sums.cl Z.na_Sums_left rfl ?_
 walk_at "vi"
 refine ev_fld (i:=7) rfl Z.ic_Sums.cl Z.na_Sums_right rfl ?_
 walk_at "vi"
 refine ev_fld (i:=7) rfl Z.ic_Sums.cl Z.na_Sums_word rfl ?_
 walk_at "vi"
 refine⟨[.d (dLs l),.d (dLs r),.d (.str wd)],.cons rfl (.cons rfl (.cons rfl .nil)),by show 3≤1000;decide,?_⟩
 walk_at "vi"
 refine ev_tup ?_
 walk_at "vi"
 refine⟨[.d (dLs l),.d (dLs r),.d (.str wd)],.cons rfl (.cons rfl (.cons rfl .nil)),by show 3≤1000;decide,?_⟩
 refine eq_d (f:=fun xs:List (OkS ⊕ (Int ⊕ List OkS))=>PyData.tuple (xs.map fA)) (c:=[.inr (.inr xl),.inr (.inr xr),.inl ⟨wd,nwd.ok⟩]) (d:=[.inr (.inr xl),.inr (.inr xr),.inl ⟨wd,nwd.ok⟩]) encA.tuple (by show PyData.tuple [dLs l,dLs r,.str wd]=PyData.tuple [_,_,_];rw[fl,fr];rfl) (by show PyData.tuple [dLs l,dLs r,.str wd]=PyData.tuple [_,_,_];rw[fl,fr];rfl) ?_
 rw[decide_eq_true rfl]
 exact res_d rfl
end
noncomputable instance tabs0:Tabs:=⟨ts0⟩
theorem len_0{P:List Value→Prop}(h:P []):∀ us,us.length=0→P us:=fun us e=>(List.eq_nil_of_length_eq_zero e).symm▸h
theorem len_s{P:List Value→Prop}{n:Nat}(h:∀ a us,us.length=n→P (a::us))(us:List Value)(e:us.length=n+1):P us:=by
  cases us with
  | nil=>cases e
  | cons a us=>exact h a us (Nat.succ.inj e)
theorem len_1{P:List Value→Prop}(h:∀ a0,P [a0]):∀ us,us.length=1→P us:=len_s fun a0=>len_0 (P:=fun us=>P (a0::us)) (h a0)
theorem len_2{P:List Value→Prop}(h:∀ a0 a1,P [a0,a1]):∀ us,us.length=2→P us:=len_s fun a0=>len_1 (P:=fun us=>P (a0::us)) (h a0)
theorem len_3{P:List Value→Prop}(h:∀ a0 a1 a2,P [a0,a1,a2]):∀ us,us.length=3→P us:=len_s fun a0=>len_2 (P:=fun us=>P (a0::us)) (h a0)
theorem all_mk{l:PySem.W.OpenLaw}{w:World}{K:W.Frag}{h:Heap}{mg:Str→Option Value}{fa:Addr}(X:K.In h)(G:h.Ns mainGlobals mg)(hfa:mg "law" = some (.ref fa))
  (z_bool:PySem.W.nsIn K mainGlobals "bool" = some none)
  (z_int:PySem.W.nsIn K mainGlobals "int" = some none)
  (z_isinstance:PySem.W.nsIn K mainGlobals "isinstance" = some none)
  (z_len:PySem.W.nsIn K mainGlobals "len" = some none)
  (z_list:PySem.W.nsIn K mainGlobals "list" = some none)
  (z_range:PySem.W.nsIn K mainGlobals "range" = some none)
  (z_set:PySem.W.nsIn K mainGlobals "set" = some none)
  (z_sorted:PySem.W.nsIn K mainGlobals "sorted" = some none)
  (z_str:PySem.W.nsIn K mainGlobals "str" = some none)
  (z_tuple:PySem.W.nsIn K mainGlobals "tuple" = some none)
  {f0:Addr} {oc0 kV0 dc0 pm0 cd0 ct0:Value} {od0 an0:Option Addr} {sl0:Array (Option Value)}
  (a0:PySem.W.nsIn K mainGlobals "_wall" = some (some (.ref f0))) (l0:K.lookup f0=some ⟨oc0,od0,.func (PySem.W.fnOf "_wall" "_wall" (defArgs s_wall) (defBody s_wall) (defScope s_wall) .none kV0 dc0 pm0 an0 cd0 ct0),sl0⟩) (c0:PySem.W.codeIn K cd0 "_wall" = true) (k0:PySem.W.keepIn K (.ref f0)=true)
  {f1:Addr} {oc1 kV1 dc1 pm1 cd1 ct1:Value} {od1 an1:Option Addr} {sl1:Array (Option Value)}
  (a1:PySem.W.nsIn K mainGlobals "rising" = some (some (.ref f1))) (l1:K.lookup f1=some ⟨oc1,od1,.func (PySem.W.fnOf "rising" "rising" (defArgs s_rising) (defBody s_rising) (defScope s_rising) .none kV1 dc1 pm1 an1 cd1 ct1),sl1⟩) (c1:PySem.W.codeIn K cd1 "rising" = true) (k1:PySem.W.keepIn K (.ref f1)=true)
  {f2:Addr} {oc2 kV2 dc2 pm2 cd2 ct2:Value} {od2 an2:Option Addr} {sl2:Array (Option Value)}
  (a2:PySem.W.nsIn K mainGlobals "_law_cell" = some (some (.ref f2))) (l2:K.lookup f2=some ⟨oc2,od2,.func (PySem.W.fnOf "_law_cell" "_law_cell" (defArgs s_law_cell) (defBody s_law_cell) (defScope s_law_cell) .none kV2 dc2 pm2 an2 cd2 ct2),sl2⟩) (c2:PySem.W.codeIn K cd2 "_law_cell" = true) (k2:PySem.W.keepIn K (.ref f2)=true)
  {f3:Addr} {oc3 kV3 dc3 pm3 cd3 ct3:Value} {od3 an3:Option Addr} {sl3:Array (Option Value)}
  (a3:PySem.W.nsIn K mainGlobals "_law_whole" = some (some (.ref f3))) (l3:K.lookup f3=some ⟨oc3,od3,.func (PySem.W.fnOf "_law_whole" "_law_whole" (defArgs s_law_whole) (defBody s_law_whole) (defScope s_law_whole) .none kV3 dc3 pm3 an3 cd3 ct3),sl3⟩) (c3:PySem.W.codeIn K cd3 "_law_whole" = true) (k3:PySem.W.keepIn K (.ref f3)=true)
  {f4:Addr} {oc4 kV4 dc4 pm4 cd4 ct4:Value} {od4 an4:Option Addr} {sl4:Array (Option Value)}
  (a4:PySem.W.nsIn K mainGlobals "_law_name" = some (some (.ref f4))) (l4:K.lookup f4=some ⟨oc4,od4,.func (PySem.W.fnOf "_law_name" "_law_name" (defArgs s_law_name) (defBody s_law_name) (defScope s_law_name) .none kV4 dc4 pm4 an4 cd4 ct4),sl4⟩) (c4:PySem.W.codeIn K cd4 "_law_name" = true) (k4:PySem.W.keepIn K (.ref f4)=true)
  {f5:Addr} {oc5 kV5 dc5 pm5 cd5 ct5:Value} {od5 an5:Option Addr} {sl5:Array (Option Value)}
  (a5:PySem.W.nsIn K mainGlobals "_law_told" = some (some (.ref f5))) (l5:K.lookup f5=some ⟨oc5,od5,.func (PySem.W.fnOf "_law_told" "_law_told" (defArgs s_law_told) (defBody s_law_told) (defScope s_law_told) .none kV5 dc5 pm5 an5 cd5 ct5),sl5⟩) (c5:PySem.W.codeIn K cd5 "_law_told" = true) (k5:PySem.W.keepIn K (.ref f5)=true)
  {f6:Addr} {oc6 kV6 dc6 pm6 cd6 ct6:Value} {od6 an6:Option Addr} {sl6:Array (Option Value)}
  (a6:PySem.W.nsIn K mainGlobals "_law_once" = some (some (.ref f6))) (l6:K.lookup f6=some ⟨oc6,od6,.func (PySem.W.fnOf "_law_once" "_law_once" (defArgs s_law_once) (defBody s_law_once) (defScope s_law_once) .none kV6 dc6 pm6 an6 cd6 ct6),sl6⟩) (c6:PySem.W.codeIn K cd6 "_law_once" = true) (k6:PySem.W.keepIn K (.ref f6)=true)
  {C_Statement:Addr} {C_SignIs:Addr} {C_SignsLike:Addr} {C_Sums:Addr} {C_PlaceIs:Addr}
  (cc_Statement:PySem.W.nsIn K mainGlobals "Statement" = some (some (.ref C_Statement)))
  (cc_SignIs:PySem.W.nsIn K mainGlobals "SignIs" = some (some (.ref C_SignIs)))
  (cc_SignsLike:PySem.W.nsIn K mainGlobals "SignsLike" = some (some (.ref C_SignsLike)))
  (cc_Sums:PySem.W.nsIn K mainGlobals "Sums" = some (some (.ref C_Sums)))
  (cc_PlaceIs:PySem.W.nsIn K mainGlobals "PlaceIs" = some (some (.ref C_PlaceIs)))
  {f_SignIs_init:Addr} {oc_SignIs_init kV_SignIs_init dc_SignIs_init pm_SignIs_init cd_SignIs_init ct_SignIs_init:Value} {od_SignIs_init an_SignIs_init:Option Addr} {sl_SignIs_init:Array (Option Value)} {f_SignIs_free:Addr} {oc_SignIs_free kV_SignIs_free dc_SignIs_free pm_SignIs_free cd_SignIs_free ct_SignIs_free:Value} {od_SignIs_free an_SignIs_free:Option Addr} {sl_SignIs_free:Array (Option Value)} {f_SignIs_text:Addr} {oc_SignIs_text kV_SignIs_text dc_SignIs_text pm_SignIs_text cd_SignIs_text ct_SignIs_text:Value} {od_SignIs_text an_SignIs_text:Option Addr} {sl_SignIs_text:Array (Option Value)} {f_SignsLike_init:Addr} {oc_SignsLike_init kV_SignsLike_init dc_SignsLike_init pm_SignsLike_init cd_SignsLike_init ct_SignsLike_init:Value} {od_SignsLike_init an_SignsLike_init:Option Addr} {sl_SignsLike_init:Array (Option Value)} {f_SignsLike_free:Addr} {oc_SignsLike_free kV_SignsLike_free dc_SignsLike_free pm_SignsLike_free cd_SignsLike_free ct_SignsLike_free:Value} {od_SignsLike_free an_SignsLike_free:Option Addr} {sl_SignsLike_free:Array (Option Value)} {f_SignsLike_text:Addr} {oc_SignsLike_text kV_SignsLike_text dc_SignsLike_text pm_SignsLike_text cd_SignsLike_text ct_SignsLike_text:Value} {od_SignsLike_text an_SignsLike_text:Option Addr} {sl_SignsLike_text:Array (Option Value)} {f_Sums_init:Addr} {oc_Sums_init kV_Sums_init dc_Sums_init pm_Sums_init cd_Sums_init ct_Sums_init:Value} {od_Sums_init an_Sums_init:Option Addr} {sl_Sums_init:Array (Option Value)} {f_Sums_free:Addr} {oc_Sums_free kV_Sums_free dc_Sums_free pm_Sums_free cd_Sums_free ct_Sums_free:Value} {od_Sums_free an_Sums_free:Option Addr} {sl_Sums_free:Array (Option Value)} {f_Sums_text:Addr} {oc_Sums_text kV_Sums_text dc_Sums_text pm_Sums_text cd_Sums_text ct_Sums_text:Value} {od_Sums_text an_Sums_text:Option Addr} {sl_Sums_text:Array (Option Value)} {f_PlaceIs_init:Addr} {oc_PlaceIs_init kV_PlaceIs_init dc_PlaceIs_init pm_PlaceIs_init cd_PlaceIs_init ct_PlaceIs_init:Value} {od_PlaceIs_init an_PlaceIs_init:Option Addr} {sl_PlaceIs_init:Array (Option Value)} {f_PlaceIs_free:Addr} {oc_PlaceIs_free kV_PlaceIs_free dc_PlaceIs_free pm_PlaceIs_free cd_PlaceIs_free ct_PlaceIs_free:Value} {od_PlaceIs_free an_PlaceIs_free:Option Addr} {sl_PlaceIs_free:Array (Option Value)} {f_PlaceIs_text:Addr} {oc_PlaceIs_text kV_PlaceIs_text dc_PlaceIs_text pm_PlaceIs_text cd_PlaceIs_text ct_PlaceIs_text:Value} {od_PlaceIs_text an_PlaceIs_text:Option Addr} {sl_PlaceIs_text:Array (Option Value)}
  (kk6:PySem.W.specialIn K (.builtin "object.__class__") "__get__" = some (some (.builtin "getset_descriptor.__get__")))
  (kk7:PySem.W.takesIn K (.builtin "object.__class__")=some true)
  (pg_SignIs:PySem.W.plainGet K C_SignIs Str.empty=true)
  (hd_SignIs:PySem.W.hasDictIn K C_SignIs=true)
  (po_SignIs:PySem.W.plainOver K C_SignIs=true)
  (sa_SignIs:PySem.W.findIn K (.ref C_SignIs) "__setattr__" = some (some (.builtin "object.__setattr__")))
  (ha_SignIs:PySem.W.findIn K (.ref C_SignIs) "__class__" = some (some (.builtin "object.__class__")))
  (hm_SignIs:PySem.W.mroIn K C_SignIs (.type "object")=some true)
  (h_is_SignIs:PySem.W.kitOne K (.ref C_SignIs) (.ref C_Statement)=some true)
  (h_na_SignIs_row:PySem.W.findIn K (.ref C_SignIs) "row" = some none)
  (h_na_SignIs_name:PySem.W.findIn K (.ref C_SignIs) "name" = some none)
  (h_na_SignIs_sign:PySem.W.findIn K (.ref C_SignIs) "sign" = some none)
  (mf_SignIs_init:PySem.W.findIn K (.ref C_SignIs) "__init__" = some (some (.ref f_SignIs_init)))
  (mi_SignIs_init:PySem.W.isFn K (.ref f_SignIs_init)=true)
  (mk_SignIs_init:PySem.W.keepIn K (.ref f_SignIs_init)=true)
  (ml_SignIs_init:K.lookup f_SignIs_init=some ⟨oc_SignIs_init,od_SignIs_init,.func (PySem.W.fnOf "__init__" "SignIs.__init__" (defArgs s_SignIs_init) (defBody s_SignIs_init) (defScope s_SignIs_init) .none kV_SignIs_init dc_SignIs_init pm_SignIs_init an_SignIs_init cd_SignIs_init ct_SignIs_init),sl_SignIs_init⟩)
  (mc_SignIs_init:PySem.W.codeIn K cd_SignIs_init "SignIs.__init__" = true)
  (mm_SignIs:PySem.W.makesIn K C_SignIs=true)
  (mp_SignIs:PySem.W.keepIn K (.ref C_SignIs)=true)
  (mf_SignIs_free:PySem.W.findIn K (.ref C_SignIs) "free" = some (some (.ref f_SignIs_free)))
  (mi_SignIs_free:PySem.W.isFn K (.ref f_SignIs_free)=true)
  (mk_SignIs_free:PySem.W.keepIn K (.ref f_SignIs_free)=true)
  (ml_SignIs_free:K.lookup f_SignIs_free=some ⟨oc_SignIs_free,od_SignIs_free,.func (PySem.W.fnOf "free" "SignIs.free" (defArgs s_SignIs_free) (defBody s_SignIs_free) (defScope s_SignIs_free) .none kV_SignIs_free dc_SignIs_free pm_SignIs_free an_SignIs_free cd_SignIs_free ct_SignIs_free),sl_SignIs_free⟩)
  (mc_SignIs_free:PySem.W.codeIn K cd_SignIs_free "SignIs.free" = true)
  (mf_SignIs_text:PySem.W.findIn K (.ref C_SignIs) "text" = some (some (.ref f_SignIs_text)))
  (mi_SignIs_text:PySem.W.isFn K (.ref f_SignIs_text)=true)
  (mk_SignIs_text:PySem.W.keepIn K (.ref f_SignIs_text)=true)
  (ml_SignIs_text:K.lookup f_SignIs_text=some ⟨oc_SignIs_text,od_SignIs_text,.func (PySem.W.fnOf "text" "SignIs.text" (defArgs s_SignIs_text) (defBody s_SignIs_text) (defScope s_SignIs_text) .none kV_SignIs_text dc_SignIs_text pm_SignIs_text an_SignIs_text cd_SignIs_text ct_SignIs_text),sl_SignIs_text⟩)
  (mc_SignIs_text:PySem.W.codeIn K cd_SignIs_text "SignIs.text" = true)
  (pg_SignsLike:PySem.W.plainGet K C_SignsLike Str.empty=true)
  (hd_SignsLike:PySem.W.hasDictIn K C_SignsLike=true)
  (po_SignsLike:PySem.W.plainOver K C_SignsLike=true)
  (sa_SignsLike:PySem.W.findIn K (.ref C_SignsLike) "__setattr__" = some (some (.builtin "object.__setattr__")))
  (ha_SignsLike:PySem.W.findIn K (.ref C_SignsLike) "__class__" = some (some (.builtin "object.__class__")))
  (hm_SignsLike:PySem.W.mroIn K C_SignsLike (.type "object")=some true)
  (h_is_SignsLike:PySem.W.kitOne K (.ref C_SignsLike) (.ref C_Statement)=some true)
  (h_na_SignsLike_row:PySem.W.findIn K (.ref C_SignsLike) "row" = some none)
  (h_na_SignsLike_name:PySem.W.findIn K (.ref C_SignsLike) "name" = some none)
  (h_na_SignsLike_other:PySem.W.findIn K (.ref C_SignsLike) "other" = some none)
  (h_na_SignsLike_second:PySem.W.findIn K (.ref C_SignsLike) "second" = some none)
  (mf_SignsLike_init:PySem.W.findIn K (.ref C_SignsLike) "__init__" = some (some (.ref f_SignsLike_init)))
  (mi_SignsLike_init:PySem.W.isFn K (.ref f_SignsLike_init)=true)
  (mk_SignsLike_init:PySem.W.keepIn K (.ref f_SignsLike_init)=true)
  (ml_SignsLike_init:K.lookup f_SignsLike_init=some ⟨oc_SignsLike_init,od_SignsLike_init,.func (PySem.W.fnOf "__init__" "SignsLike.__init__" (defArgs s_SignsLike_init) (defBody s_SignsLike_init) (defScope s_SignsLike_init) .none kV_SignsLike_init dc_SignsLike_init pm_SignsLike_init an_SignsLike_init cd_SignsLike_init ct_SignsLike_init),sl_SignsLike_init⟩)
  (mc_SignsLike_init:PySem.W.codeIn K cd_SignsLike_init "SignsLike.__init__" = true)
  (mm_SignsLike:PySem.W.makesIn K C_SignsLike=true)
  (mp_SignsLike:PySem.W.keepIn K (.ref C_SignsLike)=true)
  (mf_SignsLike_free:PySem.W.findIn K (.ref C_SignsLike) "free" = some (some (.ref f_SignsLike_free)))
  (mi_SignsLike_free:PySem.W.isFn K (.ref f_SignsLike_free)=true)
  (mk_SignsLike_free:PySem.W.keepIn K (.ref f_SignsLike_free)=true)
  (ml_SignsLike_free:K.lookup f_SignsLike_free=some ⟨oc_SignsLike_free,od_SignsLike_free,.func (PySem.W.fnOf "free" "SignsLike.free" (defArgs s_SignsLike_free) (defBody s_SignsLike_free) (defScope s_SignsLike_free) .none kV_SignsLike_free dc_SignsLike_free pm_SignsLike_free an_SignsLike_free cd_SignsLike_free ct_SignsLike_free),sl_SignsLike_free⟩)
  (mc_SignsLike_free:PySem.W.codeIn K cd_SignsLike_free "SignsLike.free" = true)
  (mf_SignsLike_text:PySem.W.findIn K (.ref C_SignsLike) "text" = some (some (.ref f_SignsLike_text)))
  (mi_SignsLike_text:PySem.W.isFn K (.ref f_SignsLike_text)=true)
  (mk_SignsLike_text:PySem.W.keepIn K (.ref f_SignsLike_text)=true)
  (ml_SignsLike_text:K.lookup f_SignsLike_text=some ⟨oc_SignsLike_text,od_SignsLike_text,.func (PySem.W.fnOf "text" "SignsLike.text" (defArgs s_SignsLike_text) (defBody s_SignsLike_text) (defScope s_SignsLike_text) .none kV_SignsLike_text dc_SignsLike_text pm_SignsLike_text an_SignsLike_text cd_SignsLike_text ct_SignsLike_text),sl_SignsLike_text⟩)
  (mc_SignsLike_text:PySem.W.codeIn K cd_SignsLike_text "SignsLike.text" = true)
  (pg_Sums:PySem.W.plainGet K C_Sums Str.empty=true)
  (hd_Sums:PySem.W.hasDictIn K C_Sums=true)
  (po_Sums:PySem.W.plainOver K C_Sums=true)
  (sa_Sums:PySem.W.findIn K (.ref C_Sums) "__setattr__" = some (some (.builtin "object.__setattr__")))
  (ha_Sums:PySem.W.findIn K (.ref C_Sums) "__class__" = some (some (.builtin "object.__class__")))
  (hm_Sums:PySem.W.mroIn K C_Sums (.type "object")=some true)
  (h_is_Sums:PySem.W.kitOne K (.ref C_Sums) (.ref C_Statement)=some true)
  (h_na_Sums_left:PySem.W.findIn K (.ref C_Sums) "left" = some none)
  (h_na_Sums_right:PySem.W.findIn K (.ref C_Sums) "right" = some none)
  (h_na_Sums_word:PySem.W.findIn K (.ref C_Sums) "word" = some none)
  (mf_Sums_init:PySem.W.findIn K (.ref C_Sums) "__init__" = some (some (.ref f_Sums_init)))
  (mi_Sums_init:PySem.W.isFn K (.ref f_Sums_init)=true)
  (mk_Sums_init:PySem.W.keepIn K (.ref f_Sums_init)=true)
  (ml_Sums_init:K.lookup f_Sums_init=some ⟨oc_Sums_init,od_Sums_init,.func (PySem.W.fnOf "__init__" "Sums.__init__" (defArgs s_Sums_init) (defBody s_Sums_init) (defScope s_Sums_init) .none kV_Sums_init dc_Sums_init pm_Sums_init an_Sums_init cd_Sums_init ct_Sums_init),sl_Sums_init⟩)
  (mc_Sums_init:PySem.W.codeIn K cd_Sums_init "Sums.__init__" = true)
  (mm_Sums:PySem.W.makesIn K C_Sums=true)
  (mp_Sums:PySem.W.keepIn K (.ref C_Sums)=true)
  (mf_Sums_free:PySem.W.findIn K (.ref C_Sums) "free" = some (some (.ref f_Sums_free)))
  (mi_Sums_free:PySem.W.isFn K (.ref f_Sums_free)=true)
  (mk_Sums_free:PySem.W.keepIn K (.ref f_Sums_free)=true)
  (ml_Sums_free:K.lookup f_Sums_free=some ⟨oc_Sums_free,od_Sums_free,.func (PySem.W.fnOf "free" "Sums.free" (defArgs s_Sums_free) (defBody s_Sums_free) (defScope s_Sums_free) .none kV_Sums_free dc_Sums_free pm_Sums_free an_Sums_free cd_Sums_free ct_Sums_free),sl_Sums_free⟩)
  (mc_Sums_free:PySem.W.codeIn K cd_Sums_free "Sums.free" = true)
  (mf_Sums_text:PySem.W.findIn K (.ref C_Sums) "text" = some (some (.ref f_Sums_text)))
  (mi_Sums_text:PySem.W.isFn K (.ref f_Sums_text)=true)
  (mk_Sums_text:PySem.W.keepIn K (.ref f_Sums_text)=true)
  (ml_Sums_text:K.lookup f_Sums_text=some ⟨oc_Sums_text,od_Sums_text,.func (PySem.W.fnOf "text" "Sums.text" (defArgs s_Sums_text) (defBody s_Sums_text) (defScope s_Sums_text) .none kV_Sums_text dc_Sums_text pm_Sums_text an_Sums_text cd_Sums_text ct_Sums_text),sl_Sums_text⟩)
  (mc_Sums_text:PySem.W.codeIn K cd_Sums_text "Sums.text" = true)
  (pg_PlaceIs:PySem.W.plainGet K C_PlaceIs Str.empty=true)
  (hd_PlaceIs:PySem.W.hasDictIn K C_PlaceIs=true)
  (po_PlaceIs:PySem.W.plainOver K C_PlaceIs=true)
  (sa_PlaceIs:PySem.W.findIn K (.ref C_PlaceIs) "__setattr__" = some (some (.builtin "object.__setattr__")))
  (ha_PlaceIs:PySem.W.findIn K (.ref C_PlaceIs) "__class__" = some (some (.builtin "object.__class__")))
  (hm_PlaceIs:PySem.W.mroIn K C_PlaceIs (.type "object")=some true)
  (h_is_PlaceIs:PySem.W.kitOne K (.ref C_PlaceIs) (.ref C_Statement)=some true)
  (h_na_PlaceIs_name:PySem.W.findIn K (.ref C_PlaceIs) "name" = some none)
  (h_na_PlaceIs_place:PySem.W.findIn K (.ref C_PlaceIs) "place" = some none)
  (mf_PlaceIs_init:PySem.W.findIn K (.ref C_PlaceIs) "__init__" = some (some (.ref f_PlaceIs_init)))
  (mi_PlaceIs_init:PySem.W.isFn K (.ref f_PlaceIs_init)=true)
  (mk_PlaceIs_init:PySem.W.keepIn K (.ref f_PlaceIs_init)=true)
  (ml_PlaceIs_init:K.lookup f_PlaceIs_init=some ⟨oc_PlaceIs_init,od_PlaceIs_init,.func (PySem.W.fnOf "__init__" "PlaceIs.__init__" (defArgs s_PlaceIs_init) (defBody s_PlaceIs_init) (defScope s_PlaceIs_init) .none kV_PlaceIs_init dc_PlaceIs_init pm_PlaceIs_init an_PlaceIs_init cd_PlaceIs_init ct_PlaceIs_init),sl_PlaceIs_init⟩)
  (mc_PlaceIs_init:PySem.W.codeIn K cd_PlaceIs_init "PlaceIs.__init__" = true)
  (mm_PlaceIs:PySem.W.makesIn K C_PlaceIs=true)
  (mp_PlaceIs:PySem.W.keepIn K (.ref C_PlaceIs)=true)
  (mf_PlaceIs_free:PySem.W.findIn K (.ref C_PlaceIs) "free" = some (some (.ref f_PlaceIs_free)))
  (mi_PlaceIs_free:PySem.W.isFn K (.ref f_PlaceIs_free)=true)
  (mk_PlaceIs_free:PySem.W.keepIn K (.ref f_PlaceIs_free)=true)
  (ml_PlaceIs_free:K.lookup f_PlaceIs_free=some ⟨oc_PlaceIs_free,od_PlaceIs_free,.func (PySem.W.fnOf "free" "PlaceIs.free" (defArgs s_PlaceIs_free) (defBody s_PlaceIs_free) (defScope s_PlaceIs_free) .none kV_PlaceIs_free dc_PlaceIs_free pm_PlaceIs_free an_PlaceIs_free cd_PlaceIs_free ct_PlaceIs_free),sl_PlaceIs_free⟩)
  (mc_PlaceIs_free:PySem.W.codeIn K cd_PlaceIs_free "PlaceIs.free" = true)
  (mf_PlaceIs_text:PySem.W.findIn K (.ref C_PlaceIs) "text" = some (some (.ref f_PlaceIs_text)))
  (mi_PlaceIs_text:PySem.W.isFn K (.ref f_PlaceIs_text)=true)
  (mk_PlaceIs_text:PySem.W.keepIn K (.ref f_PlaceIs_text)=true)
  (ml_PlaceIs_text:K.lookup f_PlaceIs_text=some ⟨oc_PlaceIs_text,od_PlaceIs_text,.func (PySem.W.fnOf "text" "PlaceIs.text" (defArgs s_PlaceIs_text) (defBody s_PlaceIs_text) (defScope s_PlaceIs_text) .none kV_PlaceIs_text dc_PlaceIs_text pm_PlaceIs_text an_PlaceIs_text cd_PlaceIs_text ct_PlaceIs_text),sl_PlaceIs_text⟩)
  (mc_PlaceIs_text:PySem.W.codeIn K cd_PlaceIs_text "PlaceIs.text" = true)
  {fL:Addr} {ocL kVL dcL pmL cdL ctL:Value} {odL anL:Option Addr} {slL:Array (Option Value)} (aL:PySem.W.nsIn K mainGlobals "law" = some (some (.ref fL))) (lL:K.lookup fL=some ⟨ocL,odL,.func (PySem.W.fnOf "law" "law" (defArgs s_law) (defBody s_law) (defScope s_law) .none kVL dcL pmL anL cdL ctL),slL⟩) (cL:PySem.W.codeIn K cdL "law" = true) (kL:PySem.W.keepIn K (.ref fL)=true) :
  ∃ fd:FuncData,(∀ (s:Shared) (v:Value),BindsTo s fd ⟨[v],[]⟩ [("_law_script",v)])∧∀ base:Heap,K.In base→base.Ns mainGlobals mg→base.BuiltinsAt mg mainGlobals→FnOk l.prog w K mg base (CXE l.prog w) 5 fa fd ["_law_script"] (sp_lawT K):=by
 have e:=hfa.symm.trans (PySem.W.mg_of X G aL)
 cases e
 have T:Txt K mg:=⟨PySem.W.mg_none_of X G z_bool,
  PySem.W.mg_none_of X G z_int,
  PySem.W.mg_none_of X G z_isinstance,
  PySem.W.mg_none_of X G z_len,
  PySem.W.mg_none_of X G z_list,
  PySem.W.mg_none_of X G z_range,
  PySem.W.mg_none_of X G z_set,
  PySem.W.mg_none_of X G z_sorted,
  PySem.W.mg_none_of X G z_str,
  PySem.W.mg_none_of X G z_tuple,
  tx_mk X G a0 l0 c0 k0 (len_1 fun _=>rfl),
  tx_mk X G a1 l1 c1 k1 (len_1 fun _=>rfl),
  tx_mk X G a2 l2 c2 k2 (len_2 fun _ _=>rfl),
  tx_mk X G a3 l3 c3 k3 (len_1 fun _=>rfl),
  tx_mk X G a4 l4 c4 k4 (len_1 fun _=>rfl),
  tx_mk X G a5 l5 c5 k5 (len_3 fun _ _ _=>rfl),
  tx_mk X G a6 l6 c6 k6 (len_1 fun _=>rfl),
  ⟨C_Statement,C_SignIs,C_SignsLike,C_Sums,C_PlaceIs,⟨PySem.W.mg_of X G cc_Statement,PySem.W.mg_of X G cc_SignIs,PySem.W.mg_of X G cc_SignsLike,PySem.W.mg_of X G cc_Sums,PySem.W.mg_of X G cc_PlaceIs,⟨⟨pg_SignIs,hd_SignIs,po_SignIs,sa_SignIs⟩,ha_SignIs,kk6,kk7,hm_SignIs⟩,h_is_SignIs,h_na_SignIs_row,h_na_SignIs_name,h_na_SignIs_sign,⟨f_SignIs_init,_,⟨mm_SignIs,mf_SignIs_init,mi_SignIs_init,mp_SignIs⟩,⟨⟨oc_SignIs_init,od_SignIs_init,kV_SignIs_init,dc_SignIs_init,pm_SignIs_init,an_SignIs_init,cd_SignIs_init,ct_SignIs_init,sl_SignIs_init,rfl,ml_SignIs_init,mc_SignIs_init⟩,mk_SignIs_init⟩,.all fun us hl=>match us,hl with|[_,_,_,_],_=>rfl⟩,⟨f_SignIs_free,_,⟨mf_SignIs_free,mi_SignIs_free,mk_SignIs_free⟩,⟨⟨oc_SignIs_free,od_SignIs_free,kV_SignIs_free,dc_SignIs_free,pm_SignIs_free,an_SignIs_free,cd_SignIs_free,ct_SignIs_free,sl_SignIs_free,rfl,ml_SignIs_free,mc_SignIs_free⟩,mk_SignIs_free⟩,.all fun us hl=>match us,hl with|[_],_=>rfl⟩,⟨f_SignIs_text,_,⟨mf_SignIs_text,mi_SignIs_text,mk_SignIs_text⟩,⟨⟨oc_SignIs_text,od_SignIs_text,kV_SignIs_text,dc_SignIs_text,pm_SignIs_text,an_SignIs_text,cd_SignIs_text,ct_SignIs_text,sl_SignIs_text,rfl,ml_SignIs_text,mc_SignIs_text⟩,mk_SignIs_text⟩,.all fun us hl=>match us,hl with|[_],_=>rfl⟩,⟨⟨pg_SignsLike,hd_SignsLike,po_SignsLike,sa_SignsLike⟩,ha_SignsLike,kk6,kk7,hm_SignsLike⟩,h_is_SignsLike,h_na_SignsLike_row,h_na_SignsLike_name,h_na_SignsLike_other,h_na_SignsLike_second,⟨f_SignsLike_init,_,⟨mm_SignsLike,mf_SignsLike_init,mi_SignsLike_init,mp_SignsLike⟩,⟨⟨oc_SignsLike_init,od_SignsLike_init,kV_SignsLike_init,dc_SignsLike_init,pm_SignsLike_init,an_SignsLike_init,cd_SignsLike_init,ct_SignsLike_init,sl_SignsLike_init,rfl,ml_SignsLike_init,mc_SignsLike_init⟩,mk_SignsLike_init⟩,.all fun us hl=>match us,hl with|[_,_,_,_,_],_=>rfl⟩,⟨f_SignsLike_free,_,⟨mf_SignsLike_free,mi_SignsLike_free,mk_SignsLike_free⟩,⟨⟨oc_SignsLike_free,od_SignsLike_free,kV_SignsLike_free,dc_SignsLike_free,pm_SignsLike_free,an_SignsLike_free,cd_SignsLike_free,ct_SignsLike_free,sl_SignsLike_free,rfl,ml_SignsLike_free,mc_SignsLike_free⟩,mk_SignsLike_free⟩,.all fun us hl=>match us,hl with|[_],_=>rfl⟩,⟨f_SignsLike_text,_,⟨mf_SignsLike_text,mi_SignsLike_text,mk_SignsLike_text⟩,⟨⟨oc_SignsLike_text,od_SignsLike_text,kV_SignsLike_text,dc_SignsLike_text,pm_SignsLike_text,an_SignsLike_text,cd_SignsLike_text,ct_SignsLike_text,sl_SignsLike_text,rfl,ml_SignsLike_text,mc_SignsLike_text⟩,mk_SignsLike_text⟩,.all fun us hl=>match us,hl with|[_],_=>rfl⟩,⟨⟨pg_Sums,hd_Sums,po_Sums,sa_Sums⟩,ha_Sums,kk6,kk7,hm_Sums⟩,h_is_Sums,h_na_Sums_left,h_na_Sums_right,h_na_Sums_word,⟨f_Sums_init,_,⟨mm_Sums,mf_Sums_init,mi_Sums_init,mp_Sums⟩,⟨⟨oc_Sums_init,od_Sums_init,kV_Sums_init,dc_Sums_init,pm_Sums_init,an_Sums_init,cd_Sums_init,ct_Sums_init,sl_Sums_init,rfl,ml_Sums_init,mc_Sums_init⟩,mk_Sums_init⟩,.all fun us hl=>match us,hl with|[_,_,_,_],_=>rfl⟩,⟨f_Sums_free,_,⟨mf_Sums_free,mi_Sums_free,mk_Sums_free⟩,⟨⟨oc_Sums_free,od_Sums_free,kV_Sums_free,dc_Sums_free,pm_Sums_free,an_Sums_free,cd_Sums_free,ct_Sums_free,sl_Sums_free,rfl,ml_Sums_free,mc_Sums_free⟩,mk_Sums_free⟩,.all fun us hl=>match us,hl with|[_],_=>rfl⟩,⟨f_Sums_text,_,⟨mf_Sums_text,mi_Sums_text,mk_Sums_text⟩,⟨⟨oc_Sums_text,od_Sums_text,kV_Sums_text,dc_Sums_text,pm_Sums_text,an_Sums_text,cd_Sums_text,ct_Sums_text,sl_Sums_text,rfl,ml_Sums_text,mc_Sums_text⟩,mk_Sums_text⟩,.all fun us hl=>match us,hl with|[_],_=>rfl⟩,⟨⟨pg_PlaceIs,hd_PlaceIs,po_PlaceIs,sa_PlaceIs⟩,ha_PlaceIs,kk6,kk7,hm_PlaceIs⟩,h_is_PlaceIs,h_na_PlaceIs_name,h_na_PlaceIs_place,⟨f_PlaceIs_init,_,⟨mm_PlaceIs,mf_PlaceIs_init,mi_PlaceIs_init,mp_PlaceIs⟩,⟨⟨oc_PlaceIs_init,od_PlaceIs_init,kV_PlaceIs_init,dc_PlaceIs_init,pm_PlaceIs_init,an_PlaceIs_init,cd_PlaceIs_init,ct_PlaceIs_init,sl_PlaceIs_init,rfl,ml_PlaceIs_init,mc_PlaceIs_init⟩,mk_PlaceIs_init⟩,.all fun us hl=>match us,hl with|[_,_,_],_=>rfl⟩,⟨f_PlaceIs_free,_,⟨mf_PlaceIs_free,mi_PlaceIs_free,mk_PlaceIs_free⟩,⟨⟨oc_PlaceIs_free,od_PlaceIs_free,kV_PlaceIs_free,dc_PlaceIs_free,pm_PlaceIs_free,an_PlaceIs_free,cd_PlaceIs_free,ct_PlaceIs_free,sl_PlaceIs_free,rfl,ml_PlaceIs_free,mc_PlaceIs_free⟩,mk_PlaceIs_free⟩,.all fun us hl=>match us,hl with|[_],_=>rfl⟩,⟨f_PlaceIs_text,_,⟨mf_PlaceIs_text,mi_PlaceIs_text,mk_PlaceIs_text⟩,⟨⟨oc_PlaceIs_text,od_PlaceIs_text,kV_PlaceIs_text,dc_PlaceIs_text,pm_PlaceIs_text,an_PlaceIs_text,cd_PlaceIs_text,ct_PlaceIs_text,sl_PlaceIs_text,rfl,ml_PlaceIs_text,mc_PlaceIs_text⟩,mk_PlaceIs_text⟩,.all fun us hl=>match us,hl with|[_],_=>rfl⟩⟩⟩⟩
 exact⟨PySem.W.fnOf "law" "law" (defArgs s_law) (defBody s_law) (defScope s_law) .none kVL dcL pmL anL cdL ctL,fun s v=>.of_eq rfl,fun base _ _ B=>ok_law T ⟨⟨ocL,odL,kVL,dcL,pmL,anL,cdL,ctL,slL,rfl,lL,cL⟩,kL⟩⟩
theorem walk{l:PySem.W.OpenLaw}{q:Program}{loose:List Str}{XP:(Str→Option Value)→Heap→Prop}{YP:World→Heap→Prop}{d:DefRec}{K:Params→W.Frag}(hn:l.most=some 63)(hdf:d.params.defaults=[])
  (hY:∀ (w:World) (h:Heap),YP w h→(K w.params).In h) (hYt:∀ (w:World) (h:Heap),YP w h→∀ p∈ts0,h.get? p.1=some (PySem.W.tabObj #[])) (hK:∀ (w:World) (p:Addr×(Nat→Nat→Str)),p∈ts0→(K w.params).lookup p.1=none∧∃ c,PySem.W.codeHdIn (K w.params) c p.1=true)
  (F:∀ (w:World) (mg:Str→Option Value) (fa:Addr) (h:Heap),(K w.params).In h→h.Ns mainGlobals mg→mg d.name=some (.ref fa) →
   ∃ fd:FuncData,(∀ (s:Shared) (u:Value),BindsTo s fd ⟨[u],[]⟩ [("_law_script",u)])∧∀ base:Heap,(K w.params).In base→base.Ns mainGlobals mg→base.BuiltinsAt mg mainGlobals→FnOk l.prog w (K w.params) mg base (CXE l.prog w) 5 fa fd ["_law_script"] (sp_lawT (K w.params))) :
  PySem.W.WalkO q loose XP YP l.row.toRowW d [] (fun f vs=>PySem.call f vs) :=
 L2.walk_ofT (ts:=ts0) (n:=63) (k:=5) (x := "_law_script") (CX:=fun w=>CXE l.prog w) (sp:=fun w=>sp_lawT (K w.params)) (by decide) hn (by decide) hdf ⟨rfl,by decide,by decide⟩ hY hYt hK F (fun _ _ a ns hl hb hT hS=>⟨hT,a,ns,rfl,hS,hl,hb,fun _ m=>⟨rfl,m⟩⟩) fun _ _ _ _ _ ⟨_,_,_,_,_,_,_,_,_,_,_,_,_,z⟩=>z
end K50
namespace PySem.W.Fast
theorem tw6830216586224930327:True:=⟨⟩
theorem tw7216638311562993573:True:=⟨⟩
theorem tw7556912101691457322:True:=⟨⟩
theorem tw12888398818735311823:True:=⟨⟩
theorem tw1820252637935979729:True:=⟨⟩
theorem tw9462607456033726874:True:=⟨⟩
theorem tw9917906238712480544:True:=⟨⟩
theorem tw17151849736504962625:True:=⟨⟩
theorem tw17025160852205130327:True:=⟨⟩
theorem tw6434427756177587604:True:=⟨⟩
theorem tw10092607998612604063:True:=⟨⟩
theorem tw13221461864617156221:True:=⟨⟩
theorem tw16697455501615388465:True:=⟨⟩
theorem tw308869106561974782:True:=⟨⟩
theorem tw15505579419142986947:True:=⟨⟩
theorem tw11130720055218526832:True:=⟨⟩
theorem tw8776589428239958956:True:=⟨⟩
theorem tw13489843091903191851:True:=⟨⟩
theorem tw15909921405245869539:True:=⟨⟩
theorem tw5232051478546906254:True:=⟨⟩
theorem tw18390649678513344509:True:=⟨⟩
theorem tw5806880988991514964:True:=⟨⟩
theorem tw1328287318834647126:True:=⟨⟩
theorem tw2235934661428630049:True:=⟨⟩
theorem tw4717126360155559620:True:=⟨⟩
theorem tw634688274471322920:True:=⟨⟩
theorem tw18135258208511724888:True:=⟨⟩
theorem tw15028701370869094460:True:=⟨⟩
theorem tw17348822349912944067:True:=⟨⟩
theorem tw6229822818852887715:True:=⟨⟩
theorem tw9247184673633104515:True:=⟨⟩
theorem tw8619779707993088906:True:=⟨⟩
theorem tw6415306723460708448:True:=⟨⟩
theorem tw11556461071118336172:True:=⟨⟩
theorem tw16482907652979399780:True:=⟨⟩
theorem tw779114486253609615:True:=⟨⟩
theorem tw9583895539616849997:True:=⟨⟩
theorem tw12033160070708309165:True:=⟨⟩
theorem tw12300851362628919623:True:=⟨⟩
theorem tw7758537684461193344:True:=⟨⟩
theorem tw8895616366601549249:True:=⟨⟩
theorem tw8373977017711731330:True:=⟨⟩
theorem tw14860195831141706664:True:=⟨⟩
theorem tw5418204187670207111:True:=⟨⟩
theorem tw1718495734055481919:True:=⟨⟩
theorem tw8214081295389074995:True:=⟨⟩
theorem tw463346828046671453:True:=⟨⟩
theorem tw5324833384341634334:True:=⟨⟩
theorem tw13336693323696705961:True:=⟨⟩
theorem tw16305073707455461287:True:=⟨⟩
theorem tw11017492745302748429:True:=⟨⟩
theorem tw895235405903074979:True:=⟨⟩
theorem tw6984474321457419778:True:=⟨⟩
theorem tw8933629062377606447:True:=⟨⟩
theorem tw7599499448024716204:True:=⟨⟩
theorem tw4233535438201469571:True:=⟨⟩
theorem tw5202729887053806767:True:=⟨⟩
theorem tw5264825052046954071:True:=⟨⟩
theorem tw15242354790351160826:True:=⟨⟩
theorem tw14657883220496303298:True:=⟨⟩
theorem tw7054735645782646038:True:=⟨⟩
theorem tw16797444400323439689:True:=⟨⟩
theorem tw8990374566366203320:True:=⟨⟩
theorem tw333214751423565795:True:=⟨⟩
theorem tw14712332970727544694:True:=⟨⟩
theorem tw9092174891708936168:True:=⟨⟩
theorem tw9703837363276341774:True:=⟨⟩
theorem tw7706436535377837781:True:=⟨⟩
theorem tw13042051399786892863:True:=⟨⟩
theorem tw12875828251338865865:True:=⟨⟩
theorem tw8138020985198296823:True:=⟨⟩
theorem tw14282888147171455464:True:=⟨⟩
theorem tw1594458796078437646:True:=⟨⟩
theorem tw10441935604933198620:True:=⟨⟩
theorem tw15632369410885887907:True:=⟨⟩
theorem tw4005835386827270918:True:=⟨⟩
theorem tw4689261923538382634:True:=⟨⟩
theorem tw11293325043475979446:True:=⟨⟩
theorem tw17568604938649141938:True:=⟨⟩
theorem tw3776130049521757997:True:=⟨⟩
theorem tw12653160826109777910:True:=⟨⟩
theorem tw8346396149942214192:True:=⟨⟩
theorem tw5952345345717445796:True:=⟨⟩
theorem tw18418611613118710991:True:=⟨⟩
theorem tw8188725025864286926:True:=⟨⟩
theorem tw6108250806081820309:True:=⟨⟩
theorem tw12941266550639711748:True:=⟨⟩
theorem tw10547762664682956678:True:=⟨⟩
theorem tw3951403987695328378:True:=⟨⟩
theorem tw17556559073432074151:True:=⟨⟩
theorem tw4122195509816030473:True:=⟨⟩
theorem tw5471799347492896256:True:=⟨⟩
theorem tw4098475132339607567:True:=⟨⟩
theorem tw16365116460260635434:True:=⟨⟩
theorem tw1443642326218689691:True:=⟨⟩
theorem tw4344857408245387252:True:=⟨⟩
theorem tw613065193133529126:True:=⟨⟩
theorem tw7611731395438552161:True:=⟨⟩
end PySem.W.Fast
open PySem PySem.W PyProof.Rows
set_option maxRecDepth 100000 in
set_option maxHeartbeats 0 in
theorem PySem.Challenge.cw_figurewheel_k50_leaves_told_holds : PySem.Challenge.rw_figurewheel_k50_leaves_told.Holds := by
 w_on;o_law;k_head;(case hw=>w_witness2)
 k_fill
 refine K50.walk (l:=PySem.Challenge.rw_figurewheel_k50_leaves_told) rfl rfl (fun w h Y=>PySem.W.kIn_of Y) (fun _ _ _ _ hp=>nomatch hp) (fun _ _ hp=>nomatch hp) ?F
 case F =>
  intro w mg fa h KX G hmg
  refine' K50.all_mk KX G hmg ?z_bool ?z_int ?z_isinstance ?z_len ?z_list ?z_range ?z_set ?z_sorted ?z_str ?z_tuple ?a0 ?l0 ?c0 ?k0 ?a1 ?l1 ?c1 ?k1 ?a2 ?l2 ?c2 ?k2 ?a3 ?l3 ?c3 ?k3 ?a4 ?l4 ?c4 ?k4 ?a5 ?l5 ?c5 ?k5 ?a6 ?l6 ?c6 ?k6 ?cc_Statement ?cc_SignIs ?cc_SignsLike ?cc_Sums ?cc_PlaceIs ?kk6 ?kk7 ?pg_SignIs ?hd_SignIs ?po_SignIs ?sa_SignIs ?ha_SignIs ?hm_SignIs ?h_is_SignIs ?h_na_SignIs_row ?h_na_SignIs_name ?h_na_SignIs_sign ?mf_SignIs_init ?mi_SignIs_init ?mk_SignIs_init ?ml_SignIs_init ?mc_SignIs_init ?mm_SignIs ?mp_SignIs ?mf_SignIs_free ?mi_SignIs_free ?mk_SignIs_free ?ml_SignIs_free ?mc_SignIs_free ?mf_SignIs_text ?mi_SignIs_text ?mk_SignIs_text ?ml_SignIs_text ?mc_SignIs_text ?pg_SignsLike ?hd_SignsLike ?po_SignsLike ?sa_SignsLike ?ha_SignsLike ?hm_SignsLike ?h_is_SignsLike ?h_na_SignsLike_row ?h_na_SignsLike_name ?h_na_SignsLike_other ?h_na_SignsLike_second ?mf_SignsLike_init ?mi_SignsLike_init ?mk_SignsLike_init ?ml_SignsLike_init ?mc_SignsLike_init ?mm_SignsLike ?mp_SignsLike ?mf_SignsLike_free ?mi_SignsLike_free ?mk_SignsLike_free ?ml_SignsLike_free ?mc_SignsLike_free ?mf_SignsLike_text ?mi_SignsLike_text ?mk_SignsLike_text ?ml_SignsLike_text ?mc_SignsLike_text ?pg_Sums ?hd_Sums ?po_Sums ?sa_Sums ?ha_Sums ?hm_Sums ?h_is_Sums ?h_na_Sums_left ?h_na_Sums_right ?h_na_Sums_word ?mf_Sums_init ?mi_Sums_init ?mk_Sums_init ?ml_Sums_init ?mc_Sums_init ?mm_Sums ?mp_Sums ?mf_Sums_free ?mi_Sums_free ?mk_Sums_free ?ml_Sums_free ?mc_Sums_free ?mf_Sums_text ?mi_Sums_text ?mk_Sums_text ?ml_Sums_text ?mc_Sums_text ?pg_PlaceIs ?hd_PlaceIs ?po_PlaceIs ?sa_PlaceIs ?ha_PlaceIs ?hm_PlaceIs ?h_is_PlaceIs ?h_na_PlaceIs_name ?h_na_PlaceIs_place ?mf_PlaceIs_init ?mi_PlaceIs_init ?mk_PlaceIs_init ?ml_PlaceIs_init ?mc_PlaceIs_init ?mm_PlaceIs ?mp_PlaceIs ?mf_PlaceIs_free ?mi_PlaceIs_free ?mk_PlaceIs_free ?ml_PlaceIs_free ?mc_PlaceIs_free ?mf_PlaceIs_text ?mi_PlaceIs_text ?mk_PlaceIs_text ?ml_PlaceIs_text ?mc_PlaceIs_text ?aL ?lL ?cL ?kL
  (case z_bool|z_int|z_isinstance|z_len|z_list|z_range|z_set|z_sorted|z_str|z_tuple|a0|l0|c0|k0|a1|l1|c1|k1|a2|l2|c2|k2|a3|l3|c3|k3|a4|l4|c4|k4|a5|l5|c5|k5|a6|l6|c6|k6|cc_Statement|cc_SignIs|cc_SignsLike|cc_Sums|cc_PlaceIs|kk6|kk7|pg_SignIs|hd_SignIs =>k_is)
  (case po_SignIs=>kernel_rfl)
  (case sa_SignIs|ha_SignIs|hm_SignIs =>k_is)
  (case h_is_SignIs=>kit_is)
  (case h_na_SignIs_row|h_na_SignIs_name|h_na_SignIs_sign|mf_SignIs_init|mi_SignIs_init|mk_SignIs_init|ml_SignIs_init|mc_SignIs_init =>k_is)
  (case mm_SignIs=>kernel_rfl)
  (case mp_SignIs|mf_SignIs_free|mi_SignIs_free|mk_SignIs_free|ml_SignIs_free|mc_SignIs_free|mf_SignIs_text|mi_SignIs_text|mk_SignIs_text|ml_SignIs_text|mc_SignIs_text|pg_SignsLike|hd_SignsLike =>k_is)
  (case po_SignsLike=>kernel_rfl)
  (case sa_SignsLike|ha_SignsLike|hm_SignsLike =>k_is)
  (case h_is_SignsLike=>kit_is)
  (case h_na_SignsLike_row|h_na_SignsLike_name|h_na_SignsLike_other|h_na_SignsLike_second|mf_SignsLike_init|mi_SignsLike_init|mk_SignsLike_init|ml_SignsLike_init|mc_SignsLike_init =>k_is)
  (case mm_SignsLike=>kernel_rfl)
  (case mp_SignsLike|mf_SignsLike_free|mi_SignsLike_free|mk_SignsLike_free|ml_SignsLike_free|mc_SignsLike_free|mf_SignsLike_text|mi_SignsLike_text|mk_SignsLike_text|ml_SignsLike_text|mc_SignsLike_text|pg_Sums|hd_Sums =>k_is)
  (case po_Sums=>kernel_rfl)
  (case sa_Sums|ha_Sums|hm_Sums =>k_is)
  (case h_is_Sums=>kit_is)
  (case h_na_Sums_left|h_na_Sums_right|h_na_Sums_word|mf_Sums_init|mi_Sums_init|mk_Sums_init|ml_Sums_init|mc_Sums_init =>k_is)
  (case mm_Sums=>kernel_rfl)
  (case mp_Sums|mf_Sums_free|mi_Sums_free|mk_Sums_free|ml_Sums_free|mc_Sums_free|mf_Sums_text|mi_Sums_text|mk_Sums_text|ml_Sums_text|mc_Sums_text|pg_PlaceIs|hd_PlaceIs =>k_is)
  (case po_PlaceIs=>kernel_rfl)
  (case sa_PlaceIs|ha_PlaceIs|hm_PlaceIs =>k_is)
  (case h_is_PlaceIs=>kit_is)
  (case h_na_PlaceIs_name|h_na_PlaceIs_place|mf_PlaceIs_init|mi_PlaceIs_init|mk_PlaceIs_init|ml_PlaceIs_init|mc_PlaceIs_init =>k_is)
  (case mm_PlaceIs=>kernel_rfl)
  (case mp_PlaceIs|mf_PlaceIs_free|mi_PlaceIs_free|mk_PlaceIs_free|ml_PlaceIs_free|mc_PlaceIs_free|mf_PlaceIs_text|mi_PlaceIs_text|mk_PlaceIs_text|ml_PlaceIs_text|mc_PlaceIs_text|aL|lL|cL|kL =>k_is)
end
