import PyProof.Rows.All
import Wide.All
import OpenK.AllK
import Wide.FinOn
import PyProof.EqAt
import PyProof.EqKinds
import PyProof.TupleCall
import PyProof.ExcBaseAll.ValueError
import PyProof.ExcArgsOwn
import PyProof.ExcInit
import PyProof.InstStoreFacts
import Lean
import PySem.Challenge.RW_figurewheel_k24_spaced
set_option linter.all false
set_option Elab.async false
set_option maxRecDepth 100000
set_option maxHeartbeats 4000000
set_option bootstrap.genMatcherCode false
namespace L2
open PySem PySem.Spec PyProof.Rows
noncomputable abbrev Key:=Sum Int Str
noncomputable def keyIs:Key→Value→Bool
 | .inl k,v=>Value.isInt k v
 | .inr x,v=>Value.isStrOf x v
noncomputable def keyH(w:World):Key→Int
 | .inl k=>hashInt k
 | .inr x=>hashStr w x
theorem ZaR:∀ {k:Key} {v:Value},keyIs k v=true→(∃ i t,k=Sum.inl i∧v=Value.int i t)∨(∃ x t,k=Sum.inr x∧v=Value.str x t)
 | .inl i,v,h=>by
  obtain⟨t,e⟩:=Value.isInt_shape (k:=i) (v:=v) h
  exact .inl ⟨i,t,rfl,e⟩
 | .inr x,v,h=>by
  obtain⟨t,e⟩:=Value.isStrOf_shape (x:=x) (v:=v) h
  exact .inr ⟨x,t,rfl,e⟩
theorem Zhy(i:Int)(t:Tok):keyIs (.inl i) (.int i t)=true:=by simp[keyIs,Value.isInt]
theorem Zhz(x:Str)(t:Tok):keyIs (.inr x) (.str x t)=true:=by simp[keyIs,Value.isStrOf]
theorem Zmc(a b:Int):decide ((Sum.inl a:Key)=Sum.inl b)=(a == b):=by
 by_cases e:a=b
 ·subst e;simp
 ·have h:¬ (Sum.inl a:Key)=Sum.inl b:=fun q=>e (Sum.inl.inj q)
  rw[decide_eq_false h]
  exact (beq_eq_false_iff_ne.mpr e).symm
theorem Zmd(a b:Str):decide ((Sum.inr a:Key)=Sum.inr b)=decide (a=b):=by
 by_cases e:a=b
 ·subst e;simp
 ·have h:¬ (Sum.inr a:Key)=Sum.inr b:=fun q=>e (Sum.inr.inj q)
  rw[decide_eq_false h,decide_eq_false e]
theorem Zme(a:Int)(b:Str):decide ((Sum.inl a:Key)=Sum.inr b)=false:=decide_eq_false (fun q=>nomatch q)
theorem Zmf(a:Str)(b:Int):decide ((Sum.inr a:Key)=Sum.inl b)=false:=decide_eq_false (fun q=>nomatch q)
noncomputable def mixKind(prog:Program)(w:World):PySem.KeyKind prog w Key where
 is:=keyIs
 hash:=keyH w
 inj:=fun v a b ha hb=>by
  rcases ZaR ha with⟨i,t,rfl,rfl⟩|⟨x,t,rfl,rfl⟩
  ·rcases ZaR hb with⟨j,u,rfl,e⟩|⟨y,u,rfl,e⟩
   ·injection e with e1 _;rw[e1]
   ·exact nomatch e
  ·rcases ZaR hb with⟨j,u,rfl,e⟩|⟨y,u,rfl,e⟩
   ·exact nomatch e
   ·injection e with e1 _;rw[e1]
 byValue:=fun k v h=>by
  rcases ZaR h with⟨i,t,rfl,rfl⟩|⟨x,t,rfl,rfl⟩<;>rfl
 pyHash:=fun hv h=>by
  rcases ZaR hv with⟨i,t,rfl,rfl⟩|⟨x,t,rfl,rfl⟩
  ·exact wpAny_pyHash_int h
  ·exact wpAny_pyHash_str h
 eqBool:=fun hu hv h=>by
  rcases ZaR hu with⟨i,t,rfl,rfl⟩|⟨x,t,rfl,rfl⟩
  ·rcases ZaR hv with⟨j,u,rfl,rfl⟩|⟨y,u,rfl,rfl⟩
   ·rw[Zmc] at h;exact wpAny_eqBool_int h
   ·rw[Zme] at h;exact SeqAt.EqAt.int_str i t y u _ _ _ _ h
  ·rcases ZaR hv with⟨j,u,rfl,rfl⟩|⟨y,u,rfl,rfl⟩
   ·rw[Zmf] at h;exact SeqAt.EqAt.str_int x t j u _ _ _ _ h
   ·rw[Zmd] at h;exact wpAny_eqBool_str h
 «strs»:=fun k x t v h=>by
  rcases ZaR h with⟨i,u,rfl,e⟩|⟨y,u,rfl,e⟩
  ·exact nomatch e
  ·injection e with e1 _
   subst e1
   cases v<;>rfl
theorem ZfX(prog:Program)(w:World)(i:Int)(t:Tok):(mixKind prog w).is (.inl i) (.int i t)=true:=Zhy i t
theorem ZfY(prog:Program)(w:World)(x:Str)(t:Tok):(mixKind prog w).is (.inr x) (.str x t)=true:=Zhz x t
end L2
namespace PySem
section
variable{prog:Program}{w:World}{KT:Type}[DecidableEq KT](kd:KeyKind prog w KT)
noncomputable def PairAt(h:Heap)(z:KT×List KT)(a:Addr):Prop :=
 ∃ (ob:Obj) (its:Array Value) (c:Nat) (u:Value) (b:Addr),h.get? a=some ob∧ob.cls=.type "tuple" ∧ ob.data=.seq its c∧its.toList=[u,.ref b]∧kd.is z.1 u=true∧IsTupleKey kd h z.2 b
noncomputable def pairHash(z:KT×List KT):Int:=reduceHash (Builtin.Tuple.tupleHashOf [kd.hash z.1,tupleKeyHash kd z.2])
variable{kd}
theorem PairAt.tp{s:Shared}{z:KT×List KT}{a:Addr}(x:PairAt kd s.heap z a):s.TypeIs (.ref a) "tuple" :=
 let ⟨ob,_,_,_,_,e,hc,_⟩:=x;⟨ob,e,hc⟩
theorem PairAt.one{h:Heap}{a:Addr}{y z:KT×List KT}(hy:PairAt kd h y a)(hz:PairAt kd h z a):y=z:=by
 obtain⟨o1,i1,c1,u1,b1,e1,_,d1,l1,f1,g1⟩:=hy
 obtain⟨o2,i2,c2,u2,b2,e2,_,d2,l2,f2,g2⟩:=hz
 rw[e1] at e2
 cases e2
 rw[d1] at d2
 cases d2
 rw[l1] at l2
 cases l2
 exact Prod.ext (kd.inj _ _ _ f1 f2) (g1.inj g2)
theorem PairAt.stay{h h':Heap}{z:KT×List KT}{a d:Addr}{ob:Obj}{es ep}(x:PairAt kd h z a)(hd:h.get? d=some ob)(hx:ob.data=.dict es ep)(hs:Heap.SameBut d h h'):PairAt kd h' z a:=by
 obtain⟨o1,i1,c1,u1,b1,e1,k1,d1,l1,f1,g1⟩:=x
 have ne:a≠d:=fun q=>by
  subst q
  rw[e1] at hd
  cases hd
  rw[d1] at hx
  cases hx
 exact⟨o1,i1,c1,u1,b1,(hs.2 a ne).trans e1,k1,d1,l1,f1,g1.keeps hd hx hs⟩
variable{A:Around}{E:Value→Shared→Prop}{s:Shared}
theorem ZhA{z:KT×List KT}{a:Addr}{Q:Int→Shared→Prop}(hv:A.units<cLine∧A.in1.units<cLine)(hz:PairAt kd s.heap z a)(q:Q (pairHash kd z) { s with toks:=s.toks+(z.2.length+3) }) :
  wpAny (model prog w) A (pyHash (.ref a)) Q E s:=by
 have tp:=hz.tp
 obtain⟨ob,its,c,u,b,e1,_,d1,l1,f1,g1⟩:=hz
 unfold pyHash
 unfold pyHashByItsType
 refine wpAny_bind (wpAny_cRoomFor_or (.inr hv.1) ?_)
 refine wpAny_bind (wpAny_specialOf tp F.slot_tuple_hash.lookup ?_)
 show wpAny _ A (if (some (Value.builtin "tuple.__hash__") == some Value.none)=true then _ else _) Q E s
 rw[if_neg (by rw[beq_builtin_none];exact Bool.false_ne_true)]
 refine wpAny_bind (wpAny_specialOf tp F.slot_tuple_hash.lookup ?_)
 show wpAny _ A (callSpecialIfBoundUnlessNone? (.ref a) "__hash__" _ >>= _) Q E s
 refine wpAny_bind (wpAny_callSpecialIfBoundUnlessNone?_slot tp F.slot_tuple_hash (wpAny_call_entry F.slot_tuple_hash tp F.entry_tuple_hash ?_ (F.args_tuple_hash_1 _)))
 show wpAny _ _ (Builtin.Tuple.tupleItemsOf (.ref a) >>= _) _ _ s
 refine wpAny_bind (wpAny_tupleItemsOf e1 d1 ?_)
 refine wpAny_bind ?_
 rw[← Array.forIn_toList,l1]
 refine wpAny_forIn_list _
  (fun rest (acc:Array Int) s'=>(rest=[u,.ref b]∧acc.toList=[]∧s'=s)∨(rest=[.ref b]∧acc.toList=[kd.hash z.1]∧s'={ s with toks:=s.toks+1 })∨(rest=[]∧acc.toList=[kd.hash z.1,tupleKeyHash kd z.2]∧s'={ s with toks:=s.toks+(z.2.length+2) }))
  _ ?_ ?_ _ _ (.inl ⟨rfl,rfl,rfl⟩)
 ·rintro x rest acc s' (⟨r1,r2,rfl⟩|⟨r1,r2,rfl⟩|⟨r1,_⟩)
  ·cases r1
   refine wpAny_bind (kd.pyHash f1 ?_)
   first
    | exact wpAny_pure (.inr (.inl ⟨rfl,by simp[r2],rfl⟩))
    | exact wpAny_bind (wpAny_pure (wpAny_pure (.inr (.inl ⟨rfl,by simp[r2],rfl⟩))))
  ·cases r1
   refine wpAny_bind (wpAny_pyHash_tuple hv.2 g1 ?_)
   first
    | exact wpAny_pure (.inr (.inr ⟨rfl,by simp[r2],by simp;omega⟩))
    | exact wpAny_bind (wpAny_pure (wpAny_pure (.inr (.inr ⟨rfl,by simp[r2],by simp;omega⟩))))
  ·cases r1
 ·rintro acc s' (⟨r1,_⟩|⟨r1,_⟩|⟨_,r2,rfl⟩)
  ·cases r1
  ·cases r1
  show wpAny _ _ (retInt (Builtin.Tuple.tupleHashOf acc.toList)) _ _ _
  rw[r2]
  refine wpAny_ret_mkInt ?_
  unfold pairHash reduceHash at q
  generalize Builtin.Tuple.tupleHashOf [kd.hash z.1,tupleKeyHash kd z.2]=hh at q
  show wpAny _ A (if (decide (-(2:Int) ^ 63≤hh) && decide (hh<2 ^ 63))=true then _ else _) Q E _
  split at q<;>rename_i hr
  ·rw[if_pos hr]
   exact wpAny_pure (by simpa [Nat.add_assoc] using q)
  ·rw[if_neg hr]
   exact wpAny_bind (wpAny_rule (wpAny_pure (by simpa [Nat.add_assoc] using q)))
theorem Zfa{y z:KT×List KT}{a b:Addr}{R:Fin→Shared→Prop}(hu:A.units<cLine)(hy:PairAt kd s.heap y a)(hz:PairAt kd s.heap z b)(q:R (.done (.ret (.bool (decide (y=z))))) s) :
  wpAny (model prog w) A (Builtin.«tuple.__eq__» ⟨[.ref a,.ref b],[]⟩) R E s:=by
 have tb:=hz.tp
 obtain⟨o1,i1,c1,u1,b1,e1,k1,d1,l1,f1,g1⟩:=hy
 obtain⟨o2,i2,c2,u2,b2,e2,k2,d2,l2,f2,g2⟩:=hz
 show wpAny _ A (isInstance (.ref b) (.type "tuple") >>= _) _ _ s
 refine wpAny_bind (wpAny_isInstance tb isSubtype_tuple_tuple ?_)
 simp only[Bool.not_true,Bool.false_eq_true,if_false]
 refine wpAny_bind (wpAny_tupleItemsOf e1 d1 ?_)
 refine wpAny_bind (wpAny_tupleItemsOf e2 d2 ?_)
 have zz:(i1.size == i2.size)=true:=by
  have a1:=congrArg List.length l1
  have a2:=congrArg List.length l2
  rw[Array.length_toList] at a1 a2
  rw[a1,a2];rfl
 refine wpAny_bind ?_
 rw[l1,l2]
 refine wpAny_forIn_list _
  (fun rest r s'=>r.1=none∧s'=s∧(rest=[(u1,u2),(.ref b1,.ref b2)]∨(rest=[(.ref b1,.ref b2)]∧y.1=z.1)∨(rest=[]∧y=z)))
  _ ?_ ?_ _ _ ⟨rfl,rfl,.inl rfl⟩
 ·rintro x rest r s' ⟨hr,rfl,r1|⟨r1,ey⟩|⟨r1,_⟩⟩
  ·cases r1
   refine wpAny_bind (kd.eqBool (a:=y.1) (b:=z.1) f1 f2 ?_)
   by_cases hk:y.1=z.1
   ·rw[decide_eq_true hk]
    simp only[Bool.not_true,Bool.false_eq_true,if_false]
    exact wpAny_pure ⟨rfl,rfl,.inr (.inl ⟨by trivial,hk⟩)⟩
   ·rw[decide_eq_false hk]
    simp only[Bool.not_false,if_true]
    rw[decide_eq_false (fun e=>hk (by rw[e]))] at q
    exact wpAny_bind (wpAny_pure (wpAny_pure (wpAny_pure q)))
  ·cases r1
   refine wpAny_bind (wpAny_eqBool_tuple hu g1 g2 ?_)
   by_cases hk:y.2=z.2
   ·rw[decide_eq_true hk]
    simp only[Bool.not_true,Bool.false_eq_true,if_false]
    exact wpAny_pure ⟨rfl,rfl,.inr (.inr ⟨by trivial,Prod.ext ey hk⟩)⟩
   ·rw[decide_eq_false hk]
    simp only[Bool.not_false,if_true]
    rw[decide_eq_false (fun e=>hk (by rw[e]))] at q
    exact wpAny_bind (wpAny_pure (wpAny_pure (wpAny_pure q)))
  ·cases r1
 ·rintro⟨r1,r2⟩ s' ⟨hr,rfl,z1|⟨z1,_⟩|⟨_,ey⟩⟩
  ·cases z1
  ·cases z1
  simp only at hr
  subst hr
  refine wpAny_pure ?_
  show R (.done (.ret (.bool (i1.size == i2.size)))) s'
  rw[zz]
  rw[decide_eq_true ey] at q
  exact q
theorem ZkN{y z:KT×List KT}{a b:Addr}{Q:Bool→Shared→Prop}(hv:A.units<cLine∧A.in1.units<cLine)(hy:PairAt kd s.heap y a)(hz:PairAt kd s.heap z b)(q:Q (decide (y=z)) s) :
  wpAny (model prog w) A (eqBool (.ref a) (.ref b)) Q E s:=by
 unfold eqBool
 try with_reducible refine wpAny_holding ?_
 show wpAny _ A (if (Value.ref a == Value.ref b)=true then _ else _) Q E s
 by_cases ab:(Value.ref a == Value.ref b)=true
 ·rw[if_pos ab]
  have e:a=b:=by have:=eq_of_beq ab;injection this
  subst e
  have e2:=hy.one hz
  subst e2
  exact wpAny_bind (wpAny_rule (wpAny_pure (by simpa using q)))
 ·rw[if_neg ab]
  exact wpAny_bind (wpAny_richCompare_same_room (op:=.Eq) hy.tp hz.tp F.slot_tuple_eq (wpAny_call_entry F.slot_tuple_eq hy.tp F.entry_tuple_eq (Zfa hv.2 hy hz ⟨_,rfl,(fun e=>nomatch e),wpAny_truthy_bool q⟩) (F.args_tuple_eq_2 _ _)) hv.1)
theorem Zhc{ks:List KT}{a:Addr}{m:Nat}{Q:Bool→Shared→Prop}(hk:IsTupleKey kd s.heap ks a)(q:Q true s):wpAny (model prog w) A (eqIsQuiet (m+1) (.ref a)) Q E s:=by
 have tp:=hk.typeIs
 obtain⟨o1,i1,c1,e1,_,d1,g1⟩:=hk
 unfold eqIsQuiet
 refine wpAny_bind (wpAny_specialOf tp F.slot_tuple_eq.lookup ?_)
 show wpAny _ A (isInstance (.ref a) (.type "tuple") >>= _) _ _ s
 refine wpAny_bind (wpAny_isInstance tp isSubtype_tuple_tuple ?_)
 simp only[Bool.not_true,Bool.false_eq_true,if_false]
 refine wpAny_bind (wpAny_seqItems e1 d1 ?_)
 refine wpAny_bind ?_
 show wpAny _ A (forIn i1 _ _) _ _ s
 rw[← Array.forIn_toList]
 refine wpAny_forIn_list _ (fun rest r s'=>r.1=none∧s'=s∧∀ v∈rest,carriedByValue v=true) _ ?_ ?_ _ _ ⟨rfl,rfl,g1.byValue⟩
 ·rintro x rest r s' ⟨hr,rfl,al⟩
  rw[eqIsQuiet_byValue _ (al x (.head _))]
  refine wpAny_bind (wpAny_pure ?_)
  simp only[Bool.not_true,Bool.false_eq_true,if_false]
  exact wpAny_pure ⟨rfl,rfl,fun v hv=>al v (.tail _ hv)⟩
 ·rintro⟨r1,r2⟩ s' ⟨hr,rfl,_⟩
  simp only at hr
  subst hr
  exact wpAny_pure q
theorem Zhd{z:KT×List KT}{a:Addr}{Q:Bool→Shared→Prop}(hz:PairAt kd s.heap z a)(q:Q true s):wpAny (model prog w) A (eqIsQuiet 8 (.ref a)) Q E s:=by
 have tp:=hz.tp
 obtain⟨o1,i1,c1,u1,b1,e1,_,d1,l1,f1,g1⟩:=hz
 unfold eqIsQuiet
 refine wpAny_bind (wpAny_specialOf tp F.slot_tuple_eq.lookup ?_)
 show wpAny _ A (isInstance (.ref a) (.type "tuple") >>= _) _ _ s
 refine wpAny_bind (wpAny_isInstance tp isSubtype_tuple_tuple ?_)
 simp only[Bool.not_true,Bool.false_eq_true,if_false]
 refine wpAny_bind (wpAny_seqItems e1 d1 ?_)
 refine wpAny_bind ?_
 show wpAny _ A (forIn i1 _ _) _ _ s
 rw[← Array.forIn_toList,l1]
 refine wpAny_forIn_list _ (fun rest r s'=>r.1=none∧s'=s∧(rest=[u1,.ref b1]∨rest=[.ref b1]∨rest=[])) _ ?_ ?_ _ _ ⟨rfl,rfl,.inl rfl⟩
 ·rintro x rest r s' ⟨hr,rfl,r1|r1|r1⟩
  ·cases r1
   rw[eqIsQuiet_byValue _ (kd.byValue _ _ f1)]
   refine wpAny_bind (wpAny_pure ?_)
   simp only[Bool.not_true,Bool.false_eq_true,if_false]
   refine wpAny_pure ⟨rfl,rfl,?_⟩
   exact .inr (.inl (by trivial))
  ·cases r1
   refine wpAny_bind (Zhc g1 ?_)
   simp only[Bool.not_true,Bool.false_eq_true,if_false]
   refine wpAny_pure ⟨rfl,rfl,?_⟩
   exact .inr (.inr (by trivial))
  ·cases r1
 ·rintro⟨r1,r2⟩ s' ⟨hr,rfl,_⟩
  simp only at hr
  subst hr
  exact wpAny_pure q
end
noncomputable def pairKind{prog:Program}{w:World}{KT:Type}[DecidableEq KT](kd:KeyKind prog w KT):HeapKind prog w (KT×List KT) where
 is:=PairAt kd
 hash:=pairHash kd
 draws:=fun z=>z.2.length+3
 room:=fun A=>A.units<cLine∧A.in1.units<cLine
 inj:=PairAt.one
 keeps:=PairAt.stay
 pyHash:=ZhA
 eqBool:=ZkN
 quiet:=Zhd
end PySem
namespace L2
open PySem PySem.Spec PyProof.Rows
inductive V where
 | non|bl (b:Bool)|int (i:Int)|str (x:Str)|byt (b:Array UInt8)|flt (b:UInt64)|ref (a:Addr)|ty (n:String)
 deriving DecidableEq
noncomputable def RelV:V→Value→Prop
 | .non,u=>u=Value.none
 | .bl b,u=>u=Value.bool b
 | .int i,u=>∃ t,u=Value.int i t
 | .str x,u=>∃ t,u=Value.str x t
 | .byt b,u=>∃ t,u=Value.bytes b t
 | .flt b,u=>∃ t,u=Value.float b t
 | .ref a,u=>u=Value.ref a
 | .ty n,u=>u=Value.type n
noncomputable abbrev Vals:List V→List Value→Prop:=Paired RelV
theorem Vals.length{xs:List V}{us:List Value}(r:Vals xs us):xs.length=us.length:=Paired.length r
theorem Vals.get:∀ {xs:List V} {us:List Value} {i:Nat} {x:V},Vals xs us→xs[i]?=some x→∃ u,us[i]?=some u∧RelV x u
 | _,_,_,_,.nil,e=>by simp at e
 | _,_,0,_,.cons r _,e=>by simp at e;subst e;exact⟨_,rfl,r⟩
 | _,_,i+1,x,.cons _ t,e=>by
  obtain⟨u,h1,h2⟩:=Vals.get (i:=i) (x:=x) t (by simpa using e)
  exact⟨u,by simpa using h1,h2⟩
theorem Vals.set{x:V}{u:Value}(r:RelV x u):∀ {xs:List V} {us:List Value} (i:Nat),Vals xs us→Vals (xs.set i x) (us.set i u)
 | _,_,_,.nil=>.nil
 | _,_,0,.cons _ t=>.cons r t
 | _,_,i+1,.cons q t=>.cons q (Vals.set r i t)
theorem Vals.append:∀ {xs ys:List V} {us ws:List Value},Vals xs us→Vals ys ws→Vals (xs++ys) (us++ws)
 | _,_,_,_,.nil,s=>s
 | _,_,_,_,.cons r t,s=>.cons r (Vals.append t s)
noncomputable def RelO:Option V→Option Value→Prop
 | some v,some u=>RelV v u
 | none,none=>True
 | _,_=>False
noncomputable def KV{κ:Type}:List (κ×V)→List (κ×Value)→Prop:=Paired fun (p:κ×V) (q:κ×Value)=>p.1=q.1∧RelV p.2 q.2
noncomputable def kV:Key→V
 | .inl i=>.int i
 | .inr x=>.str x
inductive HO where
 | lst (xs:List V)
 | tup (xs:List V)
 | dK (kvs:List (Key×V))|dT (kvs:List (List Key×V))
 | dN (kvs:List ((Key×List Key)×V))
 | set (S:Int→Bool) (n:Nat)
 | ins (C dx:Addr) (fs:List (Str×V))
 | own (x:Addr)
 | xd (fs:List (Str×V))
 | met (f x:Addr)
 | rng (lo hi:Int)
 | frz (o:Obj) (u:HO)
 | tbl (ps:Array Value)
 | tbq (q:Nat→Nat→Str)
 | ext (φ:Heap→Prop)
noncomputable abbrev Hp:=Addr→Option HO
noncomputable def CodeO(o:Obj)(q:Str):Prop:=∃ vs t,o.data=.fields vs∧vs[1]?=some (.str q t)
noncomputable def upd(H:Hp)(a:Addr)(o:HO):Hp:=fun b=>if b=a then some o else H b
theorem Zak{H:Hp}{a:Addr}{o:HO}:upd H a o a=some o:=by unfold upd;rw[if_pos rfl]
theorem Zaf{H:Hp}{a b:Addr}{o:HO}(h:b≠a):upd H a o b=H b:=by unfold upd;rw[if_neg h]
theorem ZcI{H:Hp}{a:Addr}{o u:HO}:upd (upd H a o) a u=upd H a u:=by
 funext b;unfold upd;split<;>rfl
theorem Zej{H:Hp}{a b:Addr}{o u:HO}(h:H a=some o)(h':H b=some u)(d:o≠u):a≠b:=by
 intro e;subst e;rw[h] at h';exact d (Option.some.inj h')
theorem Zam{H:Hp}{a b:Addr}{o:HO}(h:H a=some o)(h':H b=none):a≠b:=by
 intro e;subst e;rw[h] at h';cases h'
section
variable(P:Program)(w:World)
noncomputable def ObjOk(H:Hp)(h:Heap)(a:Addr):HO→Prop
 | .lst xs=>xs.length≤sizeLine∧∃ (its:List Value) (n:Nat),Vals xs its∧h.get? a=some { cls:=.type "list",data:=.seq its.toArray n }
 | .tup xs=>xs.length≤sizeLine∧∃ its:List Value,Vals xs its∧IsTup h a its.toArray
 | .dK kvs=>kvs.length≤sizeLine∧(a == sysModules)=false∧∃ vs,KV kvs vs∧h.DictOf (mixKind P w) a vs
 | .dT kvs=>kvs.length≤sizeLine∧(a == sysModules)=false∧∃ xs:List (List Key×Addr×Value),
   Paired (fun (p:List Key×V) (q:List Key×Addr×Value)=>p.1=q.1∧H q.2.1=some (.tup (p.1.map kV))∧RelV p.2 q.2.2) kvs xs ∧
   ∃ o es ep,h.get? a=some o∧o.ExactDict∧o.data=.dict es ep∧es.toList=xs.map (entryOfKey (tupleKind (mixKind P w)))∧(xs.map (·.1)).Nodup
 | .dN kvs=>kvs.length≤sizeLine∧(a == sysModules)=false∧∃ xs:List ((Key×List Key)×Addr×Value),
   Paired (fun (p:(Key×List Key)×V) (q:(Key×List Key)×Addr×Value)=>p.1=q.1∧(∃ b,H q.2.1=some (.tup [kV p.1.1,.ref b])∧H b=some (.tup (p.1.2.map kV)))∧RelV p.2 q.2.2) kvs xs ∧
   ∃ o es ep,h.get? a=some o∧o.ExactDict∧o.data=.dict es ep∧es.toList=xs.map (entryOfKey (pairKind (mixKind P w)))∧(xs.map (·.1)).Nodup
 | .set S n=>h.SetOf (intKind P w) a S n
 | .ins C dx fs=>H dx=some (.own a)∧fs.length≤1000∧dx≠a∧h.get? a=some (PySem.W.instObj C dx) ∧
   ∃ mA,h.Ns1 dx mA∧(∀ f,RelO (fs.lookup f) (mA f))∧PySem.Within mA (fs.map (·.1))
 | .own _=>∃ o,h.get? a=some o
 | .xd fs=>∃ mA,h.Ns1 a mA∧∀ f,RelO (fs.lookup f) (mA f)
 | .rng lo hi=>∃ t u v,h.get? a=some { cls:=.type "range",data:=.fields #[.int lo t,.int hi u,.int 1 v] }
 | .frz o u=>h.get? a=some o∧ObjOk H h a u
 | .tbl ps=>h.get? a=some { cls:=.none,data:=.fields ps }
 | .tbq q=>∃ ps,h.get? a=some { cls:=.none,data:=.fields ps }∧TriplesOk ps.toList∧∀ pos cv,codeAmong pos ps.toList=some cv→∃ c o,cv=.ref c∧H c=some (.frz o (.own a))∧CodeO o (q pos.line pos.col)
 | .met f x=>h.get? a=some (PySem.W.methodObj (.ref f) (.ref x))
 | .ext φ=>φ h∧(∃ o,h.get? a=some o)∧∀ h1 h2:Heap,φ h1→(∀ o,h1.get? a=some o→h2.get? a=some o)→φ h2
noncomputable def HOk(H:Hp)(h:Heap):Prop:=∀ a o,H a=some o→ObjOk P w H h a o
end
section
variable{P:Program}{w:World}{H H':Hp}{h h':Heap}{a:Addr}{o:HO}
theorem ObjOk.lt(x:ObjOk P w H h a o):a<h.objs.size:=by
 cases o with
 | lst xs=>obtain⟨_,_,_,_,e⟩:=x;exact Heap.lt_size e
 | tup xs=>obtain⟨_,_,_,p⟩:=x;exact p.lt
 | dK kvs=>obtain⟨_,_,_,_,o,_,_,e,_⟩:=x;exact Heap.lt_size e
 | dT kvs=>obtain⟨_,_,_,_,o,_,_,e,_⟩:=x;exact Heap.lt_size e
 | dN kvs=>obtain⟨_,_,_,_,o,_,_,e,_⟩:=x;exact Heap.lt_size e
 | set S n=>obtain⟨o,_,_,_,e,_⟩:=x;exact Heap.lt_size e
 | ins C dx fs=>obtain⟨_,_,_,e,_⟩:=x;exact Heap.lt_size e
 | own y=>obtain⟨_,e⟩:=x;exact Heap.lt_size e
 | xd fs=>obtain⟨_,⟨_,_,_,e,_⟩,_⟩:=x;exact Heap.lt_size e
 | rng lo hi=>obtain⟨_,_,_,e⟩:=x;exact Heap.lt_size e
 | frz ob u=>obtain⟨e,_⟩:=x;exact Heap.lt_size e
 | tbl ps=>exact Heap.lt_size (show h.get? a=some _ from x)
 | tbq q=>obtain⟨_,e,_⟩:=x;exact Heap.lt_size e
 | met f y=>exact Heap.lt_size (show h.get? a=some _ from x)
 | ext φ=>obtain⟨_,⟨_,e⟩,_⟩:=x;exact Heap.lt_size e
theorem Paired.mapP{α β:Type}{F G:α→β→Prop}:∀ {l₁:List α} {l₂:List β},Paired F l₁ l₂→(∀ a b,F a b→G a b)→Paired G l₁ l₂
 | _,_,.nil,_=>.nil
 | _,_,.cons r t,f=>.cons (f _ _ r) (Paired.mapP t f)
theorem ObjOk.stay(x:ObjOk P w H h a o)(k:∀ b u,(b=a∨H b=some (.own a))→h.get? b=some u→h'.get? b=some u)
  (ho:∀ b,H b=some (.own a)→H' b=some (.own a)) (ht:∀ b xs,H b=some (.tup xs)→H' b=some (.tup xs))
  (hf:∀ b o,H b=some (.frz o (.own a))→H' b=some (.frz o (.own a)):=by first|exact fun _ _ q=>q|(intro b o q;rw[Zaf (Zam q (by assumption))];exact q)):ObjOk P w H' h' a o:=by
 induction o with
 | lst xs=>obtain⟨z,its,n,r,e⟩:=x;exact⟨z,its,n,r,k _ _ (.inl rfl) e⟩
 | tup xs=>obtain⟨z,its,r,ob,e,c⟩:=x;exact⟨z,its,r,ob,k _ _ (.inl rfl) e,c⟩
 | dK kvs=>obtain⟨z,y,vs,r,ob,es,ep,e,c⟩:=x;exact⟨z,y,vs,r,ob,es,ep,k _ _ (.inl rfl) e,c⟩
 | dT kvs =>
  obtain⟨z,y,xs,r,ob,es,ep,e,c⟩:=x
  exact⟨z,y,xs,Paired.mapP r fun p q z=>⟨z.1,ht _ _ z.2.1,z.2.2⟩,ob,es,ep,k _ _ (.inl rfl) e,c⟩
 | dN kvs =>
  obtain⟨z,y,xs,r,ob,es,ep,e,c⟩:=x
  exact⟨z,y,xs,Paired.mapP r fun p q z=>⟨z.1,let ⟨b,z1,z2⟩:=z.2.1;⟨b,ht _ _ z1,ht _ _ z2⟩,z.2.2⟩,ob,es,ep,k _ _ (.inl rfl) e,c⟩
 | set S n=>obtain⟨ob,es,ep,t,e,c⟩:=x;exact⟨ob,es,ep,t,k _ _ (.inl rfl) e,c⟩
 | ins C dx fs =>
  obtain⟨d,z,ne,e,mA,⟨od,es,ep,e2,c⟩,r⟩:=x
  exact⟨ho _ d,z,ne,k _ _ (.inl rfl) e,mA,⟨od,es,ep,k _ _ (.inr d) e2,c⟩,r⟩
 | own y=>obtain⟨ob,e⟩:=x;exact⟨ob,k _ _ (.inl rfl) e⟩
 | xd fs=>obtain⟨mA,⟨od,es,ep,e,c⟩,r⟩:=x;exact⟨mA,⟨od,es,ep,k _ _ (.inl rfl) e,c⟩,r⟩
 | rng lo hi=>obtain⟨t,u,v,e⟩:=x;exact⟨t,u,v,k _ _ (.inl rfl) e⟩
 | frz ob u ih=>obtain⟨e,q⟩:=x;exact⟨k _ _ (.inl rfl) e,ih q⟩
 | tbq q =>
  obtain⟨ps,e,t,r⟩:=x
  exact⟨ps,k _ _ (.inl rfl) e,t,fun pos cv z=>let ⟨c,o,e1,e2,e3⟩:=r pos cv z;⟨c,o,e1,hf _ _ e2,e3⟩⟩
 | tbl ps =>
  have e:h.get? a=some { cls:=.none,data:=.fields ps }:=x
  show h'.get? a=some { cls:=.none,data:=.fields ps }
  exact k a _ (.inl rfl) e
 | met f y =>
  have e:h.get? a=some (PySem.W.methodObj (.ref f) (.ref y)):=x
  show h'.get? a=some (PySem.W.methodObj (.ref f) (.ref y))
  exact k a _ (.inl rfl) e
 | ext φ=>obtain⟨p,⟨o,e⟩,st⟩:=x;exact⟨st _ _ p fun o q=>k _ _ (.inl rfl) q,⟨o,k _ _ (.inl rfl) e⟩,st⟩
theorem HOk.lt(x:HOk P w H h)(e:H a=some o):a<h.objs.size:=(x a o e).lt
theorem HOk.fresh(x:HOk P w H h)(e:h.objs.size≤a):H a=none:=by
 cases q:H a with
 | none=>rfl
 | some u=>exact absurd (Nat.lt_of_lt_of_le (x.lt q) e) (Nat.lt_irrefl _)
theorem HOk.kept(x:HOk P w H h)(k:∀ b u,h.get? b=some u→h'.get? b=some u):HOk P w H h':=fun a o e =>
 (x a o e).stay (fun b u _ q=>k b u q) (fun _ q=>q) fun _ _ q=>q
theorem HOk.laid(x:HOk P w H h)(k:∀ b u,h.get? b=some u→h'.get? b=some u)(hp:h.objs.size≤a)(new:ObjOk P w (upd H a o) h' a o):HOk P w (upd H a o) h':=fun b u e=>by
 have hn:=x.fresh hp
 by_cases hb:b=a
 ·subst hb;rw[Zak] at e;cases e;exact new
 ·rw[Zaf hb] at e
  exact (x b u e).stay (fun c v _ q=>k c v q) (fun c q=>by rw[Zaf (Zam q hn)];exact q) fun c xs q=>by rw[Zaf (Zam q hn)];exact q
end
noncomputable def Rd(H:Hp)(a:Addr)(u:HO):Prop:=H a=some u∨∃ o,H a=some (.frz o u)
theorem Rd.ok{P:Program}{w:World}{H:Hp}{h:Heap}{a:Addr}{u:HO}(r:Rd H a u)(x:HOk P w H h):ObjOk P w H h a u:=by
 rcases r with r|⟨o,r⟩
 ·exact x a u r
 ·obtain⟨_,q⟩:=x a _ r
  exact q
noncomputable def Mut:Option HO→Prop
 | some (.lst _)=>True
 | some (.dK _)=>True
 | some (.dT _)=>True
 | some (.dN _)=>True
 | some (.set _ _)=>True
 | some (.ins _ _ _)=>True
 | some (.ext _)=>True
 | _=>False
section
variable{P:Program}{w:World}{H:Hp}{h h':Heap}{x e:Addr}{o':HO}
theorem HOk.write(ok:HOk P w H h)(mu:Mut (H x))(he:e=x∨H e=some (.own x))(k:∀ b u,b≠e→h.get? b=some u→h'.get? b=some u)(heo:∃ u,h'.get? e=some u)
  (new:ObjOk P w (upd H x o') h' x o'):HOk P w (upd H x o') h':=fun b u q=>by
 have nown:∀ c y,H c=some (.own y)→c≠x:=fun c y r z=>by subst z;rw[r] at mu;exact mu
 have ntup:∀ c xs,H c=some (.tup xs)→c≠x:=fun c xs r z=>by subst z;rw[r] at mu;exact mu
 by_cases hb:b=x
 ·subst hb;rw[Zak] at q;cases q;exact new
 ·rw[Zaf hb] at q
  by_cases hbe:b=e
  ·have q':H b=some (.own x):=by
    rcases he with z|z
    ·exact absurd (hbe.trans z) hb
    ·rw[hbe];exact z
   rw[q] at q';cases q'
   obtain⟨v,hv⟩:=heo
   exact⟨v,by rw[hbe];exact hv⟩
  ·refine (ok b u q).stay (fun c v hc r=>k c v ?_ r) (fun c r=>by rw[Zaf (nown c b r)];exact r) (fun c xs r=>by rw[Zaf (ntup c xs r)];exact r) (fun c o r=>by rw[Zaf (fun z=>by subst z;rw[r] at mu;exact mu)];exact r)
   rcases hc with rfl|hc
   ·exact hbe
   ·rintro rfl
    rcases he with z|z
    ·exact nown c b hc z
    ·rw[hc] at z;cases z;exact hb rfl
end
structure Un(fs ex:List Addr)(H H':Hp)(h h':Heap):Prop where
 keep:∀ b o,h.get? b=some o→H b=none→b∉fs→b∉ex→h'.get? b=some o
 slot:∀ b o,h.get? b=some o→H b=none→b∈fs→b∉ex→∃ sl,h'.get? b=some { o with slots:=sl }
 free:∀ b o,h.get? b=some o→H b=none→b∉ex→H' b=none
 there:∀ b o,h.get? b=some o→b∉ex→∃ o',h'.get? b=some o'
 tups:∀ b xs,H b=some (.tup xs)→H' b=some (.tup xs)
 frzs:∀ b o u,H b=some (.frz o u)→H' b=some (.frz o u)
 tbls:∀ b ps,H b=some (.tbl ps)→∃ more,H' b=some (.tbl (ps++more))
section
variable{fs fs' ex ex':List Addr}{H H1 H2:Hp}{h h1 h2 h':Heap}{a x e:Addr}{o:HO}
theorem Un.any(u:Un fs ex H H1 h h1){b:Addr}{ob:Obj}(q:h.get? b=some ob)(n:H b=none)(hx:b∉ex):∃ sl,h1.get? b=some { ob with slots:=sl }:=by
 by_cases hb:b∈fs
 ·exact u.slot b ob q n hb hx
 ·exact⟨ob.slots,u.keep b ob q n hb hx⟩
theorem Un.kept(k:∀ b u,h.get? b=some u→h'.get? b=some u):Un fs ex H H h h' :=
 ⟨fun b ob q _ _ _=>k b ob q,fun b ob q _ _ _=>⟨ob.slots,k b ob q⟩,fun _ _ _ n _=>n,fun b ob q _=>⟨ob,k b ob q⟩,fun _ _ q=>q,fun _ _ _ q=>q,fun _ ps q=>⟨#[],by rw[q];simp⟩⟩
theorem Un.refl:Un fs ex H H h h:=Un.kept fun _ _ q=>q
theorem Un.laid(k:∀ b u,h.get? b=some u→h'.get? b=some u)(hp:h.objs.size≤a)(hn:H a=none):Un fs ex H (upd H a o) h h' where
 keep:=fun b u q _ _ _=>k b u q
 slot:=fun b u q _ _ _=>⟨u.slots,k b u q⟩
 free:=fun b u q n _=>by rw[Zaf (Nat.ne_of_lt (Nat.lt_of_lt_of_le (Heap.lt_size q) hp))];exact n
 there:=fun b u q _=>⟨u,k b u q⟩
 tups:=fun b xs q=>by rw[Zaf (Zam q hn)];exact q
 frzs:=fun b u xs q=>by rw[Zaf (Zam q hn)];exact q
 tbls:=fun b ps q=>⟨#[],by rw[Zaf (Zam q hn),q];simp⟩
theorem Un.write(mu:Mut (H x))(he:e=x∨H e=some (.own x))(k:∀ b u,b≠e→h.get? b=some u→h'.get? b=some u)(heo:∃ u,h'.get? e=some u):Un fs ex H (upd H x o) h h':=by
 have hx:∀ b,H b=none→b≠x:=fun b n z=>by subst z;rw[n] at mu;exact mu
 have hb:∀ b,H b=none→b≠e:=fun b n z=>by
  subst z
  rcases he with r|r
  ·exact hx b n r
  ·rw[n] at r;cases r
 have hm:∀ b u,H b=some u→¬ Mut (some u)→b≠x:=fun b u q nm z=>by subst z;rw[q] at mu;exact nm mu
 refine⟨fun b u q n _ _=>k b u (hb b n) q,fun b u q n _ _=>⟨u.slots,k b u (hb b n) q⟩,fun b u q n _=>by rw[Zaf (hx b n)];exact n,fun b u q _=>?_,
  fun b xs q=>by rw[Zaf (hm b _ q fun z=>z)];exact q,fun b u xs q=>by rw[Zaf (hm b _ q fun z=>z)];exact q,fun b ps q=>⟨#[],by rw[Zaf (hm b _ q fun z=>z),q];simp⟩⟩
 by_cases hbe:b=e
 ·subst hbe;exact heo
 ·exact⟨u,k b u hbe q⟩
end
noncomputable def trk(h:Heap)(H:Hp):List Addr:=(List.range h.objs.size).filter fun a=>(H a).isSome
noncomputable def hidT(h:Heap)(H:Hp):Heap:=PySem.W.hideAll h (trk h H)
theorem ZhB(h:Heap)(H:Hp):(hidT h H).objs.size=h.objs.size:=PySem.W.hideAll_size _ _
theorem ZeG{h:Heap}{H:Hp}{b:Addr}{o:Obj}(e:h.get? b=some o)(n:H b=none):(hidT h H).get? b=some o :=
 PySem.W.hideAll_get _ e fun hm=>by
  have q:(H b).isSome=true:=(List.mem_filter.mp hm).2
  rw[n] at q;simp at q
theorem ZkO{h:Heap}{H:Hp}{b:Addr}{o:Obj}(e:(hidT h H).get? b=some o):h.get? b=some o∧H b=none:=by
 have e':h.get? b=some o:=PySem.W.of_hideAll (trk h H) e
 refine⟨e',?_⟩
 cases q:H b with
 | none=>rfl
 | some x =>
  have hm:b∈trk h H:=List.mem_filter.mpr ⟨List.mem_range.mpr (Heap.lt_size e'),by simp[q]⟩
  have z:(hidT h H).get? b=none:=PySem.W.hideAll_none (trk h H) hm
  rw[z] at e;cases e
end L2
namespace L2
open PySem PySem.Spec PyProof.Rows
structure Mod(K:W.Frag)(mg:Str→Option Value)(base:Heap):Prop where
 kin:K.In base
 glob:base.Ns mainGlobals mg
 blt:∃ mb,base.Ns builtinsNs mb∧∀ x:Str,x ≠ "__name__" → mb x=bootBuiltins x
 nolimit:base.NoLimit
structure Cx where
 prog:Program
 w:World
 K:W.Frag
 mg:Str→Option Value
 base:Heap
 A:Around
 N:List Str
 s₀:Shared
 H₀:Hp
 env:Env
 outer:List Env
 stack:List Env
 ex:List Addr
 fn:Str→Bool
 calm:Bool
 pn:List (Addr×Obj)
 xe:Value→Shared→Prop
noncomputable def frs(l:List Env):List Addr:=l.filterMap (·.frame)
noncomputable abbrev Cx.fs(X:Cx):List Addr:=frs X.outer
noncomputable def Vis(sc:Scope)(x:Str):Prop:=sc.names.lookup x=some .local∨sc.names.lookup x=some .cell∨sc.names.lookup x=some .free
noncomputable def Loc(sc:Scope)(x:Str):Prop:=sc.names.lookup x=some .local∨sc.names.lookup x=some .cell
noncomputable def Look(env:Env)(h:Heap)(m:Str→Option Value)(x:Str)(u:Value):Prop :=
 (env.kindOf x=some .local∧m x=some u)∨((env.kindOf x=some .cell∨env.kindOf x=some .free)∧∃ c,env.cells.lookup x=some c∧h.IsCell c (some u))
structure Cx.Ok(X:Cx):Prop where
 mod:Mod X.K X.mg X.base
 kind:X.env.scope.kind=.function
 glob:X.env.globals=mainGlobals
 blt:X.env.builtins=builtinsNs
 above:X.s₀.heap.objs.size≤X.env.locals
 inj:∀ x y c,X.env.cells.lookup x=some c→X.env.cells.lookup y=some c→x=y
 has:∀ x,(X.env.kindOf x=some .cell∨X.env.kindOf x=some .free)→∃ c,X.env.cells.lookup x=some c
 cab:∀ x c,X.fn x=true→X.env.cells.lookup x=some c→X.s₀.heap.objs.size≤c
 hd:X.calm=true→X.A.handled=none
 frames:X.A.frames=some X.stack
 stk:X.stack=X.outer∨(X.stack=X.env::X.outer∧X.env.frame=some X.env.locals)
 exf:∀ b∈X.ex,b≠X.env.locals∧∀ x c,X.env.cells.lookup x=some c→c≠b
 bs:∀ b o,X.base.get? b=some o→X.s₀.heap.get? b=some o∧X.H₀ b=none
 bsz:X.base.objs.size≤X.s₀.heap.objs.size
 noex:∀ b o,X.base.get? b=some o→b∉X.ex
 exfs:∀ b∈X.ex,b∉X.fs
 funs:X.s₀.heap.FunFrames X.base X.outer
 frf:∀ b∈X.fs,X.H₀ b=none
structure Inv(X:Cx)(pins:List (Addr×Obj))(σ:List (Option V))(H:Hp)(s:Shared):Prop where
 ok:X.Ok
 os:s.os=X.s₀.os
 bare:AllBare s.gens
 base:Un X.fs X.ex X.H₀ H X.s₀.heap s.heap
 loc:∃ m,s.heap.Ns X.env.locals m∧∀ (i:Nat) (x:Str) (v:V),X.N[i]?=some x→σ[i]?=some (some v)→Vis X.env.scope x→∃ u,RelV v u∧Look X.env s.heap m x u
 cell:∀ x c,X.env.cells.lookup x=some c→∃ v,s.heap.IsCell c v
 free:H X.env.locals=none
 freeC:∀ x c,X.env.cells.lookup x=some c→H c=none
 pin:∀ p∈X.pn++pins,s.heap.get? p.1=some p.2∧H p.1=none∧p.1≠X.env.locals∧p.1∉X.fs∧∀ v,p.2.data≠.cell v
 hok:HOk X.prog X.w H s.heap
 len:σ.length=X.N.length
section
variable{X:Cx}{pins:List (Addr×Obj)}{σ:List (Option V)}{H H':Hp}{s:Shared}{h':Heap}
theorem Cx.Ok.nofr(ok:X.Ok){b:Addr}{o:Obj}(e:X.base.get? b=some o):b∉X.fs:=fun hb=>by
 have:=(ok.funs.mem hb).1
 rw[e] at this;cases this
theorem Inv.bs(I:Inv X pins σ H s):∀ b o,X.base.get? b=some o→s.heap.get? b=some o∧H b=none:=fun b o e =>
 ⟨I.base.keep b o (I.ok.bs b o e).1 (I.ok.bs b o e).2 (I.ok.nofr e) (I.ok.noex b o e),I.base.free b o (I.ok.bs b o e).1 (I.ok.bs b o e).2 (I.ok.noex b o e)⟩
theorem Inv.bk(I:Inv X pins σ H s):∀ b o,X.base.get? b=some o→s.heap.get? b=some o:=fun b o e=>(I.bs b o e).1
theorem Inv.mod(I:Inv X pins σ H s):Mod X.K X.mg X.base:=I.ok.mod
theorem Inv.kIn(I:Inv X pins σ H s):X.K.In s.heap:=I.ok.mod.kin.keeps I.bk
theorem Inv.nolimit(I:Inv X pins σ H s):s.heap.NoLimit:=I.ok.mod.nolimit.keeps I.bk
theorem Inv.lt(I:Inv X pins σ H s):X.env.locals<s.heap.objs.size:=let ⟨_,hn,_⟩:=I.loc;hn.lt
theorem Inv.sz(I:Inv X pins σ H s):X.s₀.heap.objs.size≤s.heap.objs.size:=Nat.le_trans I.ok.above (Nat.le_of_lt I.lt)
theorem Inv.nofs(I:Inv X pins σ H s){a:Addr}(h:s.heap.objs.size≤a):a∉X.fs:=fun hb=>by
 obtain⟨_,o,ho,_⟩:=I.ok.funs.mem hb
 exact absurd (Nat.lt_of_lt_of_le (Heap.lt_size ho) (Nat.le_trans I.sz h)) (Nat.lt_irrefl _)
theorem Inv.cne(I:Inv X pins σ H s):∀ x c,X.env.cells.lookup x=some c→c≠X.env.locals:=fun x c e z=>by
 obtain⟨v,o,ho,hd⟩:=I.cell x c e
 obtain⟨m,⟨o',es,ep,ho',hd',_⟩,_⟩:=I.loc
 rw[z,ho'] at ho;cases ho;rw[hd'] at hd;cases hd
theorem Inv.funs(I:Inv X pins σ H s):s.heap.FunFrames X.base X.outer:=by
 have all:∀ (l:List Env),(∀ b∈frs l,b∈X.fs)→X.s₀.heap.FunFrames X.base l→s.heap.FunFrames X.base l:=by
  intro l
  induction l with
  | nil=>intro _ _;trivial
  | cons env r ih =>
   intro hs hl
   obtain⟨hk,⟨L,o,hf,hn,ho,hd⟩,hr⟩:=hl
   have hL:L∈X.fs:=hs L (by unfold frs;rw[List.filterMap_cons,hf];exact List.mem_cons_self)
   obtain⟨sl,e⟩:=I.base.slot L o ho (I.ok.frf L hL) hL fun z=>I.ok.exfs L z hL
   exact⟨hk,⟨L,_,hf,hn,e,hd⟩,ih (fun b hb=>hs b (by unfold frs;rw[List.filterMap_cons,hf];exact List.mem_cons_of_mem _ hb)) hr⟩
 exact all X.outer (fun _ hb=>hb) I.ok.funs
theorem Inv.stack(I:Inv X pins σ H s):s.heap.FunFrames X.base X.stack:=by
 rcases I.ok.stk with e|⟨e,hf⟩
 ·rw[e];exact I.funs
 ·rw[e]
  obtain⟨m,hn,_⟩:=I.loc
  refine .cons (by rw[I.ok.kind];decide) hf hn ?_ I.funs
  exact Heap.get?_none_of_le (Nat.le_trans I.ok.bsz I.ok.above)
theorem Inv.stkSub(I:Inv X pins σ H s):∀ b∈frs X.stack,b∈X.env.locals::X.fs:=fun b hb=>by
 rcases I.ok.stk with e|⟨e,hf⟩
 ·rw[e] at hb;exact List.mem_cons_of_mem _ hb
 ·rw[e] at hb
  unfold frs at hb
  rw[List.filterMap_cons,hf] at hb
  exact hb
theorem Inv.stkFree(I:Inv X pins σ H s):∀ b∈frs X.stack,H b=none:=fun b hb=>by
 rcases List.mem_cons.mp (I.stkSub b hb) with e|hb
 ·rw[e];exact I.free
 ·obtain⟨_,o,ho,_⟩:=I.ok.funs.mem hb
  exact I.base.free b o ho (I.ok.frf b hb) fun z=>I.ok.exfs b z hb
theorem Inv.step{g':Array GenState}{t':Nat}{d':Drawn}{ch:List Addr}(I:Inv X pins σ H s)
  (hch:∀ b∈ch,(b∈X.ex∨X.s₀.heap.objs.size≤b)∧b≠X.env.locals∧(∀ x c,X.env.cells.lookup x=some c→c≠b)∧∀ p∈X.pn++pins,p.1≠b)
  (keep:∀ b o,b≠X.env.locals→b∉X.fs→b∉ch→s.heap.get? b=some o→H b=none→h'.get? b=some o)
  (slot:∀ b o,b≠X.env.locals→b∈X.fs→b∉ch→s.heap.get? b=some o→H b=none→∃ sl,h'.get? b=some { o with slots:=sl }) (free:∀ b o,b∉ch→s.heap.get? b=some o→H b=none→H' b=none)
  (there:∀ b o,b∉ch→s.heap.get? b=some o→∃ o',h'.get? b=some o')
  (tups:∀ b xs,H b=some (.tup xs)→H' b=some (.tup xs)) (frzs:∀ b o u,H b=some (.frz o u)→H' b=some (.frz o u)) (tbls:∀ b ps,H b=some (.tbl ps)→∃ more,H' b=some (.tbl (ps++more)))
  (ns:∀ m,s.heap.Ns X.env.locals m→h'.Ns X.env.locals m) (hok:HOk X.prog X.w H' h') (hg:AllBare g') :
  Inv X pins σ H' { s with heap:=h',gens:=g',drawn:=d',toks:=t' }:=by
 have neL:∀ b o,X.s₀.heap.get? b=some o→b≠X.env.locals:=fun b o e=>Nat.ne_of_lt (Nat.lt_of_lt_of_le (Heap.lt_size e) I.ok.above)
 have neC:∀ b o,X.s₀.heap.get? b=some o→b∉X.ex→b∉ch:=fun b o e hx hb=>by
  rcases (hch b hb).1 with z|z
  ·exact hx z
  ·exact absurd (Nat.lt_of_lt_of_le (Heap.lt_size e) z) (Nat.lt_irrefl _)
 have cellK:∀ x c,X.env.cells.lookup x=some c→∀ v,s.heap.IsCell c v→h'.IsCell c v:=fun x c e v ⟨o,ho,hd⟩=>by
  have nch:c∉ch:=fun z=>(hch c z).2.2.1 x c e rfl
  by_cases hc:c∈X.fs
  ·obtain⟨sl,q⟩:=slot c o (I.cne x c e) hc nch ho (I.freeC x c e)
   exact⟨_,q,hd⟩
  ·exact⟨o,keep c o (I.cne x c e) hc nch ho (I.freeC x c e),hd⟩
 refine⟨I.ok,I.os,hg,⟨fun b o e n hb hx=>?_,fun b o e n hb hx=>?_,fun b o e n hx=>?_,fun b o e hx=>?_,fun b xs e=>tups b xs (I.base.tups b xs e),fun b o xs e=>frzs b o xs (I.base.frzs b o xs e),fun b ps e=>?_⟩,?_,fun x c e=>?_,?_,fun x c e=>?_,fun p hp=>?_,hok,I.len⟩
 ·exact keep b o (neL b o e) hb (neC b o e hx) (I.base.keep b o e n hb hx) (I.base.free b o e n hx)
 ·obtain⟨sl,e1⟩:=I.base.slot b o e n hb hx
  obtain⟨sl',e2⟩:=slot b _ (neL b o e) hb (neC b o e hx) e1 (I.base.free b o e n hx)
  exact⟨sl',e2⟩
 ·obtain⟨o',e1⟩:=I.base.there b o e hx
  exact free b o' (neC b o e hx) e1 (I.base.free b o e n hx)
 ·obtain⟨o',e1⟩:=I.base.there b o e hx
  exact there b o' (neC b o e hx) e1
 ·obtain⟨m1,e1⟩:=I.base.tbls b ps e
  obtain⟨m2,e2⟩:=tbls b _ e1
  exact⟨m1++m2,by rw[e2,Array.append_assoc]⟩
 ·obtain⟨m,hn,hl⟩:=I.loc
  refine⟨m,ns m hn,fun i x v e1 e2 e3=>?_⟩
  obtain⟨u,r,l⟩:=hl i x v e1 e2 e3
  refine⟨u,r,?_⟩
  rcases l with l|⟨k,c,e,z⟩
  ·exact .inl l
  ·exact .inr ⟨k,c,e,cellK x c e _ z⟩
 ·obtain⟨v,z⟩:=I.cell x c e
  exact⟨v,cellK x c e v z⟩
 ·obtain⟨m,⟨o,_,_,ho,_⟩,_⟩:=I.loc
  exact free _ o (fun z=>(hch _ z).2.1 rfl) ho I.free
 ·obtain⟨v,o,ho,hd⟩:=I.cell x c e
  exact free c o (fun z=>(hch c z).2.2.1 x c e rfl) ho (I.freeC x c e)
 ·obtain⟨e,n,ne,nf,d⟩:=I.pin p hp
  have nch:p.1∉ch:=fun z=>(hch p.1 z).2.2.2 p hp rfl
  exact⟨keep p.1 p.2 ne nf nch e n,free p.1 p.2 nch e n,ne,nf,d⟩
theorem Inv.un{t':Nat}(I:Inv X pins σ H s)(u:Un X.fs [] H H' s.heap h')(hok:HOk X.prog X.w H' h'):Inv X pins σ H' { s with heap:=h',toks:=t' }:=by
 obtain⟨m,⟨o,es,ep,ho,r⟩,_⟩:=id I.loc
 obtain⟨sl,hL⟩:=u.any ho I.free (by simp)
 exact I.step (g':=s.gens) (d':=s.drawn) (ch:=[]) (fun _ z=>nomatch z) (fun b o _ hb _ e n=>u.keep b o e n hb (by simp)) (fun b o _ hb _ e n=>u.slot b o e n hb (by simp)) (fun b o _ e n=>u.free b o e n (by simp)) (fun b o _ e=>u.there b o e (by simp)) u.tups u.frzs u.tbls (fun m' hm=>by
  obtain⟨o',es',ep',ho',r'⟩:=hm
  rw[ho] at ho';cases ho'
  exact⟨_,es',ep',hL,r'⟩) hok I.bare
theorem Inv.call{g':Array GenState}{t':Nat}{d':Drawn}{ch:List Addr}(I:Inv X pins σ H s)(u:Un (frs X.stack) ch H H' s.heap h')(hok:HOk X.prog X.w H' h')(hg:AllBare g')
  (hch:∀ b∈ch,(b∈X.ex∨X.s₀.heap.objs.size≤b)∧b≠X.env.locals∧(∀ x c,X.env.cells.lookup x=some c→c≠b)∧∀ p∈X.pn++pins,p.1≠b) :
  Inv X pins σ H' { s with heap:=h',gens:=g',drawn:=d',toks:=t' }:=by
 obtain⟨m,⟨o,es,ep,ho,r⟩,_⟩:=id I.loc
 obtain⟨sl,hL⟩:=u.any ho I.free fun z=>(hch _ z).2.1 rfl
 exact I.step (ch:=ch) hch (fun b o hL hb hc e n=>u.keep b o e n (fun z=>(List.mem_cons.mp (I.stkSub b z)).elim hL hb) hc) (fun b o _ _ hc e n=>u.any e n hc) (fun b o hc e n=>u.free b o e n hc) (fun b o hc e=>u.there b o e hc) u.tups u.frzs u.tbls (fun m' hm=>by
  obtain⟨o',es',ep',ho',r'⟩:=hm
  rw[ho] at ho';cases ho'
  exact⟨_,es',ep',hL,r'⟩) hok hg
theorem Inv.turned{t':Nat}{it:Addr}(I:Inv X pins σ H s)(k:∀ b o,b≠it→s.heap.get? b=some o→h'.get? b=some o)(hn:H it=none)(hL:it≠X.env.locals)
  (h1:it∈X.ex∨X.s₀.heap.objs.size≤it) (h2:∀ x c,X.env.cells.lookup x=some c→c≠it) (h3:∀ p∈X.pn++pins,p.1≠it):Inv X pins σ H { s with heap:=h',toks:=t' }:=by
 have nit:∀ b u,H b=some u→b≠it:=fun b u e z=>by rw[z,hn] at e;cases e
 refine I.step (g':=s.gens) (d':=s.drawn) (ch:=[it]) (fun b hb=>?_) (fun b o _ _ hc e _=>k b o (fun z=>hc (by simp[z])) e) (fun b o _ _ hc e _=>⟨o.slots,k b o (fun z=>hc (by simp[z])) e⟩) (fun _ _ _ _ n=>n)
  (fun b o hc e=>⟨o,k b o (fun z=>hc (by simp[z])) e⟩) (fun _ _ e=>e) (fun _ _ _ e=>e) (fun b ps e=>⟨#[],by rw[e];simp⟩) (fun m hm=>?_) (fun b u e=>?_) I.bare
 ·have e:b=it:=by simpa using hb
  subst e
  exact⟨h1,hL,h2,h3⟩
 ·obtain⟨o,es,ep,ho,r⟩:=hm
  exact⟨o,es,ep,k _ o (Ne.symm hL) ho,r⟩
 ·refine (I.hok b u e).stay (fun c v hc q=>k c v ?_ q) (fun _ q=>q) fun _ _ q=>q
  rcases hc with z|z
  ·rw[z];exact nit b u e
  ·exact nit c _ z
theorem Inv.tok(I:Inv X pins σ H s)(t:Nat):Inv X pins σ H { s with toks:=t }:=I.un (h':=s.heap) (t':=t) Un.refl I.hok
theorem Inv.kept{t':Nat}(I:Inv X pins σ H s)(k:∀ b u,s.heap.get? b=some u→h'.get? b=some u):Inv X pins σ H { s with heap:=h',toks:=t' }:=I.un (Un.kept k) (I.hok.kept k)
theorem Inv.laid{a:Addr}{o:HO}{t':Nat}(I:Inv X pins σ H s)(k:∀ b u,s.heap.get? b=some u→h'.get? b=some u)(hp:s.heap.objs.size≤a)(new:ObjOk X.prog X.w (upd H a o) h' a o) :
  Inv X pins σ (upd H a o) { s with heap:=h',toks:=t' }:=I.un (Un.laid k hp (I.hok.fresh hp)) (I.hok.laid k hp new)
theorem Inv.write{x e:Addr}{o:HO}{t':Nat}(I:Inv X pins σ H s)(mu:Mut (H x))(he:e=x∨H e=some (.own x))(k:∀ b u,b≠e→s.heap.get? b=some u→h'.get? b=some u)(heo:∃ u,h'.get? e=some u)
  (new:ObjOk X.prog X.w (upd H x o) h' x o):Inv X pins σ (upd H x o) { s with heap:=h',toks:=t' }:=I.un (Un.write mu he k heo) (I.hok.write mu he k heo new)
theorem Inv.pins_of{pins':List (Addr×Obj)}(I:Inv X pins σ H s)(h:∀ p∈pins',s.heap.get? p.1=some p.2∧H p.1=none∧p.1≠X.env.locals∧p.1∉X.fs∧∀ v,p.2.data≠.cell v):Inv X pins' σ H s :=
 ⟨I.ok,I.os,I.bare,I.base,I.loc,I.cell,I.free,I.freeC,fun p hp=>(List.mem_append.mp hp).elim (fun z=>I.pin p (List.mem_append_left _ z)) (h p),I.hok,I.len⟩
theorem ZeH{N:List Str}(hN:N.Nodup){i j:Nat}{x:Str}(a:N[i]?=some x)(b:N[j]?=some x):i=j:=by
 obtain⟨h1,e1⟩:=List.getElem?_eq_some_iff.mp a
 obtain⟨h2,e2⟩:=List.getElem?_eq_some_iff.mp b
 exact (List.getElem_inj hN).mp (e1.trans e2.symm)
theorem Zcd{M:Model}{A:Around}{E:Value→Shared→Prop}{i:Nat}{x:Str}{v:V}{u:Value}{Q:Unit→Shared→Prop}(I:Inv X pins σ H s)(hN:X.N.Nodup)(hi:X.N[i]?=some x)(hx:Loc X.env.scope x)(r:RelV v u)
  (h:∀ s',Inv X pins (σ.set i (some v)) H s'→(∃ a,Heap.SameBut a s.heap s'.heap∧(a=X.env.locals∨X.env.cells.lookup x=some a))→Q () s') (hf:X.fn x=true∨X.env.scope.names.lookup x=some .local:=by first|exact .inl rfl|exact .inr rfl|assumption):wpAny M A (storeName X.env x u) Q E s:=by
 obtain⟨m,hn,hl⟩:=id I.loc
 have hcls:(X.env.scope.kind == .class || (X.env.scope.kind == .module && X.env.locals != X.env.globals))=false:=by rw[I.ok.kind];rfl
 have hiσ:i<σ.length:=by rw[I.len];exact (List.getElem?_eq_some_iff.mp hi).1
 have cne:=I.cne
 have tracked:∀ {a:Addr} {h':Heap},(∃ o,s.heap.get? a=some o∧H a=none)→Heap.SameBut a s.heap h'→HOk X.prog X.w H h':=fun {a h'} ha hs b ob e=>by
  obtain⟨_,_,hfree⟩:=ha
  refine (I.hok b ob e).stay (fun c w' hc q=>(hs.2 c ?_).trans q) (fun _ q=>q) fun _ _ q=>q
  rintro rfl
  rcases hc with rfl|hc
  ·rw[hfree] at e;cases e
  ·rw[hfree] at hc;cases hc
 rcases hx with hk|hk
 ·refine wpAny_storeName_local hk hn (fun h' hn' hs=>?_) hcls
  obtain⟨oL,_,_,hoL,_⟩:=id hn
  refine h _ ⟨I.ok,I.os,I.bare,⟨fun b o e n hb hx=>?_,fun b o e n hb hx=>?_,I.base.free,fun b o e hx=>?_,I.base.tups,I.base.frzs,I.base.tbls⟩,⟨_,hn',fun j y v' e1 e2 e3=>?_⟩,fun y c e=>?_,I.free,I.freeC,fun p hp=>?_,tracked ⟨oL,hoL,I.free⟩ hs,by simpa using I.len⟩ ⟨_,hs,.inl rfl⟩
  ·exact (hs.2 b (Nat.ne_of_lt (Nat.lt_of_lt_of_le (Heap.lt_size e) I.ok.above))).trans (I.base.keep b o e n hb hx)
  ·obtain⟨sl,e1⟩:=I.base.slot b o e n hb hx
   exact⟨sl,(hs.2 b (Nat.ne_of_lt (Nat.lt_of_lt_of_le (Heap.lt_size e) I.ok.above))).trans e1⟩
  ·obtain⟨o',e1⟩:=I.base.there b o e hx
   exact⟨o',(hs.2 b (Nat.ne_of_lt (Nat.lt_of_lt_of_le (Heap.lt_size e) I.ok.above))).trans e1⟩
  ·by_cases hj:j=i
   ·subst hj
    rw[hi] at e1;cases e1
    rw[List.getElem?_set_self hiσ] at e2
    cases e2
    exact⟨u,r,.inl ⟨hk,by simp⟩⟩
   ·rw[List.getElem?_set_ne (Ne.symm hj)] at e2
    obtain⟨u',r',q⟩:=hl j y v' e1 e2 e3
    refine⟨u',r',?_⟩
    rcases q with⟨k,e⟩|⟨k,c,e,z⟩
    ·refine .inl ⟨k,?_⟩
     have:y≠x:=fun e=>hj (ZeH hN e1 (e▸hi))
     simp[this,e]
    ·exact .inr ⟨k,c,e,z.sameBut hs (cne y c e)⟩
  ·obtain⟨w',z⟩:=I.cell y c e
   exact⟨w',z.sameBut hs (cne y c e)⟩
  ·obtain⟨e,n,ne,nf,d⟩:=I.pin p hp
   exact⟨(hs.2 p.1 ne).trans e,n,ne,nf,d⟩
 ·have hfn:X.fn x=true:=by
   rcases hf with z|z
   ·exact z
   ·rw[z] at hk;cases hk
  obtain⟨c,hc⟩:=I.ok.has x (.inl hk)
  obtain⟨w',z⟩:=I.cell x c hc
  refine wpAny_storeName_cell I.ok.kind hk hc z (fun h' hc' hs=>?_)
  obtain⟨oc,hoc,hocd⟩:=id z
  refine h { s with heap:=h' } ⟨I.ok,I.os,I.bare,⟨fun b o e n hb hx=>?_,fun b o e n hb hx=>?_,I.base.free,fun b o e hx=>?_,I.base.tups,I.base.frzs,I.base.tbls⟩,⟨m,hn.sameBut hs (Ne.symm (cne x c hc)),fun j y v' e1 e2 e3=>?_⟩,fun y c' e=>?_,I.free,I.freeC,fun p hp=>?_,tracked ⟨oc,hoc,I.freeC x c hc⟩ hs,by simpa using I.len⟩ ⟨c,hs,.inr hc⟩
  ·exact (hs.2 b (Nat.ne_of_lt (Nat.lt_of_lt_of_le (Heap.lt_size e) (I.ok.cab x c hfn hc)))).trans (I.base.keep b o e n hb hx)
  ·obtain⟨sl,e1⟩:=I.base.slot b o e n hb hx
   exact⟨sl,(hs.2 b (Nat.ne_of_lt (Nat.lt_of_lt_of_le (Heap.lt_size e) (I.ok.cab x c hfn hc)))).trans e1⟩
  ·obtain⟨o',e1⟩:=I.base.there b o e hx
   exact⟨o',(hs.2 b (Nat.ne_of_lt (Nat.lt_of_lt_of_le (Heap.lt_size e) (I.ok.cab x c hfn hc)))).trans e1⟩
  ·by_cases hj:j=i
   ·subst hj
    rw[hi] at e1;cases e1
    rw[List.getElem?_set_self hiσ] at e2
    cases e2
    exact⟨u,r,.inr ⟨.inl hk,c,hc,hc'⟩⟩
   ·rw[List.getElem?_set_ne (Ne.symm hj)] at e2
    obtain⟨u',r',q⟩:=hl j y v' e1 e2 e3
    refine⟨u',r',?_⟩
    rcases q with q|⟨k,c',e,z'⟩
    ·exact .inl q
    ·refine .inr ⟨k,c',e,z'.sameBut hs ?_⟩
     rintro rfl
     exact hj (ZeH hN e1 (I.ok.inj _ _ _ e hc▸hi))
  ·by_cases hcc:c'=c
   ·subst hcc;exact⟨_,hc'⟩
   ·obtain⟨w2,z2⟩:=I.cell y c' e
    exact⟨w2,z2.sameBut hs hcc⟩
  ·obtain⟨e,n,ne,nf,d⟩:=I.pin p hp
   refine⟨(hs.2 p.1 ?_).trans e,n,ne,nf,d⟩
   intro q
   rw[q,hoc] at e
   have q':oc=p.2:=Option.some.inj e
   exact d w' (by rw[← q'];exact hocd)
theorem ZeI{M:Model}{A:Around}{E:Value→Shared→Prop}{i:Nat}{x:Str}{v:V}{u:Value}{Q:Unit→Shared→Prop}(I:Inv X pins σ H s)(hN:X.N.Nodup)(hi:X.N[i]?=some x)(hx:Loc X.env.scope x)(r:RelV v u)
  (h:∀ s',Inv X pins (σ.set i (some v)) H s'→Q () s') (hf:X.fn x=true∨X.env.scope.names.lookup x=some .local:=by first|exact .inl rfl|exact .inr rfl|assumption):wpAny M A (storeName X.env x u) Q E s :=
 Zcd I hN hi hx r (fun s' I' _=>h s' I') hf
theorem Inv.call'{s':Shared}{ch:List Addr}(I:Inv X pins σ H s)(ho:s'.os=s.os)(u:Un (frs X.stack) ch H H' s.heap s'.heap)(hok:HOk X.prog X.w H' s'.heap)(hg:AllBare s'.gens)
  (hch:∀ b∈ch,(b∈X.ex∨X.s₀.heap.objs.size≤b)∧b≠X.env.locals∧(∀ x c,X.env.cells.lookup x=some c→c≠b)∧∀ p∈X.pn++pins,p.1≠b):Inv X pins σ H' s':=by
 obtain⟨h',g',d',t',o'⟩:=s'
 have e:o'=s.os:=ho
 subst e
 exact I.call (g':=g') (t':=t') (d':=d') u hok hg hch
end
noncomputable abbrev XK:=Value→Option Addr→Hp→Prop
noncomputable abbrev St:=List (Option V)
noncomputable abbrev VK:=V→Hp→Prop
noncomputable abbrev TE:=St→Hp→VK→Prop
noncomputable abbrev TT:=St→Hp→(Bool→Hp→Prop)→Prop
noncomputable abbrev TA:=St→Hp→(List V→Hp→Prop)→Prop
structure Ends where
 nx:St→Hp→Prop
 rt:VK
 bk:St→Hp→Prop:=fun _ _=>False
 ct:St→Hp→Prop:=fun _ _=>False
noncomputable abbrev TS:=Ends→St→Hp→Prop
noncomputable def EP(X:Cx)(pins:List (Addr×Obj))(σ:St)(Q:VK)(u:Value)(s':Shared):Prop:=∃ v H',Inv X pins σ H' s'∧RelV v u∧Q v H'
noncomputable def TP(X:Cx)(pins:List (Addr×Obj))(σ:St)(Q:Bool→Hp→Prop)(b:Bool)(s':Shared):Prop:=∃ H',Inv X pins σ H' s'∧Q b H'
noncomputable def AP(X:Cx)(pins:List (Addr×Obj))(σ:St)(Q:List V→Hp→Prop)(us:List Value)(s':Shared):Prop:=∃ vs H',Inv X pins σ H' s'∧Vals vs us∧Q vs H'
noncomputable def SP(X:Cx)(pins:List (Addr×Obj))(D:Ends)(f:Flow)(s':Shared):Prop :=
 match f with
 | .next=>∃ σ' H',Inv X pins σ' H' s'∧D.nx σ' H'
 | .brk=>∃ σ' H',Inv X pins σ' H' s'∧D.bk σ' H'
 | .cont=>∃ σ' H',Inv X pins σ' H' s'∧D.ct σ' H'
 | .ret u=>∃ v σ' H',Inv X pins σ' H' s'∧RelV v u∧D.rt v H'
noncomputable def PE(X:Cx)(e:Expr)(t:TE):Prop :=
 ∀ (pins:List (Addr×Obj)) (s:Shared) (σ:St) (H:Hp) (Q:VK),Inv X pins σ H s→t σ H Q→wpAny (model X.prog X.w) X.A (eval e X.env) (EP X pins σ Q) X.xe s
noncomputable def PT(X:Cx)(e:Expr)(t:TT):Prop :=
 ∀ (pins:List (Addr×Obj)) (s:Shared) (σ:St) (H:Hp) (Q:Bool→Hp→Prop),Inv X pins σ H s→t σ H Q→wpAny (model X.prog X.w) X.A (isTrue e X.env (eval e X.env)) (TP X pins σ Q) X.xe s
noncomputable def PW(X:Cx)(e:Expr)(t:TT):Prop :=
 ∀ (whole:Sem Value) (pins:List (Addr×Obj)) (s:Shared) (σ:St) (H:Hp) (Q:Bool→Hp→Prop),Inv X pins σ H s→t σ H Q→wpAny (model X.prog X.w) X.A (isTrue e X.env whole) (TP X pins σ Q) X.xe s
theorem PW.pt{X:Cx}{e:Expr}{t:TT}(h:PW X e t):PT X e t:=h _
noncomputable def PA(X:Cx)(es:List Expr)(t:TA):Prop :=
 ∀ (pos:Pos) (pins:List (Addr×Obj)) (s:Shared) (σ:St) (H:Hp) (Q:List V→Hp→Prop),Inv X pins σ H s→t σ H Q→wpAny (model X.prog X.w) X.A (spliced (backTo pos (starEach es X.env))) (AP X pins σ Q) X.xe s
noncomputable def PS(X:Cx)(st:Stmt)(t:TS):Prop :=
 ∀ (pins:List (Addr×Obj)) (s:Shared) (σ:St) (H:Hp) (D:Ends),Inv X pins σ H s→t D σ H→wpAny (model X.prog X.w) X.A (exec st X.env) (SP X pins D) X.xe s
noncomputable def PSs(X:Cx)(st:List Stmt)(t:TS):Prop :=
 ∀ (pins:List (Addr×Obj)) (s:Shared) (σ:St) (H:Hp) (D:Ends),Inv X pins σ H s→t D σ H→wpAny (model X.prog X.w) X.A (execs st X.env) (SP X pins D) X.xe s
theorem thn{α:Type}{t:Sem α}{Q Q':α→Shared→Prop}{M:Model}{A:Around}{E:Value→Shared→Prop}{s:Shared}(h:wpAny M A t Q E s)(hQ:∀ a s,Q a s→Q' a s):wpAny M A t Q' E s:=wpAny_mono h hQ fun _ _ x=>x
end L2
namespace L2
open PySem PySem.Spec PyProof.Rows
section
variable{X:Cx}
noncomputable def tVar(i:Nat):TE:=fun σ H Q=>∃ v,σ[i]?=some (some v)∧Q v H
noncomputable def tC(v:V):TE:=fun _ H Q=>Q v H
theorem Zkh{i:Nat}{x:Str}{pos:Pos}(hN:X.N[i]?=some x)(hv:Vis X.env.scope x)(hd:(x == ("__debug__" : Str))=false:=by decide)(hcd:(x == ("__classdict__" : Str))=false:=by decide):PE X (.Name x pos) (tVar i):=by
 intro pins s σ H Q I h
 obtain⟨v,e,h⟩:=h
 obtain⟨m,hn,hl⟩:=I.loc
 obtain⟨u,r,l⟩:=hl i x v hN e hv
 have fin:EP X pins σ Q u s:=⟨v,H,I,r,h⟩
 rcases l with⟨hk,hm⟩|⟨hk,c,hc,hcell⟩
 ·exact wpAny_Name (wpAny_loadName_local I.ok.kind hk hn hm fin) hd
 ·rcases hk with hk|hk
  ·exact wpAny_Name (wpAny_loadName_cell I.ok.kind hk hc hcell fin) hd
  ·exact wpAny_Name (wpAny_loadName_free I.ok.kind hk hc hcell fin hcd) hd
theorem Zad{i j pos}:PE X (.Constant (.int i) j pos) (tC (.int i)):=fun _ _ _ H _ I h=>wpAny_Constant_int ⟨.int i,H,I.tok _,⟨_,rfl⟩,h⟩
theorem Zek{b j pos}:PE X (.Constant (.bool b) j pos) (tC (.bl b)):=fun _ _ _ H _ I h=>Constant_bool ⟨.bl b,H,I,rfl,h⟩
theorem Zfb{j pos}:PE X (.Constant .none j pos) (tC .non):=fun _ _ _ H _ I h=>Constant_none ⟨.non,H,I,rfl,h⟩
noncomputable def Gl(X:Cx)(x:Str):Prop:=X.env.kindOf x=some .globalImplicit
theorem ZcJ{E:Value→Shared→Prop}{pins:List (Addr×Obj)}{s:Shared}{σ:St}{H:Hp}{x:Str}{u:Value}{pos:Pos}{Q:Value→Shared→Prop}(I:Inv X pins σ H s)(hg:Gl X x)(hm:X.mg x=some u)(h:Q u s)
  (hd:(x == ("__debug__" : Str))=false:=by decide):wpAny (model X.prog X.w) X.A (eval (.Name x pos) X.env) Q E s :=
 Calls.Name_function_global I.ok.kind hg (Calls.loadGlobal_global (by rw[I.ok.glob];exact I.mod.glob.keeps I.bk) hm h) hd
theorem ZcD{E:Value→Shared→Prop}{pins:List (Addr×Obj)}{s:Shared}{σ:St}{H:Hp}{x:Str}{u:Value}{pos:Pos}{Q:Value→Shared→Prop}(I:Inv X pins σ H s)(hg:Gl X x)(hm:X.mg x=none)(hv:bootBuiltins x=some u)(h:Q u s)
  (hn:x ≠ "__name__" := by decide) (hd:(x == ("__debug__" : Str))=false:=by decide):wpAny (model X.prog X.w) X.A (eval (.Name x pos) X.env) Q E s:=by
 obtain⟨mb,h1,h2⟩:=I.mod.blt
 exact Calls.Name_function_global I.ok.kind hg (Calls.loadGlobal_builtin (by rw[I.ok.glob];exact I.mod.glob.keeps I.bk) hm (by rw[I.ok.blt];exact h1.keeps I.bk) ((h2 x hn).trans hv) h) hd
theorem ZdM{x:Str}{v:V}{u:Value}{pos:Pos}(hg:Gl X x)(hm:X.mg x=some u)(r:RelV v u)(hd:(x == ("__debug__" : Str))=false:=by decide):PE X (.Name x pos) (tC v) :=
 fun _ _ _ H _ I h=>ZcJ I hg hm ⟨v,H,I,r,h⟩ hd
theorem ZcK{x:Str}{v:V}{u:Value}{pos:Pos}(hg:Gl X x)(hm:X.mg x=none)(hv:bootBuiltins x=some u)(r:RelV v u)(hn:x ≠ "__name__" := by decide)(hd:(x == ("__debug__" : Str))=false:=by decide):PE X (.Name x pos) (tC v) :=
 fun _ _ _ H _ I h=>ZcD I hg hm hv ⟨v,H,I,r,h⟩ hn hd
variable{a b:Expr}{ta tb:TE}{pos:Pos}
noncomputable def tB(t:TE):TT:=fun σ H Q=>t σ H fun x H1=>∃ c,x=.bl c∧Q c H1
theorem Zdw{e:Expr}{t:TE}(h:PE X e t)(he:∀ whole,isTrue e X.env whole=(do let v ← whole;standAt e.pos;holding [v] (truthy v)):=by intro _;rfl):PT X e (tB t):=by
 intro pins s σ H Q I hw
 refine isTrue_plain (thn (h pins s σ H _ I hw) fun v s1 ⟨x,H1,I1,r1,q1⟩=>?_) (he _)
 obtain⟨d,rfl,q⟩:=q1
 cases r1
 exact wpAny_truthy_bool ⟨H1,I1,q⟩
variable{tA tB':TT}{rest:List Expr}
noncomputable def tAnd(t u:TT):TT:=fun σ H Q=>t σ H fun c H1=>if c=true then u σ H1 Q else Q false H1
noncomputable def tOr(t u:TT):TT:=fun σ H Q=>t σ H fun c H1=>if c=true then Q true H1 else u σ H1 Q
noncomputable def tNot(t:TT):TT:=fun σ H Q=>t σ H fun c H1=>Q (!c) H1
theorem ZhC(ha:PT X a tA):PW X (.BoolOp .And [a] pos) tA:=by
 intro wh pins s σ H Q I h
 refine isTrue_and (thn (ha pins s σ H Q I h) fun c s1 e=>?_)
 cases c with
 | true=>exact isTrue_and_nil e
 | false=>exact e
theorem Zdx(ha:PT X a tA):PW X (.BoolOp .Or [a] pos) tA:=by
 intro wh pins s σ H Q I h
 refine isTrue_or (thn (ha pins s σ H Q I h) fun c s1 e=>?_)
 cases c with
 | false=>exact isTrue_or_nil e
 | true=>exact e
theorem Zki(ha:PT X a tA)(hb:PW X (.BoolOp .And (b::rest) pos) tB'):PW X (.BoolOp .And (a::b::rest) pos) (tAnd tA tB'):=by
 intro wh pins s σ H Q I h
 refine isTrue_and (thn (ha pins s σ H _ I h) fun c s1 ⟨H1,I1,q1⟩=>?_)
 cases c with
 | true=>exact hb wh pins s1 σ H1 Q I1 q1
 | false=>exact⟨H1,I1,q1⟩
theorem Zdk(ha:PT X a tA)(hb:PW X (.BoolOp .Or (b::rest) pos) tB'):PW X (.BoolOp .Or (a::b::rest) pos) (tOr tA tB'):=by
 intro wh pins s σ H Q I h
 refine isTrue_or (thn (ha pins s σ H _ I h) fun c s1 ⟨H1,I1,q1⟩=>?_)
 cases c with
 | true=>exact⟨H1,I1,q1⟩
 | false=>exact hb wh pins s1 σ H1 Q I1 q1
theorem ZcV(ha:PT X a tA):PT X (.UnaryOp .Not a pos) (tNot tA):=by
 intro pins s σ H Q I h
 exact isTrue_not (ha pins s σ H (fun c H1=>Q (!c) H1) I h)
noncomputable def tAndV(ta tb:TE):TE:=fun σ H Q=>ta σ H fun x H1=>∃ c,x=.bl c∧if c=true then tb σ H1 Q else Q (.bl false) H1
noncomputable def tNotV(ta:TE):TE:=fun σ H Q=>ta σ H fun x H1=>∃ c,x=.bl c∧Q (.bl (!c)) H1
theorem Zfc{op}{t:TE}(h:PE X a t):PE X (.BoolOp op [a] pos) t:=fun pins s σ H Q I hw=>BoolOp_one (h pins s σ H Q I hw)
theorem Zer(ha:PE X a ta)(hb:PE X (.BoolOp .And (b::rest) pos) tb):PE X (.BoolOp .And (a::b::rest) pos) (tAndV ta tb):=by
 intro pins s σ H Q I h
 refine BoolOp_and (thn (ha pins s σ H _ I h) fun v s1 ⟨x,H1,I1,r1,q1⟩=>?_)
 obtain⟨c,rfl,q1⟩:=q1
 cases r1
 refine wpAny_truthy_bool ?_
 cases c with
 | true=>exact hb pins s1 σ H1 Q I1 q1
 | false=>exact⟨.bl false,H1,I1,rfl,q1⟩
theorem Zkj(ha:PE X a ta):PE X (.UnaryOp .Not a pos) (tNotV ta):=by
 intro pins s σ H Q I h
 refine UnaryOp_ (thn (ha pins s σ H _ I h) fun v s1 ⟨x,H1,I1,r1,q1⟩=>?_)
 obtain⟨c,rfl,q1⟩:=q1
 cases r1
 exact not_of (wpAny_truthy_bool ⟨.bl (!c),H1,I1,rfl,q1⟩)
noncomputable def tIf(t:TT)(ta tb:TE):TE:=fun σ H Q=>t σ H fun c H1=>if c=true then ta σ H1 Q else tb σ H1 Q
theorem Zjq{c:Expr}(hc:PT X c tA)(ha:PE X a ta)(hb:PE X b tb):PE X (.IfExp c a b pos) (tIf tA ta tb):=by
 intro pins s σ H Q I h
 refine wpAny_IfExp (thn (hc pins s σ H _ I h) fun d s1 ⟨H1,I1,q1⟩=>?_)
 cases d with
 | true=>exact ha pins s1 σ H1 Q I1 q1
 | false=>exact hb pins s1 σ H1 Q I1 q1
end
end L2
namespace L2
open PySem PySem.Spec PyProof.Rows
noncomputable def SqL(K:W.Frag)(H:Hp)(a:Addr)(xs:List V):Prop :=
 Rd H a (.lst xs) ∨
  ∃ (o:Obj) (its:Array Value) (n:Nat),K.lookup a=some o∧o.cls=.type "list" ∧ o.dict=none∧o.data=.seq its n∧its.size≤sizeLine∧Vals xs its.toList
noncomputable def SqT(K:W.Frag)(H:Hp)(a:Addr)(xs:List V):Prop :=
 Rd H a (.tup xs) ∨
  ∃ (o:Obj) (its:Array Value) (n:Nat),K.lookup a=some o∧o.cls=.type "tuple" ∧ o.data=.seq its n∧its.size≤sizeLine∧Vals xs its.toList
noncomputable def absV:Value→Option V
 | .none=>some .non
 | .bool b=>some (.bl b)
 | .int i _=>some (.int i)
 | .str x _=>some (.str x)
 | .bytes b _=>some (.byt b)
 | .float b _=>some (.flt b)
 | .ref a=>some (.ref a)
 | .type n=>some (.ty n)
 | _=>none
theorem RelV.abs{x:V}{u:Value}(r:RelV x u):absV u=some x:=by
 cases x with
 | non=>cases r;rfl
 | bl _=>cases r;rfl
 | int _=>obtain⟨t,rfl⟩:=r;rfl
 | str _=>obtain⟨t,rfl⟩:=r;rfl
 | byt _=>obtain⟨t,rfl⟩:=r;rfl
 | flt _=>obtain⟨t,rfl⟩:=r;rfl
 | ref _=>cases r;rfl
 | ty _=>cases r;rfl
theorem RelV.inj{x y:V}{u:Value}(r:RelV x u)(q:RelV y u):x=y:=Option.some.inj (r.abs.symm.trans q.abs)
theorem Vals.inj:∀ {xs ys:List V} {us:List Value},Vals xs us→Vals ys us→xs=ys
 | _,_,_,.nil,.nil=>rfl
 | _,_,_,.cons r t,.cons r' t'=>by rw[r.inj r',Vals.inj t t']
section
variable{X:Cx}{pins:List (Addr×Obj)}{σ:St}{H:Hp}{s:Shared}{a:Addr}{xs ys:List V}
theorem SqL.of{K:W.Frag}(h:H a=some (.lst xs)):SqL K H a xs:=.inl (.inl h)
theorem SqT.of{K:W.Frag}(h:H a=some (.tup xs)):SqT K H a xs:=.inl (.inl h)
theorem Inv.list(I:Inv X pins σ H s)(h:SqL X.K H a xs):∃ its:List Value,Vals xs its∧PlainL s.heap a its.toArray∧xs.length≤sizeLine:=by
 rcases h with h|⟨o,its,n,hk,hc,hd,hs,hz,r⟩
 ·obtain⟨z,its,n,r,e⟩:=h.ok I.hok
  exact⟨its,r,⟨_,n,e,rfl,rfl,rfl⟩,z⟩
 ·refine⟨its.toList,r,⟨o,n,I.kIn a o hk,hc,hd,by simpa using hs⟩,?_⟩
  have e:=r.length
  simp only[Array.length_toList] at e
  omega
theorem Inv.tuple(I:Inv X pins σ H s)(h:SqT X.K H a xs):∃ its:List Value,Vals xs its∧IsTup s.heap a its.toArray∧xs.length≤sizeLine:=by
 rcases h with h|⟨o,its,n,hk,hc,hs,hz,r⟩
 ·obtain⟨z,its,r,p⟩:=h.ok I.hok
  exact⟨its,r,p,z⟩
 ·refine⟨its.toList,r,⟨o,I.kIn a o hk,hc,n,by simpa using hs⟩,?_⟩
  have e:=r.length
  simp only[Array.length_toList] at e
  omega
theorem Inv.list_inj(I:Inv X pins σ H s)(h:SqL X.K H a xs)(h':SqL X.K H a ys):xs=ys:=by
 obtain⟨its,r,⟨o,n,e,_,_,d⟩,_⟩:=I.list h
 obtain⟨its',r',⟨o',n',e',_,_,d'⟩,_⟩:=I.list h'
 rw[e] at e';cases e'
 rw[d] at d'
 injection d' with d1 _
 have:its=its':=by simpa using congrArg Array.toList d1
 subst this
 exact r.inj r'
theorem Inv.tuple_inj(I:Inv X pins σ H s)(h:SqT X.K H a xs)(h':SqT X.K H a ys):xs=ys:=by
 obtain⟨its,r,⟨o,e,_,n,d⟩,_⟩:=I.tuple h
 obtain⟨its',r',⟨o',e',_,n',d'⟩,_⟩:=I.tuple h'
 rw[e] at e';cases e'
 rw[d] at d'
 injection d' with d1 _
 have:its=its':=by simpa using congrArg Array.toList d1
 subst this
 exact r.inj r'
end
noncomputable abbrev Cx.wish(X:Cx)(E:Value→Shared→Prop):Cx:={ X with xe:=E }
noncomputable abbrev Cx.nox(X:Cx):Cx:=X.wish fun _ _=>False
theorem Cx.Ok.wish{X:Cx}(ok:X.Ok)(E:Value→Shared→Prop):(X.wish E).Ok :=
 ⟨ok.mod,ok.kind,ok.glob,ok.blt,ok.above,ok.inj,ok.has,ok.cab,ok.hd,ok.frames,ok.stk,ok.exf,ok.bs,ok.bsz,ok.noex,ok.exfs,ok.funs,ok.frf⟩
theorem Cx.Ok.unwish{X:Cx}{E:Value→Shared→Prop}(ok:(X.wish E).Ok):X.Ok :=
 ⟨ok.mod,ok.kind,ok.glob,ok.blt,ok.above,ok.inj,ok.has,ok.cab,ok.hd,ok.frames,ok.stk,ok.exf,ok.bs,ok.bsz,ok.noex,ok.exfs,ok.funs,ok.frf⟩
section
variable{X:Cx}{pins:List (Addr×Obj)}{σ:St}{H:Hp}{s:Shared}{E:Value→Shared→Prop}
theorem Inv.wish(I:Inv X pins σ H s)(E:Value→Shared→Prop):Inv (X.wish E) pins σ H s:=⟨I.ok.wish E,I.os,I.bare,I.base,I.loc,I.cell,I.free,I.freeC,I.pin,I.hok,I.len⟩
theorem Inv.unwish(I:Inv (X.wish E) pins σ H s):Inv X pins σ H s:=⟨I.ok.unwish,I.os,I.bare,I.base,I.loc,I.cell,I.free,I.freeC,I.pin,I.hok,I.len⟩
theorem SP.unwish{D:Ends}{f:Flow}{s':Shared}(h:SP (X.wish E) pins D f s'):SP X pins D f s':=by
 cases f with
 | next=>obtain⟨σ',H',I,q⟩:=h;exact⟨σ',H',I.unwish,q⟩
 | brk=>obtain⟨σ',H',I,q⟩:=h;exact⟨σ',H',I.unwish,q⟩
 | cont=>obtain⟨σ',H',I,q⟩:=h;exact⟨σ',H',I.unwish,q⟩
 | ret u=>obtain⟨v,σ',H',I,r,q⟩:=h;exact⟨v,σ',H',I.unwish,r,q⟩
theorem PSs.nox{st:List Stmt}{t:TS}(h:PSs X.nox st t):PSs X st t:=fun pins s σ H D I hw =>
 wpAny_mono (h pins s σ H D (I.wish _) hw) (fun _ _ q=>q.unwish) fun _ _ z=>False.elim z
end
section
variable{X:Cx}{st:Stmt}{rest:List Stmt}{t u:TS}{e:Expr}{te:TE}{pos:Pos}
noncomputable def tNext:TS:=fun D σ H=>D.nx σ H
noncomputable def tSeq(t u:TS):TS:=fun D σ H=>t { D with nx:=u D } σ H
theorem ZaO:PSs X [] tNext:=fun _ _ σ H _ I h=>wpAny_execs_nil ⟨σ,H,I,h⟩
theorem Zab(h1:PS X st t)(h2:PSs X rest u):PSs X (st::rest) (tSeq t u):=by
 intro pins s σ H D I h
 refine wpAny_execs_cons (thn (h1 pins s σ H { D with nx:=u D } I h) fun f s1 q=>?_)
 cases f with
 | next =>
  obtain⟨σ',H',I',q⟩:=q
  exact h2 pins s1 σ' H' D I' q
 | ret v=>exact q
 | brk=>exact q
 | cont=>exact q
theorem Zae(h1:PS X st t):PSs X [st] t:=by
 intro pins s σ H D I h
 refine wpAny_execs_cons (thn (h1 pins s σ H D I h) fun f s1 q=>?_)
 cases f with
 | next=>exact wpAny_execs_nil q
 | ret v=>exact q
 | brk=>exact q
 | cont=>exact q
theorem Inv.quiet{pins:List (Addr×Obj)}{σ:St}{H:Hp}{s:Shared}(I:Inv X pins σ H s):interactive X.env=false:=by simp[interactive,I.ok.kind]
noncomputable def tDrop(te:TE):TS:=fun D σ H=>te σ H fun _ H1=>D.nx σ H1
theorem ZaV(he:PE X e te)(hs:swapsWith e none pos.line X.env=pure false:=by rfl):PS X (.Expr e pos) (tDrop te):=by
 intro pins s σ H D I h
 exact wpAny_Expr_any (thn (he pins s σ H _ I h) fun v s1 ⟨x,H1,I1,r1,q1⟩=>⟨σ,H1,I1,q1⟩) I.quiet hs
noncomputable def tRet(te:TE):TS:=fun D σ H=>te σ H D.rt
theorem Zaw(he:PE X e te):PS X (.Return (some e) pos) (tRet te):=by
 intro pins s σ H D I h
 exact wpAny_Return_some (thn (he pins s σ H _ I h) fun v s1 ⟨x,H1,I1,r1,q1⟩=>⟨x,σ,H1,I1,r1,q1⟩)
noncomputable def tIfS(c:TT)(t u:TS):TS:=fun D σ H=>c σ H fun b H1=>if b=true then t D σ H1 else u D σ H1
theorem Zdl{c:Expr}{a b:List Stmt}{tc:TT}(hc:PT X c tc)(ha:PSs X a t)(hb:PSs X b u):PS X (.If c a b pos) (tIfS tc t u):=by
 intro pins s σ H D I h
 refine wpAny_If (thn (hc pins s σ H _ I h) fun d s1 ⟨H1,I1,q1⟩=>?_)
 cases d with
 | true=>exact ha pins s1 σ H1 D I1 q1
 | false=>exact hb pins s1 σ H1 D I1 q1
noncomputable def tNever:TS:=fun _ _ _=>False
theorem Zjr:PS X st tNever:=fun _ _ _ _ _ _ h=>h.elim
end
noncomputable abbrev TG:=V→St→Hp→(St→Hp→Prop)→Prop
noncomputable abbrev TGs:=List V→St→Hp→(St→Hp→Prop)→Prop
noncomputable def PG(X:Cx)(target:Expr)(t:TG):Prop :=
 ∀ (pins:List (Addr×Obj)) (s:Shared) (σ:St) (H:Hp) (v:V) (u:Value) (Q:St→Hp→Prop),Inv X pins σ H s→RelV v u→t v σ H Q →
  wpAny (model X.prog X.w) X.A (assign target X.env u) (fun _ s'=>∃ σ' H',Inv X pins σ' H' s'∧Q σ' H') X.xe s
noncomputable def PGs(X:Cx)(ts:List Expr)(t:TGs):Prop :=
 ∀ (pins:List (Addr×Obj)) (s:Shared) (σ:St) (H:Hp) (vs:List V) (us:List Value) (Q:St→Hp→Prop),Inv X pins σ H s→Vals vs us→t vs σ H Q →
  wpAny (model X.prog X.w) X.A (assignInOrder ((assignEach ts X.env).map (·.2)) us) (fun _ s'=>∃ σ' H',Inv X pins σ' H' s'∧Q σ' H') X.xe s
noncomputable abbrev TSet:=V→V→V→Hp→(Hp→Prop)→Prop
noncomputable def PSet(X:Cx)(t:TSet):Prop :=
 ∀ (pins:List (Addr×Obj)) (s:Shared) (σ:St) (H:Hp) (o i v:V) (ov iv u:Value) (Q:Hp→Prop),Inv X pins σ H s→RelV o ov→RelV i iv→RelV v u→t o i v H Q →
  wpAny (model X.prog X.w) X.A (setItem ov iv u) (fun _ s'=>∃ H',Inv X pins σ H' s'∧Q H') X.xe s
section
variable{X:Cx}{pos:Pos}
noncomputable def gName(i:Nat):TG:=fun v σ H Q=>Q (σ.set i (some v)) H
theorem Zal{i:Nat}{x:Str}(hN:X.N.Nodup)(hi:X.N[i]?=some x)(hx:Loc X.env.scope x)(hf:X.fn x=true∨X.env.scope.names.lookup x=some .local:=by first|exact .inl rfl|exact .inr rfl|assumption):PG X (.Name x pos) (gName i):=by
 intro pins s σ H v u Q I r h
 exact wpAny_assign_Name (ZeI I hN hi hx r (fun s' I'=>⟨_,H,I',h⟩) hf)
noncomputable def gNil:TGs:=fun vs σ H Q=>vs=[]∧Q σ H
noncomputable def gCons(t:TG)(u:TGs):TGs:=fun vs σ H Q=>∃ v r,vs=v::r∧t v σ H fun σ' H'=>u r σ' H' Q
theorem Zdm:PGs X [] gNil:=by
 intro pins s σ H vs us Q I r h
 obtain⟨e,h⟩:=h
 subst e
 cases r
 exact assignInOrder_nil ⟨σ,H,I,h⟩
theorem Za5{e:Expr}{es:List Expr}{t:TG}{u:TGs}(h1:PG X e t)(h2:PGs X es u)
  (hs:(assignEach (e::es) X.env).map (·.2)=assign e X.env::(assignEach es X.env).map (·.2):=by rfl):PGs X (e::es) (gCons t u):=by
 intro pins s σ H vs us Q I r h
 obtain⟨v,vr,e1,h⟩:=h
 subst e1
 cases r with
 | cons r rr =>
  rw[hs]
  refine assignInOrder_cons (thn (h1 pins s σ H _ _ _ I r h) fun _ s1 ⟨σ1,H1,I1,q1⟩=>?_)
  exact h2 pins s1 σ1 H1 _ _ Q I1 rr q1
noncomputable def gTup(K:W.Frag)(n:Nat)(t:TGs):TG:=fun v σ H Q=>∃ a xs,v=.ref a∧SqT K H a xs∧xs.length=n∧t xs σ H Q
theorem Zmg{es:List Expr}{k:Nat}{t:TGs}{n:Nat}(hc:X.calm=true)(h:PGs X es t)
  (hn:(assignEach es X.env).length=n:=by rfl) (hst:(assignEach es X.env).findIdx? (·.1)=none:=by rfl):PG X (.Tuple es k pos) (gTup X.K n t):=by
 intro pins s σ H v u Q I r hw
 obtain⟨a,xs,e1,hq,hl,hw⟩:=hw
 subst e1
 cases r
 obtain⟨its,rv,ht,hz⟩:=I.tuple hq
 refine assign_Tuple_tuple (I.ok.hd hc) ht (by simp[hn,← hl,rv.length]) hst fun h' hx=>?_
 have I1:Inv X pins σ H { s with heap:=h' }:=I.kept (t':=s.toks) fun b o e=>hx b o (Nat.ne_of_lt (Heap.lt_size e)) e
 exact h pins _ σ H xs _ Q I1 (by simpa using rv) hw
noncomputable def gSub(to ti:TE)(t:TSet):TG:=fun v σ H Q=>to σ H fun o H1=>ti σ H1 fun i H2=>t o i v H2 fun H3=>Q σ H3
theorem Zfd{o i:Expr}{to ti:TE}{t:TSet}(ho:PE X o to)(hi:PE X i ti)(hs:PSet X t)
  (ha:∀ v,assign (.Subscript o i pos) X.env v=(do
   let ov ← holding [v] (eval o X.env)
   let iv ← holding [v,ov] (eval i X.env)
   standAt pos
   holding [v,ov,iv] (setItem ov iv v)
   release [v,ov,iv] []):=by intro _;rfl):PG X (.Subscript o i pos) (gSub to ti t):=by
 intro pins s σ H v u Q I r h
 rw[ha]
 refine wpAny_bind (wpAny_holding (thn (ho pins s σ H _ I h) fun ov s1 ⟨x,H1,I1,r1,q1⟩=>?_))
 refine wpAny_bind (wpAny_holding (thn (hi pins s1 σ H1 _ I1 q1) fun iv s2 ⟨y,H2,I2,r2,q2⟩=>?_))
 refine wpAny_bind (wpAny_standAt (wpAny_bind (wpAny_holding (thn (hs pins s2 σ H2 x y v ov iv u _ I2 r1 r2 r q2) fun _ s3 ⟨H3,I3,q3⟩=>?_))))
 exact wpAny_release ⟨σ,H3,I3,q3⟩
noncomputable def tAsg(te:TE)(g:TG):TS:=fun D σ H=>te σ H fun x H1=>g x σ H1 D.nx
theorem ZdN{tg e:Expr}{te:TE}{g:TG}(he:PE X e te)(hg:PG X tg g)(hs:swapsWithSole [tg] e pos.line X.env=pure false:=by rfl)(hw:swappedStores [tg] e X.env=pure none:=by rfl)
  (h1:(assignEach [tg] X.env).map (·.2)=[assign tg X.env]:=by rfl):PS X (.Assign [tg] e pos) (tAsg te g):=by
 intro pins s σ H D I h
 refine wpAny_Assign_stores (thn (he pins s σ H _ I h) fun v s1 ⟨x,H1,I1,r1,q1⟩=>?_) hs hw
 rw[h1]
 exact thn (hg pins s1 σ H1 x v _ I1 r1 q1) fun _ s2 q=>q
theorem Zag{i:Nat}{x:Str}{e:Expr}{te:TE}{pos':Pos}(hN:X.N.Nodup)(hi:X.N[i]?=some x)(hx:Loc X.env.scope x)(he:PE X e te)(hs:swapsWith e (some (.Name x pos')) pos.line X.env=pure false:=by rfl)(hf:X.fn x=true∨X.env.scope.names.lookup x=some .local:=by first|exact .inl rfl|exact .inr rfl|assumption) :
  PS X (.Assign [.Name x pos'] e pos) (tAsg te (gName i)):=by
 intro pins s σ H D I h
 refine wpAny_Assign_Name (thn (he pins s σ H _ I h) fun v s1 ⟨y,H1,I1,r1,q1⟩=>?_) hs
 exact ZeI I1 hN hi hx r1 (fun s2 I2=>⟨_,H1,I2,q1⟩) hf
end
section
variable{X:Cx}{pos:Pos}
noncomputable def tWhile(c:TT)(tb:TS):TS:=fun D σ H=>∃ W:Nat→St→Hp→Prop,(∃ m,W m σ H)∧∀ m σ H,W m σ H →
 c σ H fun b H1=>if b=true then ∃ N:St→Hp→Prop,(∀ σ' H',N σ' H'→∃ m',m' < m∧W m' σ' H')∧tb { D with nx:=N,ct:=N,bk:=D.nx } σ H1 else D.nx σ H1
theorem Zb6{c:Expr}{body:List Stmt}{tc:TT}{tb:TS}(hp:PassesOwn (model X.prog X.w) X.A X.env X.xe)(hc:PT X c tc)(hb:PSs X body tb):PS X (.While c body [] pos) (tWhile tc tb):=by
 intro pins s σ H D I h
 obtain⟨W,⟨m0,w0⟩,turn⟩:=h
 refine wpAny_While (codeAny_whileLoop (fun n s'=>∃ σ' H',Inv X pins σ' H' s'∧W n σ' H') ?_ m0 ⟨σ,H,I,w0⟩)
 rintro n s1 ⟨σ1,H1,I1,w1⟩
 refine wpAny_passesOwn hp (thn (hc pins s1 σ1 H1 _ I1 (turn n σ1 H1 w1)) fun b s2 ⟨H2,I2,q2⟩=>?_)
 cases b with
 | true =>
  obtain⟨N,hN,q2⟩:=q2
  rw[if_pos rfl]
  refine wpAny_passesOwn hp (thn (hb pins s2 σ1 H2 _ I2 q2) fun f s3 q3=>?_)
  cases f with
  | next =>
   obtain⟨σ3,H3,I3,n3⟩:=q3
   obtain⟨m',hm,w3⟩:=hN σ3 H3 n3
   exact⟨m',hm,σ3,H3,I3,w3⟩
  | cont =>
   obtain⟨σ3,H3,I3,n3⟩:=q3
   obtain⟨m',hm,w3⟩:=hN σ3 H3 n3
   exact⟨m',hm,σ3,H3,I3,w3⟩
  | brk=>exact q3
  | ret v=>exact q3
 | false =>
  rw[if_neg Bool.false_ne_true]
  exact wpAny_execs_nil ⟨σ1,H2,I2,q2⟩
end
structure It where
 go:Nat→Hp→Prop
 yld:Nat→Hp→V→Hp→Prop
 stop:Nat→Hp→Prop
noncomputable def FpOk(X:Cx)(pins:List (Addr×Obj))(H:Hp)(b:Addr):Prop :=
 H b=none∧b≠X.env.locals∧b∉X.fs∧(b∈X.ex∨X.s₀.heap.objs.size≤b)∧(∀ x c,X.env.cells.lookup x=some c→c≠b)∧∀ p∈X.pn++pins,p.1≠b
theorem Inv.fpOk{X:Cx}{pins:List (Addr×Obj)}{σ:St}{H H':Hp}{s:Shared}{b:Addr}(I:Inv X pins σ H s)(hb:s.heap.objs.size≤b)(hn:H' b=none):FpOk X pins H' b:=by
 refine⟨hn,Nat.ne_of_gt (Nat.lt_of_lt_of_le I.lt hb),I.nofs hb,.inr (Nat.le_trans I.sz hb),fun x c e z=>?_,fun p hp z=>?_⟩
 ·obtain⟨v,q⟩:=I.cell x c e
  exact absurd (Nat.lt_of_lt_of_le q.lt (by rw[z];exact hb)) (Nat.lt_irrefl _)
 ·exact absurd (Nat.lt_of_lt_of_le (Heap.lt_size (I.pin p hp).1) (by rw[z];exact hb)) (Nat.lt_irrefl _)
structure Turn(P:Program)(w:World)(K:W.Frag)(tg:Expr)(J:It)(fp:List Addr)(it:Addr)(tn:Nat→Heap→Prop):Prop where
 mem:it∈fp
 obj:∀ i h,tn i h→∀ b∈fp,∃ o,h.get? b=some o∧∀ v,o.data≠.cell v
 keep:∀ i h h',tn i h→(∀ b∈fp,∀ o,h.get? b=some o→h'.get? b=some o)→tn i h'
 item:∀ (X:Cx),X.prog=P→X.w=w→X.K=K→X.calm=true→∀ (i:Nat) (pins:List (Addr×Obj)) (s:Shared) (σ:St) (H:Hp) (E:Value→Shared→Prop),Inv X pins σ H s→(∀ b∈fp,FpOk X pins H b)→tn i s.heap→J.go i H →
  wpAny (model P w) X.A (pyNext (.ref it)) (fun r s1=>∃ u,r=some u ∧
   wpAny (model P w) X.A (letOwnedTupleGo tg (.ref it) u) (fun _ s2=>∃ x H',Inv X pins σ H' s2∧RelV x u∧J.yld i H x H'∧tn (i+1) s2.heap∧∀ b∈fp,H' b=none) E s1) E s
 done:∀ (X:Cx),X.prog=P→X.w=w→X.K=K→X.calm=true→∀ (i:Nat) (pins:List (Addr×Obj)) (s:Shared) (σ:St) (H:Hp) (E:Value→Shared→Prop),Inv X pins σ H s→(∀ b∈fp,FpOk X pins H b)→tn i s.heap→J.stop i H →
  wpAny (model P w) X.A (pyNext (.ref it)) (fun r s1=>r=none∧Inv X pins σ H s1) E s
 self:∀ (A:Around) (i:Nat) (s:Shared) (Q:Value→Shared→Prop) (E:Value→Shared→Prop),tn i s.heap→Q (.ref it) s→wpAny (model P w) A (pyIter (.ref it)) Q E s
noncomputable abbrev TI:=St→Hp→(It→Hp→Prop)→Prop
noncomputable def PIE(X:Cx)(pins:List (Addr×Obj))(σ:St)(tg:Expr)(R:It→Hp→Prop)(itv:Value)(s2:Shared):Prop :=
 ∃ (it:Addr) (fp:List Addr) (tn:Nat→Heap→Prop) (J:It) (H':Hp),itv=.ref it∧Inv X pins σ H' s2∧Turn X.prog X.w X.K tg J fp it tn∧tn 0 s2.heap∧(∀ b∈fp,FpOk X pins H' b)∧R J H'
noncomputable def PI(X:Cx)(tg iter:Expr)(wi:TI):Prop :=
 ∀ (pins:List (Addr×Obj)) (s:Shared) (σ:St) (H:Hp) (R:It→Hp→Prop),Inv X pins σ H s→wi σ H R →
  wpAny (model X.prog X.w) X.A (eval iter X.env) (fun v s1=>wpAny (model X.prog X.w) X.A (pyIter v) (PIE X pins σ tg R) X.xe s1) X.xe s
theorem Zjs{M:Model}{A:Around}{E:Value→Shared→Prop}{s:Shared}{tg:Expr}{it:Addr}{u:Value}{o:Obj}{n:String}{vs:Array Value}{Q:Unit→Shared→Prop}(ho:s.heap.get? it=some o)(hc:o.cls=.type n)(hd:o.data=.fields vs)
    (hn:["enumerate", "zip", "dict_itemiterator", "dict_reverseitemiterator", "odict_iterator", "itertools.zip_longest", "itertools.pairwise"].contains n=false) (hQ:Q () s):wpAny M A (letOwnedTupleGo tg (.ref it) u) Q E s:=by
  unfold letOwnedTupleGo
  cases tg<;>first
    | exact wpAny_pure hQ
    | (cases u<;>first
        | exact wpAny_pure hQ
        | (refine wpAny_bind (wpAny_load ho ?_)
           rw[hc,hd]
           show wpAny M A (if (["enumerate", "zip", "dict_itemiterator", "dict_reverseitemiterator", "odict_iterator", "itertools.zip_longest", "itertools.pairwise"].contains n && vs[0]? == some (rawInt _))=true then _ else _) Q E s
           rw[if_neg (by intro h;rw[hn,Bool.false_and] at h;cases h)]
           exact wpAny_pure hQ))
noncomputable def Itl(K:W.Frag)(a:Addr):It :=
 ⟨fun i H=>∃ xs x,SqL K H a xs∧xs[i]?=some x,fun i H x H'=>H'=H∧∀ xs,SqL K H a xs→xs[i]?=some x,fun i H=>∃ xs,SqL K H a xs∧xs.length≤i⟩
noncomputable def Itt(K:W.Frag)(a:Addr):It :=
 ⟨fun i H=>∃ xs x,SqT K H a xs∧xs[i]?=some x,fun i H x H'=>H'=H∧∀ xs,SqT K H a xs→xs[i]?=some x,fun i H=>∃ xs,SqT K H a xs∧xs.length≤i⟩
noncomputable def Itr(lo:Int)(n:Nat):It:=⟨fun i _=>i<n,fun i H x H'=>H'=H∧x=.int (lo+i),fun i _=>n≤i⟩
theorem ZhD{P:Program}{w:World}{K:W.Frag}{tg:Expr}(a it:Addr):Turn P w K tg (Itl K a) [it] it (fun i h=>h.IsListIter it a i) where
 mem:=by simp
 obj:=fun i h st b hb=>by
  have e:b=it:=by simpa using hb
  subst e
  obtain⟨o,e,c,d⟩:=st
  exact⟨o,e,fun v z=>by rw[d] at z;cases z⟩
 keep:=fun i h h' st k=>st.at fun o e=>k it (by simp) o e
 item:=by
  intro X hP hw hK hc i pins s σ H E I hf st hg
  subst hP hw hK
  obtain⟨xs,x,hq,hx⟩:=hg
  obtain⟨its,rv,p,hz⟩:=I.list hq
  obtain⟨u,hu,ru⟩:=rv.get hx
  obtain⟨f0,f1,f2,f3,f4,f5⟩:=hf it (by simp)
  refine wpAny_pyNext_list_item st p.isList (x:=u) (by simpa using hu) fun h' st' sb=>?_
  have I1:Inv X pins σ H { s with heap:=h' }:=I.turned (t':=s.toks) (fun b o hb e=>(sb.2 b hb).trans e) f0 f1 f3 f4 f5
  obtain⟨o,e,c,d⟩:=id st'
  exact⟨u,rfl,Zjs (s:={ s with heap:=h' }) e c d (by decide) ⟨x,H,I1,ru,⟨rfl,fun ys hy=>by rw[I.list_inj hy hq];exact hx⟩,st',fun b hb=>(hf b hb).1⟩⟩
 done:=by
  intro X hP hw hK hc i pins s σ H E I hf st hg
  subst hP hw hK
  obtain⟨xs,hq,hx⟩:=hg
  obtain⟨its,rv,p,hz⟩:=I.list hq
  obtain⟨f0,f1,f2,f3,f4,f5⟩:=hf it (by simp)
  have hl:=rv.length
  exact wpAny_pyNext_list_end (I.ok.hd hc) st p.isList (by simp;omega) fun h' eb=>⟨rfl,I.turned (t':=s.toks) (fun b o hb e=>eb b o hb e) f0 f1 f3 f4 f5⟩
 self:=fun _ _ _ _ _ st h=>wpAny_pyIter_listiter st h
theorem Zhe{P:Program}{w:World}{K:W.Frag}{tg:Expr}(a it:Addr):Turn P w K tg (Itt K a) [it] it (fun i h=>h.IsTupleIter it a i) where
 mem:=by simp
 obj:=fun i h st b hb=>by
  have e:b=it:=by simpa using hb
  subst e
  obtain⟨o,e,c,d⟩:=st
  exact⟨o,e,fun v z=>by rw[d] at z;cases z⟩
 keep:=fun i h h' st k=>st.at fun o e=>k it (by simp) o e
 item:=by
  intro X hP hw hK hc i pins s σ H E I hf st hg
  subst hP hw hK
  obtain⟨xs,x,hq,hx⟩:=hg
  obtain⟨its,rv,p,hz⟩:=I.tuple hq
  obtain⟨u,hu,ru⟩:=rv.get hx
  obtain⟨f0,f1,f2,f3,f4,f5⟩:=hf it (by simp)
  refine wpAny_pyNext_tuple_item st (show s.heap.IsTuple a its.toArray from p) (x:=u) (by simpa using hu) fun h' st' sb=>?_
  have I1:Inv X pins σ H { s with heap:=h' }:=I.turned (t':=s.toks) (fun b o hb e=>(sb.2 b hb).trans e) f0 f1 f3 f4 f5
  obtain⟨o,e,c,d⟩:=id st'
  exact⟨u,rfl,Zjs (s:={ s with heap:=h' }) e c d (by decide) ⟨x,H,I1,ru,⟨rfl,fun ys hy=>by rw[I.tuple_inj hy hq];exact hx⟩,st',fun b hb=>(hf b hb).1⟩⟩
 done:=by
  intro X hP hw hK hc i pins s σ H E I hf st hg
  subst hP hw hK
  obtain⟨xs,hq,hx⟩:=hg
  obtain⟨its,rv,p,hz⟩:=I.tuple hq
  obtain⟨f0,f1,f2,f3,f4,f5⟩:=hf it (by simp)
  have hl:=rv.length
  exact wpAny_pyNext_tuple_end (I.ok.hd hc) st (show s.heap.IsTuple a its.toArray from p) (by simp;omega) fun h' eb=>⟨rfl,I.turned (t':=s.toks) (fun b o hb e=>eb b o hb e) f0 f1 f3 f4 f5⟩
 self:=fun _ _ _ _ _ st h=>wpAny_pyIter_tupleiter st h
theorem Zhf{P:Program}{w:World}{K:W.Frag}{tg:Expr}(it:Addr)(lo:Int)(n:Nat):Turn P w K tg (Itr lo n) [it] it (fun i h=>IsRangeIter h it (lo+(i:Nat)*1) ((n:Int)-(i:Nat)) 1) where
 mem:=by simp
 obj:=fun i h st b hb=>by
  have e:b=it:=by simpa using hb
  subst e
  exact⟨_,st,fun v z=>by
   have z':Data.fields _=Data.cell v:=z
   cases z'⟩
 keep:=fun i h h' st k=>k it (by simp) _ st
 item:=by
  intro X hP hw hK hc i pins s σ H E I hf st hg
  subst hP hw hK
  obtain⟨f0,f1,f2,f3,f4,f5⟩:=hf it (by simp)
  have W:=Walks.range (prog:=X.prog) (w:=X.w) (I.ok.hd hc) it lo 1 n
  refine W.item i s _ _ hg st fun v h' tk hv st' kk=>?_
  obtain⟨t,rfl⟩:=hv
  have I1:Inv X pins σ H { s with heap:=h',toks:=tk }:=I.turned (fun b o hb e=>kk b o (by simpa using hb) e) f0 f1 f3 f4 f5
  refine⟨_,rfl,Zjs (s:={ s with heap:=h',toks:=tk }) (n := "range_iterator") st' rfl rfl (by decide) ⟨.int (lo+i),H,I1,⟨t,?_⟩,⟨rfl,rfl⟩,st',fun b hb=>(hf b hb).1⟩⟩
  rw[Int.mul_one]
 done:=by
  intro X hP hw hK hc i pins s σ H E I hf st hg
  subst hP hw hK
  obtain⟨f0,f1,f2,f3,f4,f5⟩:=hf it (by simp)
  exact wpAny_pyNext_range_end (I.ok.hd hc) st (by have:n≤i:=hg;omega) fun h' eb=>⟨rfl,I.turned (t':=s.toks) (fun b o hb e=>eb b o hb e) f0 f1 f3 f4 f5⟩
 self:=fun _ _ _ _ _ st h=>wpAny_pyIter_rangeiter st h
end L2
namespace L2
open PySem PySem.Spec PyProof.Rows
section
variable{X:Cx}{tg:Expr}
theorem Zgv{pins:List (Addr×Obj)}{σ:St}{H:Hp}{s:Shared}{R:It→Hp→Prop}{E:Value→Shared→Prop}{lo hi:Int}{t u v:Tok}{tk:Nat}(I:Inv X pins σ H s)(h1:-(2 ^ 62)≤lo)(h2:lo<2 ^ 62)(h3:-(2 ^ 62)≤hi)(h4:hi<2 ^ 62)
  (q:R (Itr lo (hi-lo).toNat) H):wpAny (model X.prog X.w) X.A (pyIter (.ref s.heap.objs.size)) (PIE X pins σ tg R) E { s with heap:=s.heap.push { cls:=.type "range",data:=.fields #[.int lo t,.int hi u,.int 1 v] },toks:=tk }:=by
 refine wpAny_pyIter_range (IsRange.new ..) (small_one h1 h2 h3 h4) ?_
 have I1:Inv X pins σ H { s with heap:=s.heap.push { cls:=.type "range",data:=.fields #[.int lo t,.int hi u,.int 1 v] },toks:=tk }:=I.kept fun b o e=>Heap.get?_push_of_some _ e
 refine⟨(s.heap.push { cls:=.type "range",data:=.fields #[.int lo t,.int hi u,.int 1 v] }).objs.size,[(s.heap.push { cls:=.type "range",data:=.fields #[.int lo t,.int hi u,.int 1 v] }).objs.size],_,_,H,rfl,
  I1.kept (t':=tk) fun b o e=>Heap.get?_push_of_some _ e,Zhf _ lo (hi-lo).toNat,?_,fun b hb=>?_,q⟩
 ·have e1:lo+((0:Nat):Int)*1=lo:=by simp
  have e2:(((hi-lo).toNat:Nat):Int)-((0:Nat):Int)=Builtin.Range.rangeSize lo hi 1:=by rw[rangeSize_one];split<;>omega
  show IsRangeIter _ _ (lo+((0:Nat):Int)*1) ((((hi-lo).toNat:Nat):Int)-((0:Nat):Int)) 1
  rw[e1,e2]
  exact Heap.get?_push_size _ rfl
 ·have e:b=(s.heap.push { cls:=.type "range",data:=.fields #[.int lo t,.int hi u,.int 1 v] }).objs.size:=by simpa using hb
  subst e
  exact I1.fpOk (Nat.le_refl _) (I1.hok.fresh (Nat.le_refl _))
noncomputable def iRng1(ta:TA):TI:=fun σ H R=>ta σ H fun vs H1=>∃ j:Int,vs=[.int j]∧-(2 ^ 62)≤j∧j<2 ^ 62∧R (Itr 0 j.toNat) H1
noncomputable def iRng2(ta:TA):TI:=fun σ H R=>ta σ H fun vs H1=>∃ i j:Int,vs=[.int i,.int j]∧(-(2 ^ 62)≤i∧i<2 ^ 62∧-(2 ^ 62)≤j∧j<2 ^ 62)∧R (Itr i (j-i).toNat) H1
theorem ZaT{a:Expr}{ta:TA}{p pos:Pos}(hg:Gl X "range")(hm:X.mg "range" = none)(ha:PA X [a] ta)(hs:starEach [a] X.env=[(false,eval a X.env)]:=by rfl):PI X tg (.Call (.Name "range" p) [a] [] pos) (iRng1 ta):=by
 intro pins s σ H R I h
 refine Call_ (ZcD I hg hm boot_range (PyProof.Rows.callWith_type1 (thn (ha pos pins s σ H _ I h) fun us s1 ⟨vs,H1,I1,r1,q1⟩=>?_) hs rfl))
 obtain⟨j,e,q1,q2,q⟩:=q1
 subst e
 cases r1 with
 | cons r rr =>
  cases rr
  obtain⟨t,rfl⟩:=r
  exact call_range_1 (Zgv I1 (by omega) (by omega) q1 q2 (by simpa using q))
theorem ZhE{a b:Expr}{ta:TA}{p pos:Pos}(hg:Gl X "range")(hm:X.mg "range" = none)(ha:PA X [a,b] ta)(hs:starEach [a,b] X.env=[(false,eval a X.env),(false,eval b X.env)]:=by rfl)(hs2:starEach [b] X.env=[(false,eval b X.env)]:=by rfl) :
  PI X tg (.Call (.Name "range" p) [a,b] [] pos) (iRng2 ta):=by
 intro pins s σ H R I h
 refine Call_ (ZcD I hg hm boot_range (PyProof.Rows.callWith_type1 (thn (ha pos pins s σ H _ I h) fun us s1 ⟨vs,H1,I1,r1,q1⟩=>?_) (by rw[hs,hs2]) (by rw[hs2];rfl)))
 obtain⟨i,j,e,⟨q1,q2,q3,q4⟩,q⟩:=q1
 subst e
 cases r1 with
 | cons r rr =>
  cases rr with
  | cons r' rr =>
   cases rr
   obtain⟨t,rfl⟩:=r
   obtain⟨t',rfl⟩:=r'
   exact call_range_2 (Zgv I1 q1 q2 q3 q4 q)
noncomputable def tFor(wi:TI)(g:TG)(tb:TS):TS:=fun D σ H=>wi σ H fun J H1=>∃ W:Nat→Nat→St→Hp→Prop,(∃ m,W 0 m σ H1)∧∀ i m σ H,W i m σ H →
 (J.stop i H∧D.nx σ H)∨(J.go i H∧∃ N:St→Hp→Prop,(∀ σ' H',N σ' H'→∃ m',m' < m∧W (i+1) m' σ' H')∧∀ x H',J.yld i H x H'→g x σ H' fun σ2 H2=>tb { D with nx:=N,ct:=N,bk:=D.nx } σ2 H2)
noncomputable def pinsAt(fp:List Addr)(h:Heap):List (Addr×Obj):=fp.filterMap fun b=>(h.get? b).map fun o=>(b,o)
theorem Zcs{fp:List Addr}{h:Heap}{b:Addr}{o:Obj}(hb:b∈fp)(e:h.get? b=some o):(b,o)∈pinsAt fp h:=List.mem_filterMap.mpr ⟨b,hb,by rw[e];rfl⟩
theorem ZhF{fp:List Addr}{h:Heap}{p:Addr×Obj}(hp:p∈pinsAt fp h):p.1∈fp∧h.get? p.1=some p.2:=by
 obtain⟨b,hb,e⟩:=List.mem_filterMap.mp hp
 cases q:h.get? b with
 | none=>rw[q] at e;cases e
 | some o =>
  rw[q] at e
  have e':(b,o)=p:=Option.some.inj e
  subst e'
  exact⟨hb,q⟩
theorem Inv.pinned{pins:List (Addr×Obj)}{σ:St}{H:Hp}{s:Shared}{fp:List Addr}(I:Inv X pins σ H s)(hf:∀ b∈fp,FpOk X pins H b)(ho:∀ b∈fp,∃ o,s.heap.get? b=some o∧∀ v,o.data≠.cell v):Inv X (pins++pinsAt fp s.heap) σ H s :=
 I.pins_of fun p hp=>(List.mem_append.mp hp).elim (fun z=>I.pin p (List.mem_append_right _ z)) fun z=>by
  obtain⟨hb,e⟩:=ZhF z
  obtain⟨f0,f1,f2,_⟩:=hf p.1 hb
  obtain⟨o,e',d⟩:=ho p.1 hb
  rw[e] at e';cases e'
  exact⟨e,f0,f1,f2,d⟩
theorem Inv.unpinned{pins pl:List (Addr×Obj)}{σ:St}{H:Hp}{s:Shared}(I:Inv X (pins++pl) σ H s):Inv X pins σ H s:=I.pins_of fun p hp=>I.pin p (List.mem_append_right _ (List.mem_append_left _ hp))
theorem Zbp{iter:Expr}{body:List Stmt}{wi:TI}{g:TG}{tb:TS}{pos:Pos}(hp:PassesOwn (model X.prog X.w) X.A X.env X.xe)(hc:X.calm=true)(hi:PI X tg iter wi)(hg:PG X tg g)(hb:PSs X body tb)
  (hs:∀ x,foldedSetIterable iter X.env x=pure x:=by intro _;rfl):PS X (.For tg iter body [] pos) (tFor wi g tb):=by
 intro pins s σ H D I h
 refine wpAny_For (thn (hi pins s σ H _ I h) fun v s1 h1=>thn h1 fun itv s2 h2=>?_) hs
 obtain⟨it,fp,tn,J,H2,e,I2,T,st2,f2,W,⟨m0,w0⟩,turn⟩:=h2
 subst e
 have stat:∀ {H':Hp},(∀ b∈fp,H' b=none)→∀ b∈fp,FpOk X pins H' b:=fun hn b hb=>⟨hn b hb,(f2 b hb).2⟩
 refine codeAny_forLoop_any (fun n s'=>∃ i σ' H',Inv X pins σ' H' s'∧tn i s'.heap∧(∀ b∈fp,H' b=none)∧W i n σ' H') ?_ m0 ⟨0,σ,H2,I2,st2,fun b hb=>(f2 b hb).1,w0⟩
 rintro n s3 ⟨i,σ3,H3,I3,st3,fr3,w3⟩
 rcases turn i n σ3 H3 w3 with⟨stop,qn⟩|⟨go,N,hN,step⟩
 ·refine wpAny_passesOwn hp (thn (T.done X rfl rfl rfl hc i pins s3 σ3 H3 X.xe I3 (stat fr3) st3 stop) fun r s4 ⟨hr,I4⟩=>?_)
  subst hr
  exact wpAny_execs_nil ⟨σ3,H3,I4,qn⟩
 ·refine wpAny_passesOwn hp (thn (T.item X rfl rfl rfl hc i pins s3 σ3 H3 X.xe I3 (stat fr3) st3 go) fun r s4 ⟨u,hr,h4⟩=>?_)
  subst hr
  refine wpAny_passesOwn hp (thn h4 fun _ s5 ⟨x,H5,I5,r5,y5,st5,fr5⟩=>?_)
  have I5':=I5.pinned (stat fr5) (T.obj _ _ st5)
  refine wpAny_passesOwn hp (thn (hg _ s5 σ3 H5 x u _ I5' r5 (step x H5 y5)) fun _ s6 ⟨σ6,H6,I6,q6⟩=>?_)
  refine wpAny_passesOwn hp (thn (hb _ s6 σ6 H6 _ I6 q6) fun f s7 q7=>?_)
  have again:∀ {σ7:St} {H7:Hp},Inv X (pins++pinsAt fp s5.heap) σ7 H7 s7→N σ7 H7→∃ m,m<n∧∃ i σ' H',Inv X pins σ' H' s7∧tn i s7.heap∧(∀ b∈fp,H' b=none)∧W i m σ' H':=fun {σ7 H7} I7 n7=>by
   obtain⟨m',hm,w7⟩:=hN σ7 H7 n7
   refine⟨m',hm,i+1,σ7,H7,I7.unpinned,T.keep _ _ _ st5 fun b hb o e=>(I7.pin (b,o) (List.mem_append_right _ (List.mem_append_right _ (Zcs hb e)))).1,fun b hb=>?_,w7⟩
   obtain⟨o,e,d⟩:=T.obj _ _ st5 b hb
   exact (I7.pin (b,o) (List.mem_append_right _ (List.mem_append_right _ (Zcs hb e)))).2.1
  cases f with
  | next=>obtain⟨σ7,H7,I7,n7⟩:=q7;exact again I7 n7
  | cont=>obtain⟨σ7,H7,I7,n7⟩:=q7;exact again I7 n7
  | brk=>obtain⟨σ7,H7,I7,q7⟩:=q7;exact⟨σ7,H7,I7.unpinned,q7⟩
  | ret v=>obtain⟨x7,σ7,H7,I7,r7,q7⟩:=q7;exact⟨x7,σ7,H7,I7.unpinned,r7,q7⟩
end
end L2
namespace L2
open PySem PySem.Spec PyProof.Rows
noncomputable abbrev R2:=V→V→Hp→VK→Prop
noncomputable def OpR(X:Cx)(f:Value→Value→Sem Value)(r:R2):Prop :=
 ∀ (pins:List (Addr×Obj)) (s:Shared) (σ:St) (H:Hp) (x y:V) (v u:Value) (Q:VK),Inv X pins σ H s→RelV x v→RelV y u→r x y H Q →
  wpAny (model X.prog X.w) X.A (f v u) (EP X pins σ Q) X.xe s
noncomputable def CallR(X:Cx)(f:Value)(r:List V→Hp→VK→Prop):Prop :=
 ∀ (pins:List (Addr×Obj)) (s:Shared) (σ:St) (H:Hp) (xs:List V) (us:List Value) (Q:VK),Inv X pins σ H s→Vals xs us→r xs H Q →
  wpAny (model X.prog X.w) X.A (call f us) (EP X pins σ Q) X.xe s
noncomputable def tOp(r:R2)(ta tb:TE):TE:=fun σ H Q=>ta σ H fun x H1=>tb σ H1 fun y H2=>r x y H2 Q
noncomputable def rI(C:Int→Int→Prop)(g:Int→Int→V):R2:=fun x y H Q=>∃ i j,x=.int i∧y=.int j∧C i j∧Q (g i j) H
noncomputable def rI0(g:Int→Int→V):R2:=fun x y H Q=>∃ i j,x=.int i∧y=.int j∧Q (g i j) H
section
variable{X:Cx}{a b c:Expr}{ta tb tc:TE}{pos:Pos}
theorem binT(ha:PE X a ta)(hb:PE X b tb){pins:List (Addr×Obj)}{s:Shared}{σ:St}{H:Hp}{R:V→V→Hp→Prop}(I:Inv X pins σ H s)
  (h:ta σ H fun x H1=>tb σ H1 fun y H2=>R x y H2) {Q:Value→Shared→Prop} {f:Value→Value→Sem Value}
  (hf:∀ v u s2 x y H2,Inv X pins σ H2 s2→RelV x v→RelV y u→R x y H2→wpAny (model X.prog X.w) X.A (f v u) Q X.xe s2) :
  wpAny (model X.prog X.w) X.A (eval a X.env) (fun v s₁=>wpAny (model X.prog X.w) X.A (eval b X.env) (fun u s₂=>wpAny (model X.prog X.w) X.A (f v u) Q X.xe s₂) X.xe s₁) X.xe s:=by
 refine thn (ha pins s σ H _ I h) fun v s1 ⟨x,H1,I1,r1,q1⟩=>?_
 refine thn (hb pins s1 σ H1 _ I1 q1) fun u s2 ⟨y,H2,I2,r2,q2⟩=>?_
 exact hf v u s2 x y H2 I2 r1 r2 q2
theorem Zan{op:Operator}{r:R2}(ho:OpR X (binaryOp op) r)(ha:PE X a ta)(hb:PE X b tb):PE X (.BinOp a op b pos) (tOp r ta tb):=by
 intro pins s σ H Q I h
 exact wpAny_BinOp (binT ha hb I h fun v u s2 x y H2 I2 rx ry q=>ho pins s2 σ H2 x y v u Q I2 rx ry q)
theorem opI{f:Value→Value→Sem Value}{C:Int→Int→Prop}{g:Int→Int→Int}
  (rule:∀ (i j:Int) (t u:Tok) (s:Shared) (Q:Value→Shared→Prop) (E:Value→Shared→Prop),C i j→Q (.int (g i j) s.toks) { s with toks:=s.toks+1 }→wpAny (model X.prog X.w) X.A (f (.int i t) (.int j u)) Q E s) :
  OpR X f (rI C fun i j=>.int (g i j)):=by
 intro pins s σ H x y v u Q I rx ry h
 obtain⟨i,j,rfl,rfl,hc,q⟩:=h
 obtain⟨t,rfl⟩:=rx
 obtain⟨t',rfl⟩:=ry
 exact rule i j t t' s _ _ hc ⟨.int (g i j),H,I.tok _,⟨_,rfl⟩,q⟩
theorem opI0{f:Value→Value→Sem Value}{g:Int→Int→Int}
  (rule:∀ (i j:Int) (t u:Tok) (s:Shared) (Q:Value→Shared→Prop) (E:Value→Shared→Prop),Q (.int (g i j) s.toks) { s with toks:=s.toks+1 }→wpAny (model X.prog X.w) X.A (f (.int i t) (.int j u)) Q E s) :
  OpR X f (rI0 fun i j=>.int (g i j)):=by
 intro pins s σ H x y v u Q I rx ry h
 obtain⟨i,j,rfl,rfl,q⟩:=h
 obtain⟨t,rfl⟩:=rx
 obtain⟨t',rfl⟩:=ry
 exact rule i j t t' s _ _ ⟨.int (g i j),H,I.tok _,⟨_,rfl⟩,q⟩
theorem opB0{f:Value→Value→Sem Value}{g:Int→Int→Bool}
  (rule:∀ (i j:Int) (t u:Tok) (s:Shared) (Q:Value→Shared→Prop) (E:Value→Shared→Prop),Q (.bool (g i j)) s→wpAny (model X.prog X.w) X.A (f (.int i t) (.int j u)) Q E s) :
  OpR X f (rI0 fun i j=>.bl (g i j)):=by
 intro pins s σ H x y v u Q I rx ry h
 obtain⟨i,j,rfl,rfl,q⟩:=h
 obtain⟨t,rfl⟩:=rx
 obtain⟨t',rfl⟩:=ry
 exact rule i j t t' s _ _ ⟨.bl (g i j),H,I,rfl,q⟩
noncomputable def CDiv(i j:Int):Prop:=0<j∧j<1073741824
noncomputable def CPow(i j:Int):Prop:=0≤j∧j≤1000000∧i.natAbs<2 ^ 64
noncomputable def CMul(i j:Int):Prop:=(-(2 ^ 64)<i∧i<2 ^ 64)∨(-(2 ^ 64)<j∧j<2 ^ 64)
theorem CMul.ok{i j:Int}(h:CMul i j):IntMulOk i j:=by
 rcases h with⟨h1,h2⟩|⟨h1,h2⟩
 ·exact .of_left (intBits_le_64 h1 h2)
 ·exact .of_right (intBits_le_64 h1 h2)
theorem Zmh:OpR X (binaryOp .Add) (rI0 fun i j=>.int (i+j)):=opI0 fun _ _ _ _ _ _ _ q=>add_int q
theorem Zkk:OpR X (binaryOp .Sub) (rI0 fun i j=>.int (i-j)):=opI0 fun _ _ _ _ _ _ _ q=>sub_int q
theorem Zmi:OpR X (binaryOp .Mult) (rI CMul fun i j=>.int (i*j)):=opI fun _ _ _ _ _ _ _ hc q=>mul_int q hc.ok
theorem Za7:OpR X (binaryOp .FloorDiv) (rI CDiv fun i j=>.int (i / j)):=opI fun i j _ _ _ _ _ hc q=>by
 have h1:(0:Int)<j:=hc.1
 have h2:j<1073741824:=hc.2
 exact floordiv_int (by omega) (by rw[Int.fdiv_eq_ediv_of_nonneg i (by omega)];exact q) (.inl (PyProof.noPylong_small (by omega)))
theorem ZaU:OpR X (binaryOp .Mod) (rI (fun _ j=>0<j) fun i j=>.int (i%j)):=opI fun i j _ _ _ _ _ hc q=>by
 have h1:(0:Int)<j:=hc
 exact mod_int' (by omega) (by rw[Int.fmod_eq_emod_of_nonneg i (by omega)];exact q)
theorem Zmj:OpR X (binaryOp .Pow) (rI CPow fun i j=>.int (i ^ j.toNat)):=opI fun _ _ _ _ _ _ _ hc q=>pow_int_small hc.1 hc.2.1 hc.2.2 q
end
noncomputable def scal:V→V→Bool
 | .non,.non=>true|.non,.int _=>true|.int _,.non=>true|.non,.bl _=>true|.bl _,.non=>true|.non,.str _=>true|.str _,.non=>true
 | .int _,.int _=>true|.bl _,.bl _=>true|.str _,.str _=>true|.byt _,.byt _=>true
 | .int _,.str _=>true|.str _,.int _=>true|.bl _,.str _=>true|.str _,.bl _=>true
 | _,_=>false
noncomputable def rEq:R2:=fun x y H Q=>scal x y=true∧Q (.bl (decide (x=y))) H
noncomputable def rNe:R2:=fun x y H Q=>scal x y=true∧Q (.bl (!decide (x=y))) H
theorem ZhG{i j:Int}:decide (V.int i=V.int j)=(i == j):=by
 rw[Bool.eq_iff_iff]
 simp
theorem Zkl{i j:Bool}:decide (V.bl i=V.bl j)=(i == j):=by
 rw[Bool.eq_iff_iff]
 simp
theorem ZhH{i j:Str}:decide (V.str i=V.str j)=(i == j):=by
 rw[Bool.eq_iff_iff]
 simp
theorem ZhI{i j:Array UInt8}:decide (V.byt i=V.byt j)=(i.toList == j.toList):=by
 rw[Bool.eq_iff_iff]
 cases i
 cases j
 simp
section
variable{X:Cx}{a b c:Expr}{ta tb tc:TE}{pos:Pos}
theorem ZaF{pins:List (Addr×Obj)}{σ:St}{H:Hp}{s:Shared}{Q:VK}{k k':Bool}(I:Inv X pins σ H s)(q:Q (.bl k) H)(e:k=k'):EP X pins σ Q (.bool k') s:=by
 subst e
 exact⟨.bl k,H,I,rfl,q⟩
theorem ZnZ:OpR X (compareOp .Eq) rEq:=by
 intro pins s σ H x y v u Q I rx ry h
 obtain⟨hs,q⟩:=h
 cases x with
 | non =>
  cases rx
  cases y with
  | non=>cases ry;exact PySem.EqNone.eq_none_none (ZaF I q (by simp))
  | bl j=>cases ry;exact PySem.EqNone.eq_none_bool (ZaF I q (by simp))
  | int j=>obtain⟨t',rfl⟩:=ry;exact PySem.EqNone.eq_none_int (ZaF I q (by simp))
  | str j=>obtain⟨t',rfl⟩:=ry;exact PySem.EqNone.eq_none_str (ZaF I q (by simp))
  | _=>exact absurd (show false=true from hs) Bool.false_ne_true
 | bl i =>
  cases rx
  cases y with
  | non=>cases ry;exact PySem.EqNone.eq_bool_none (ZaF I q (by simp))
  | bl j=>cases ry;exact eq_bool (ZaF I q Zkl)
  | str j=>obtain⟨t',rfl⟩:=ry;exact PySem.EqMixed.eq_bool_str (ZaF I q (by simp))
  | _=>exact absurd (show false=true from hs) Bool.false_ne_true
 | int i =>
  obtain⟨t,rfl⟩:=rx
  cases y with
  | non=>cases ry;exact PySem.EqNone.eq_int_none (ZaF I q (by simp))
  | int j=>obtain⟨t',rfl⟩:=ry;exact eq_int (ZaF I q ZhG)
  | str j=>obtain⟨t',rfl⟩:=ry;exact PySem.EqMixed.eq_int_str (ZaF I q (by simp))
  | _=>exact absurd (show false=true from hs) Bool.false_ne_true
 | str i =>
  obtain⟨t,rfl⟩:=rx
  cases y with
  | non=>cases ry;exact PySem.EqNone.eq_str_none (ZaF I q (by simp))
  | bl j=>cases ry;exact PySem.EqMixed.eq_str_bool (ZaF I q (by simp))
  | int j=>obtain⟨t',rfl⟩:=ry;exact PySem.EqMixed.eq_str_int (ZaF I q (by simp))
  | str j=>obtain⟨t',rfl⟩:=ry;exact eq_str (ZaF I q ZhH)
  | _=>exact absurd (show false=true from hs) Bool.false_ne_true
 | byt i =>
  obtain⟨t,rfl⟩:=rx
  cases y with
  | byt j=>obtain⟨t',rfl⟩:=ry;exact PySem.W.eq_bytes (ZaF I q ZhI)
  | _=>exact absurd (show false=true from hs) Bool.false_ne_true
 | _=>cases y<;>exact absurd (show false=true from hs) Bool.false_ne_true
theorem Zn0:OpR X (compareOp .NotEq) rNe:=by
 intro pins s σ H x y v u Q I rx ry h
 obtain⟨hs,q⟩:=h
 cases x with
 | non =>
  cases rx
  cases y with
  | non=>cases ry;exact PySem.EqNone.ne_none_none (ZaF I q (by simp))
  | bl j=>cases ry;exact PySem.EqNone.ne_none_bool (ZaF I q (by simp))
  | int j=>obtain⟨t',rfl⟩:=ry;exact PySem.EqNone.ne_none_int (ZaF I q (by simp))
  | str j=>obtain⟨t',rfl⟩:=ry;exact PySem.EqNone.ne_none_str (ZaF I q (by simp))
  | _=>exact absurd (show false=true from hs) Bool.false_ne_true
 | bl i =>
  cases rx
  cases y with
  | non=>cases ry;exact PySem.EqNone.ne_bool_none (ZaF I q (by simp))
  | bl j=>cases ry;exact ne_bool (ZaF I q (congrArg not Zkl))
  | str j=>obtain⟨t',rfl⟩:=ry;exact PySem.EqMixed.ne_bool_str (ZaF I q (by simp))
  | _=>exact absurd (show false=true from hs) Bool.false_ne_true
 | int i =>
  obtain⟨t,rfl⟩:=rx
  cases y with
  | non=>cases ry;exact PySem.EqNone.ne_int_none (ZaF I q (by simp))
  | int j=>obtain⟨t',rfl⟩:=ry;exact ne_int (ZaF I q (congrArg not ZhG))
  | str j=>obtain⟨t',rfl⟩:=ry;exact PySem.EqMixed.ne_int_str (ZaF I q (by simp))
  | _=>exact absurd (show false=true from hs) Bool.false_ne_true
 | str i =>
  obtain⟨t,rfl⟩:=rx
  cases y with
  | non=>cases ry;exact PySem.EqNone.ne_str_none (ZaF I q (by simp))
  | bl j=>cases ry;exact PySem.EqMixed.ne_str_bool (ZaF I q (by simp))
  | int j=>obtain⟨t',rfl⟩:=ry;exact PySem.EqMixed.ne_str_int (ZaF I q (by simp))
  | str j=>obtain⟨t',rfl⟩:=ry;exact ne_str (ZaF I q (congrArg not ZhH))
  | _=>exact absurd (show false=true from hs) Bool.false_ne_true
 | byt i =>
  obtain⟨t,rfl⟩:=rx
  cases y with
  | byt j=>obtain⟨t',rfl⟩:=ry;exact PySem.W.ne_bytes (ZaF I q (congrArg not ZhI))
  | _=>exact absurd (show false=true from hs) Bool.false_ne_true
 | _=>cases y<;>exact absurd (show false=true from hs) Bool.false_ne_true
theorem ZdO:OpR X (compareOp .Lt) (rI0 fun i j=>.bl (decide (i<j))):=opB0 fun _ _ _ _ _ _ _ q=>lt_int q
theorem ZkP:OpR X (compareOp .LtE) (rI0 fun i j=>.bl (decide (i≤j))):=opB0 fun _ _ _ _ _ _ _ q=>le_int q
theorem ZeJ:OpR X (compareOp .Gt) (rI0 fun i j=>.bl (decide (j<i))):=opB0 fun _ _ _ _ _ _ _ q=>gt_int q
theorem Zmk:OpR X (compareOp .GtE) (rI0 fun i j=>.bl (decide (j≤i))):=opB0 fun _ _ _ _ _ _ _ q=>ge_int q
theorem Zkm:OpR X (compareOp .Is) (fun x y H Q=>y=.non∧Q (.bl (decide (x=.non))) H):=by
 intro pins s σ H x y v u Q I rx ry h
 obtain⟨rfl,q⟩:=h
 cases ry
 refine is_none_gen (ZaF I q ?_)
 cases x<;>first
  | (cases rx;rfl)
  | (obtain⟨t,rfl⟩:=rx;rfl)
theorem OpR.or{f:Value→Value→Sem Value}{r r':R2}(h:OpR X f r)(h':OpR X f r'):OpR X f (fun x y H Q=>r x y H Q∨r' x y H Q):=by
 intro pins s σ H x y v u Q I rx ry q
 rcases q with q|q
 ·exact h pins s σ H x y v u Q I rx ry q
 ·exact h' pins s σ H x y v u Q I rx ry q
theorem nomark(b:Expr){op:CmpOp}(h:op≠.In:=by decide)(h2:op≠.NotIn:=by decide):behindInMarks op b=false:=by
 have e1:(op == CmpOp.In)=false:=by cases op<;>first|rfl|exact absurd rfl h
 have e2:(op == CmpOp.NotIn)=false:=by cases op<;>first|rfl|exact absurd rfl h2
 cases b<;>simp[behindInMarks,e1,e2]
theorem Zdn{op:CmpOp}{r:R2}(ho:OpR X (compareOp op) r)(ha:PE X a ta)(hb:PE X b tb)(hm:behindInMarks op b=false):PE X (.Compare a [op] [b] pos) (tOp r ta tb):=by
 intro pins s σ H Q I h
 exact wpAny_Compare1 (binT ha hb I h fun v u s2 x y H2 I2 rx ry q=>ho pins s2 σ H2 x y v u Q I2 rx ry q) hm
noncomputable def tTest(t:TE):TT:=fun σ H Q=>t σ H fun x H'=>∃ k,x=.bl k∧Q k H'
theorem Zas{op:CmpOp}{r:R2}(ho:OpR X (compareOp op) r)(ha:PE X a ta)(hb:PE X b tb)(hm:behindInMarks op b=false):PT X (.Compare a [op] [b] pos) (tTest (tOp r ta tb)):=by
 intro pins s σ H Q I h
 refine wpAny_isTrue_Compare1 (thn (ha pins s σ H _ I h) fun v s1 ⟨x,H1,I1,r1,q1⟩=>thn (hb pins s1 σ H1 _ I1 q1) fun u s2 ⟨y,H2,I2,r2,q2⟩ =>
  thn (ho pins s2 σ H2 x y v u _ I2 r1 r2 q2) fun c s3 ⟨z,H3,I3,r3,k,e,q3⟩=>?_) hm
 subst e
 cases r3
 exact wpAny_truthy_bool ⟨H3,I3,q3⟩
noncomputable def tChain(r r':R2)(ta tb tc:TE):TE:=fun σ H Q=>ta σ H fun x H1=>tb σ H1 fun y H2=>r x y H2 fun z H3=>∃ k,z=.bl k ∧
 (if k=true then tc σ H3 fun w' H4=>r' y w' H4 Q else Q (.bl false) H3)
theorem Zjt{op op':CmpOp}{r r':R2}(ho:OpR X (compareOp op) r)(ho':OpR X (compareOp op') r')(ha:PE X a ta)(hb:PE X b tb)(hc:PE X c tc)
  (hm:lastMarks [op,op'] [b,c]=false:=by with_unfolding_all rfl):PT X (.Compare a [op,op'] [b,c] pos) (tTest (tChain r r' ta tb tc)):=by
 intro pins s σ H Q I h
 refine isTrue_chain (thn (ha pins s σ H _ I h) fun v s1 ⟨x,H1,I1,r1,q1⟩=>test_link (thn (hb pins s1 σ H1 _ I1 q1) fun u s2 ⟨y,H2,I2,r2,q2⟩ =>
  thn (ho pins s2 σ H2 x y v u _ I2 r1 r2 q2) fun d s3 ⟨z,H3,I3,r3,k,e,q3⟩=>?_)) hm
 subst e
 cases r3
 refine wpAny_truthy_bool ?_
 cases k with
 | false =>
  obtain⟨k',e',q'⟩:=q3
  cases e'
  exact ite_ff ⟨H3,I3,q'⟩
 | true =>
  refine ite_tt (test_last (thn (hc pins s3 σ H3 _ I3 q3) fun w' s4 ⟨z',H4,I4,r4,q4⟩=>thn (ho' pins s4 σ H4 y z' u w' _ I4 r2 r4 q4) fun d' s5 ⟨z2,H5,I5,r5,k2,e2,q5⟩=>?_))
  subst e2
  cases r5
  exact wpAny_truthy_bool ⟨H5,I5,q5⟩
theorem line63:(sizeLine:Nat)<2 ^ 63:=by rw[sizeLine_eq];decide
theorem Zhg:OpR X (binaryOp .Add) (fun x y H Q=>∃ i j,x=.str i∧y=.str j∧i.length+j.length≤sizeLine∧Q (.str (i++j)) H):=by
 intro pins s σ H x y v u Q I rx ry h
 obtain⟨i,j,rfl,rfl,hz,q⟩:=h
 obtain⟨t,rfl⟩:=rx
 obtain⟨t',rfl⟩:=ry
 exact add_str (fun t' tk=>⟨.str (i++j),H,I.tok _,⟨_,rfl⟩,q⟩) hz
theorem vals1{x:V}{us:List Value}(r:Vals [x] us):∃ u,us=[u]∧RelV x u:=by
 cases r with
 | cons r1 r2=>cases r2;exact⟨_,rfl,r1⟩
theorem vals2{x y:V}{us:List Value}(r:Vals [x,y] us):∃ u w',us=[u,w']∧RelV x u∧RelV y w':=by
 cases r with
 | cons r1 r2 =>
  cases r2 with
  | cons r3 r4=>cases r4;exact⟨_,_,rfl,r1,r3⟩
theorem Zfe(hc:X.calm=true):CallR X (.builtin "max") (fun xs H Q=>∃ i j,xs=[.int i,.int j]∧Q (.int (if j > i then j else i)) H):=by
 intro pins s σ H xs us Q I r h
 obtain⟨i,j,rfl,q⟩:=h
 obtain⟨u,w',rfl,⟨t,rfl⟩,⟨t',rfl⟩⟩:=vals2 r
 refine max_two_ints (I.ok.hd hc) fun h' tk k=>⟨_,H,I.kept k,?_,q⟩
 by_cases hj:j > i
 ·rw[if_pos hj,if_pos hj];exact⟨_,rfl⟩
 ·rw[if_neg hj,if_neg hj];exact⟨_,rfl⟩
theorem ZhJ:CallR X (.type "int") (fun xs H Q=>(∃ i,xs=[.int i]∧Q (.int i) H)∨∃ k,xs=[.bl k]∧Q (.int (if k then 1 else 0)) H):=by
 intro pins s σ H xs us Q I r h
 rcases h with⟨i,rfl,q⟩|⟨k,rfl,q⟩
 ·obtain⟨u,rfl,t,rfl⟩:=vals1 r
  exact call_int_int ⟨.int i,H,I,⟨_,rfl⟩,q⟩
 ·obtain⟨u,rfl,r1⟩:=vals1 r
  cases r1
  exact call_int_bool ⟨.int (if k then 1 else 0),H,I.tok _,⟨_,rfl⟩,q⟩
end
end L2
namespace L2
open PySem PySem.Spec PyProof.Rows
structure ObjM(h:Heap)(x dx C:Addr)(mA:Str→Option Value):Prop where
 obj:h.get? x=some (PySem.W.instObj C dx)
 ns:h.Ns1 dx mA
 ne:dx≠x
theorem ZhK{h:Heap}{dx:Addr}{mA:Str→Option Value}(n:h.Ns1 dx mA):∃ od,h.get? dx=some od∧∀ name,PySem.W.lookIn name od=some (mA name):=by
 obtain⟨o,es,ep,ho,hd,hk,_,hm⟩:=n
 refine⟨o,ho,fun name=>?_⟩
 have e:=hm name
 unfold nsFind findBy at e
 rw[← Array.find?_toList] at e
 unfold PySem.W.lookIn
 rw[hd]
 dsimp only
 split
 ·rename_i y q
  rw[q] at e
  exact congrArg some e
 ·rename_i q
  rw[q] at e
  have a:es.toList.any (·.refKey)=false:=by
   rw[List.any_eq_false]
   intro y hy
   obtain⟨z,t,hkey⟩:=hk y (Array.mem_toList_iff.mp hy)
   simp[DictEntry.refKey,hkey]
  have a':¬ es.toList.any (·.refKey)=true:=by rw[a];exact Bool.false_ne_true
  rw[if_neg a']
  exact congrArg some e
theorem ObjM.look{h:Heap}{x dx C:Addr}{mA:Str→Option Value}(I:ObjM h x dx C mA):∃ od,PySem.W.InstAt h x (PySem.W.instObj C dx) C (some od)∧∀ name,PySem.W.lookIn name od=some (mA name) :=
 let ⟨od,ho,hl⟩:=ZhK I.ns
 ⟨od,⟨I.obj,rfl,rfl,ho⟩,hl⟩
section
variable{prog:Program}{w:World}{A:Around}{E:Value→Shared→Prop}{s:Shared}{K:W.Frag}{x dx C f:Addr}{mA:Str→Option Value}{name:Str}{v:Value}
end
theorem RelO.some_of{v:V}{o:Option Value}(r:RelO (some v) o):∃ u,o=some u∧RelV v u:=by
 cases o with
 | none=>exact (show False from r).elim
 | some u=>exact⟨u,rfl,r⟩
section
variable{P:Program}{w:World}{H H':Hp}{h h':Heap}{a C dx:Addr}{fs fs':List (Str×V)}
theorem ZkQ(hok:HOk P w H h)(e:H a=some (.ins C dx fs)):∃ mA,ObjM h a dx C mA∧(∀ f,RelO (fs.lookup f) (mA f))∧PySem.Within mA (fs.map (·.1))∧fs.length≤1000∧H dx=some (.own a):=by
 obtain⟨d,z,ne,ob,mA,n,r,q⟩:=(show ObjOk P w H h a (.ins C dx fs) from hok a _ e)
 exact⟨mA,⟨ob,n,ne⟩,r,q,z,d⟩
end
structure Cls(K:W.Frag)(C:Addr):Prop where
 pg:PySem.W.plainGet K C Str.empty=true
 hd:PySem.W.hasDictIn K C=true
 po:PySem.W.plainOver K C=true
 sa:PySem.W.findIn K (.ref C) "__setattr__" = some (some (.builtin "object.__setattr__"))
theorem Cls.get{K:W.Frag}{C:Addr}(c:Cls K C)(f:Str):PySem.W.plainGet K C f=true:=c.pg
section
variable{X:Cx}{pins:List (Addr×Obj)}{σ:St}{H:Hp}{s:Shared}{a C dx:Addr}{fs:List (Str×V)}{f:Str}{v:V}{A:Around}{E:Value→Shared→Prop}
end
section
variable{X:Cx}{o e value:Expr}{f:Str}{pos pos' tpos:Pos}{ta tv:TE}
end
section
variable{X:Cx}{pins:List (Addr×Obj)}{σ:St}{H:Hp}{s:Shared}{A:Around}{E:Value→Shared→Prop}{Q:Value→Shared→Prop}{c:Value}{b:Bool}
inductive TyOf(K:W.Frag)(H:Hp):V→Value→Prop where
 | non:TyOf K H .non (.type "NoneType")
 | bl (x:Bool):TyOf K H (.bl x) (.type "bool")
 | int (i:Int):TyOf K H (.int i) (.type "int")
 | str (x:Str):TyOf K H (.str x) (.type "str")
 | flt (x:UInt64):TyOf K H (.flt x) (.type "float")
 | lst {a:Addr} {xs:List V} (e:H a=some (.lst xs)):TyOf K H (.ref a) (.type "list")
 | frz {a:Addr} {o:Obj} {xs:List V} (e:H a=some (.frz o (.lst xs))):TyOf K H (.ref a) (.type "list")
 | tup {a:Addr} {xs:List V} (e:H a=some (.tup xs)):TyOf K H (.ref a) (.type "tuple")
 | dK {a:Addr} {kvs:List (Key×V)} (e:H a=some (.dK kvs)):TyOf K H (.ref a) (.type "dict")
 | dT {a:Addr} {kvs:List (List Key×V)} (e:H a=some (.dT kvs)):TyOf K H (.ref a) (.type "dict")
 | ins {a C dx:Addr} {fs:List (Str×V)} (e:H a=some (.ins C dx fs)) (cl:Cls K C) (ha:PySem.W.findIn K (.ref C) "__class__" = some (some (.builtin "object.__class__")))
   (hn:PySem.W.specialIn K (.builtin "object.__class__") "__get__" = some (some (.builtin "getset_descriptor.__get__"))) (htk:PySem.W.takesIn K (.builtin "object.__class__")=some true)
   (hm:PySem.W.mroIn K C (.type "object")=some true):TyOf K H (.ref a) (.ref C)
theorem ZhL{x:V}{u t:Value}(I:Inv X pins σ H s)(rx:RelV x u)(ty:TyOf X.K H x t)(e:PySem.W.kitOne X.K t c=some b)(h:∀ tk,Q (.bool b) { s with toks:=tk }) :
  wpAny (model X.prog X.w) A (call (.builtin "isinstance") [u,c]) Q E s:=by
 cases ty with
 | non=>cases (show u=Value.none from rx);exact PySem.W.kia_one PySem.W.kitx_none I.kIn True.intro e (fun z=>nomatch z) h
 | bl y=>cases (show u=Value.bool y from rx);exact PySem.W.kia_one PySem.W.kitx_bool I.kIn True.intro e (fun z=>nomatch z) h
 | int i=>obtain⟨t,q⟩:=(show ∃ t,u=Value.int i t from rx);cases q;exact PySem.W.kia_one PySem.W.kitx_int I.kIn True.intro e (fun z=>nomatch z) h
 | str y=>obtain⟨t,q⟩:=(show ∃ t,u=Value.str y t from rx);cases q;exact PySem.W.kia_one PySem.W.kitx_str I.kIn True.intro e (fun z=>nomatch z) h
 | flt y=>obtain⟨t,q⟩:=(show ∃ t,u=Value.float y t from rx);cases q;exact PySem.W.kia_one PySem.W.kitx_float I.kIn True.intro e (fun z=>nomatch z) h
 | @lst a xs ea =>
  cases (show u=Value.ref a from rx)
  obtain⟨_,_,n,_,h1⟩:=(show ObjOk X.prog X.w H s.heap a (.lst xs) from I.hok a _ ea)
  exact PySem.W.kia_one PySem.W.kitx_list I.kIn ⟨_,h1,rfl⟩ e (fun z=>nomatch z) h
 | @frz a ob xs ea =>
  cases (show u=Value.ref a from rx)
  obtain⟨_,_,_,n,_,h1⟩:=(show ObjOk X.prog X.w H s.heap a (.frz ob (.lst xs)) from I.hok a _ ea)
  exact PySem.W.kia_one PySem.W.kitx_list I.kIn ⟨_,h1,rfl⟩ e (fun z=>nomatch z) h
 | @tup a xs ea =>
  cases (show u=Value.ref a from rx)
  obtain⟨_,_,_,p⟩:=(show ObjOk X.prog X.w H s.heap a (.tup xs) from I.hok a _ ea)
  obtain⟨o,h1,h2,_⟩:=p
  exact PySem.W.kia_one PySem.W.kitx_tuple I.kIn ⟨o,h1,h2⟩ e (fun z=>nomatch z) h
 | @dK a kvs ea =>
  cases (show u=Value.ref a from rx)
  obtain⟨_,_,vs,_,p⟩:=(show ObjOk X.prog X.w H s.heap a (.dK kvs) from I.hok a _ ea)
  obtain⟨o,es,ep,h1,h2,_⟩:=p
  exact PySem.W.kia_one PySem.W.kitx_dict I.kIn ⟨o,h1,h2.1⟩ e (fun z=>nomatch z) h
 | @dT a kvs ea =>
  cases (show u=Value.ref a from rx)
  obtain⟨_,_,xs,_,o,es,ep,h1,h2,_⟩:=(show ObjOk X.prog X.w H s.heap a (.dT kvs) from I.hok a _ ea)
  exact PySem.W.kia_one PySem.W.kitx_dict I.kIn ⟨o,h1,h2.1⟩ e (fun z=>nomatch z) h
 | @ins a C dx fs ea cl ha hn htk hm =>
  cases (show u=Value.ref a from rx)
  obtain⟨mA,O,_⟩:=ZkQ I.hok ea
  obtain⟨od,J,_⟩:=O.look
  exact PySem.W.kia_one (PySem.W.kitx_own (cl.get _) cl.hd ha hn htk hm) I.kIn J e (fun z=>nomatch z) h
end
end L2
namespace L2
open PySem PySem.Spec PyProof.Rows
structure Room(k:Nat)(A:Around):Prop where
 hd:A.handled=none
 dp:A.depth+3*k+5<recursionLimit
 un:A.units+16*k+200<cLine
theorem Room.mono{j k:Nat}{A:Around}(r:Room k A)(h:j≤k):Room j A:=⟨r.hd,by have:=r.dp;omega,by have:=r.un;omega⟩
theorem Room.deeper{k:Nat}{A:Around}(r:Room (k+1) A)(env:Env):Room k (A.deeper env) :=
 ⟨r.hd,by have:=r.dp;show A.depth+1+3*k+5<_;omega,by have:=r.un;show A.units+3+16*k+200<_;omega⟩
theorem Room.depth{k:Nat}{A:Around}(r:Room k A):A.depth<recursionLimit:=by have:=r.dp;omega
theorem Room.units{k:Nat}{A:Around}(r:Room k A):A.units+64<cLine:=by have:=r.un;omega
noncomputable def tNil:TA:=fun _ H Q=>Q [] H
noncomputable def tCons(ta:TE)(tr:TA):TA:=fun σ H Q=>ta σ H fun x H1=>tr σ H1 fun xs H2=>Q (x::xs) H2
section
variable{X:Cx}{e:Expr}{es:List Expr}{te:TE}{t:TA}{pos:Pos}
theorem Zac:PA X [] tNil:=fun _ _ _ _ H Q I h=>Calls.spliced_nil ⟨[],H,I,.nil,h⟩
theorem Zaa(ha:PE X e te)(hr:PA X es t)(hs:starEach (e::es) X.env=(false,eval e X.env)::starEach es X.env:=by rfl):PA X (e::es) (tCons te t):=by
 intro pos pins s σ H Q I h
 rw[hs]
 show wpAny _ _ (spliced ((false,eval e X.env)::backTo pos (starEach es X.env))) _ _ s
 refine Calls.spliced_cons (thn (ha pins s σ H _ I h) fun u s1 ⟨x,H1,I1,r1,q1⟩=>?_)
 exact thn (hr pos pins s1 σ H1 _ I1 q1) fun us s2 ⟨xs,H2,I2,r2,q2⟩=>⟨x::xs,H2,I2,.cons r1 r2,q2⟩
noncomputable def tTup(t:TA):TE:=fun σ H Q=>t σ H fun xs H1=>xs.length≤sizeLine∧∀ p,H1 p=none→Q (.ref p) (upd H1 p (.tup xs))
noncomputable def tLst(t:TA):TE:=fun σ H Q=>t σ H fun xs H1=>xs.length≤sizeLine∧∀ p,H1 p=none→Q (.ref p) (upd H1 p (.lst xs))
theorem ZcW{x1}(h:PA X es t):PE X (.Tuple es x1 pos) (tTup t):=by
 intro pins s σ H Q I hq
 refine wpAny_Tuple_spliced (thn (h pos pins s σ H _ I hq) fun us s1 ⟨xs,H1,I1,r,z,q⟩=>⟨by rw[← r.length];exact z,?_⟩)
 have hf:H1 s1.heap.objs.size=none:=I1.hok.fresh (Nat.le_refl _)
 refine⟨.ref s1.heap.objs.size,upd H1 s1.heap.objs.size (.tup xs),I1.laid (t':=s1.toks) (fun b u e=>Heap.get?_push_of_some _ e) (Nat.le_refl _) ?_,rfl,q _ hf⟩
 exact⟨z,us,r,⟨_,Heap.get?_push_size _ rfl,rfl,_,rfl⟩⟩
theorem ZbU(h:PA X es t):PE X (.List es pos) (tLst t):=by
 intro pins s σ H Q I hq
 refine wpAny_List_spliced (thn (h pos pins s σ H _ I hq) fun us s1 ⟨xs,H1,I1,r,z,q⟩=>⟨by rw[← r.length];exact z,?_⟩)
 have hf:H1 s1.heap.objs.size=none:=I1.hok.fresh (Nat.le_refl _)
 refine⟨.ref s1.heap.objs.size,upd H1 s1.heap.objs.size (.lst xs),I1.laid (t':=s1.toks) (fun b u e=>Heap.get?_push_of_some _ e) (Nat.le_refl _) ?_,rfl,q _ hf⟩
 exact⟨z,us,0,r,Heap.get?_push_size _ rfl⟩
end
noncomputable abbrev Sp:=List V→Hp→VK→XK→Prop
noncomputable abbrev CXT:=List Env→Hp→Shared→XK→Value→Shared→Prop
structure Env0(P:Program)(w:World)(K:W.Frag)(mg:Str→Option Value)(base:Heap)(A:Around)(outer:List Env)(s:Shared)(H:Hp):Prop where
 frames:A.frames=some outer
 mod:Mod K mg base
 bs:∀ b o,base.get? b=some o→s.heap.get? b=some o∧H b=none
 bsz:base.objs.size≤s.heap.objs.size
 funs:s.heap.FunFrames base outer
 frf:∀ b∈frs outer,H b=none
 hok:HOk P w H s.heap
 bare:AllBare s.gens
noncomputable def CE(outer:List Env)(P:Program)(w:World)(H:Hp)(s:Shared)(Q:VK)(u:Value)(s':Shared):Prop :=
 ∃ v H',s'.os=s.os∧AllBare s'.gens∧Un (frs outer) [] H H' s.heap s'.heap∧HOk P w H' s'.heap∧RelV v u∧Q v H'
noncomputable def CR(CX:CXT)(outer:List Env)(P:Program)(w:World)(H:Hp)(s:Shared)(Q:VK)(E:XK)(r:Result)(s':Shared):Prop :=
 match r with
 | .ok (.ret u)=>CE outer P w H s Q u s'
 | .ok _=>False
 | .error e=>CX outer H s E e s'
structure FnOk(P:Program)(w:World)(K:W.Frag)(mg:Str→Option Value)(base:Heap)(CX:CXT)(k:Nat)(f:Addr)(fd:FuncData)(ps:List Str)(sp:Sp):Prop where
 len:∀ vs H Q E,sp vs H Q E→vs.length=ps.length
 run:∀ (A:Around) (outer:List Env) (s:Shared) (H:Hp) (args:Args) (us:List Value) (vs:List V) (Q:VK) (E:XK),Room k A→Env0 P w K mg base A outer s H→BindsTo s fd args (ps.zip us)→Vals vs us→sp vs H Q E →
  codeAny (model P w) A (.call (.ref f) args) (CR CX outer P w H s Q E) s
theorem FnOk.mono{P:Program}{w:World}{K:W.Frag}{mg:Str→Option Value}{base:Heap}{CX:CXT}{j k:Nat}{f:Addr}{fd:FuncData}{ps:List Str}{sp:Sp}(F:FnOk P w K mg base CX j f fd ps sp)(h:j≤k) :
  FnOk P w K mg base CX k f fd ps sp:=⟨F.len,fun A outer s H args us vs Q E hr=>F.run A outer s H args us vs Q E (hr.mono h)⟩
theorem FnOk.imp{P:Program}{w:World}{K:W.Frag}{mg:Str→Option Value}{base:Heap}{CX:CXT}{k:Nat}{f:Addr}{fd:FuncData}{ps:List Str}{sp sp':Sp}(F:FnOk P w K mg base CX k f fd ps sp)
  (h:∀ vs H Q E,sp' vs H Q E→sp vs H Q E):FnOk P w K mg base CX k f fd ps sp' :=
 ⟨fun vs H Q E q=>F.len vs H Q E (h _ _ _ _ q),fun A outer s H args us vs Q E hr he hb hv hs=>F.run A outer s H args us vs Q E hr he hb hv (h _ _ _ _ hs)⟩
section
variable{X:Cx}{pins:List (Addr×Obj)}{σ:St}{H:Hp}{s s':Shared}
theorem Inv.env0(I:Inv X pins σ H s):Env0 X.prog X.w X.K X.mg X.base X.A X.stack s H :=
 ⟨I.ok.frames,I.ok.mod,I.bs,Nat.le_trans I.ok.bsz I.sz,I.stack,I.stkFree,I.hok,I.bare⟩
theorem Inv.after{Q:VK}{u:Value}(I:Inv X pins σ H s)(h:CE X.stack X.prog X.w H s Q u s'):EP X pins σ Q u s':=by
 obtain⟨v,H',os,bare,un,hok,r,q⟩:=h
 obtain⟨hh,g,d,t,os'⟩:=s'
 obtain rfl:os'=s.os:=os
 exact⟨v,H',I.call (h':=hh) (g':=g) (d':=d) (t':=t) (ch:=[]) un hok bare (fun b z=>absurd z (by simp)),r,q⟩
end
noncomputable def tCall(sp:Sp)(dvs:List V)(E:XK)(t:TA):TE:=fun σ H Q=>t σ H fun vs H1=>sp (vs++dvs) H1 Q E
noncomputable def Binds(K:W.Frag)(fd:FuncData)(ps:List Str)(ds:List Value):Prop :=
 ∀ (s:Shared) (us:List Value),K.In s.heap→(us++ds).length=ps.length→BindsTo s fd ⟨us,[]⟩ (ps.zip (us++ds))
theorem Binds.all{K:W.Frag}{fd:FuncData}{ps:List Str}(h:∀ us:List Value,us.length=ps.length→bindArgs fd ⟨us,[]⟩=pure (ps.zip us)):Binds K fd ps []:=fun s us _ hl=>by
 rw[List.append_nil] at hl ⊢
 exact .of_eq (h us hl)
noncomputable def Passes(CX:CXT)(X:Cx)(E:XK):Prop:=∀ (pins:List (Addr×Obj)) (σ:St) (H:Hp) (s:Shared) (e:Value) (s':Shared),Inv X pins σ H s→CX X.stack H s E e s'→X.xe e s'
section
variable{X:Cx}{CX:CXT}{k:Nat}{f C:Addr}{fd:FuncData}{ps:List Str}{sp:Sp}{dvs:List V}{ds:List Value}{E:XK}{x m:Str}{p pos apos:Pos}{e o:Expr}{es:List Expr}{ta:TE}{t:TA}
theorem Zml{pins:List (Addr×Obj)}{σ:St}{H:Hp}{s:Shared}{Q:VK}{us:List Value}{vs:List V}(F:FnOk X.prog X.w X.K X.mg X.base CX k f fd ps sp)(hr:Room k X.A)(hb:Binds X.K fd ps ds)(hd:Vals dvs ds)(hx:Passes CX X E)
  (I:Inv X pins σ H s) (r:Vals vs us) (h:sp (vs++dvs) H Q E):wpAny (model X.prog X.w) X.A (call (.ref f) us) (EP X pins σ Q) X.xe s:=by
 have r2:Vals (vs++dvs) (us++ds):=r.append hd
 have hl:(us++ds).length=ps.length:=by rw[← r2.length];exact F.len _ _ _ _ h
 refine wpAny_call (codeAny_mono (F.run X.A X.stack s H ⟨us,[]⟩ (us++ds) (vs++dvs) Q E hr I.env0 (hb s us I.kIn hl) r2 h) fun r s' hq=>?_)
 cases r with
 | error e=>exact hx pins σ H s e s' I hq
 | ok fl =>
  cases fl with
  | ret u=>exact I.after hq
  | next=>exact False.elim hq
  | brk=>exact False.elim hq
  | cont=>exact False.elim hq
theorem ZkR(F:FnOk X.prog X.w X.K X.mg X.base CX k f fd ps sp)(hr:Room k X.A)(hg:Gl X x)(hm:X.mg x=some (.ref f))(hk:PySem.W.keepIn X.K (.ref f)=true)(hb:Binds X.K fd ps ds)(hd:Vals dvs ds)(hx:Passes CX X E)
  (ha:PA X (e::es) t) (hdb:(x == ("__debug__" : Str))=false:=by decide) (he:starEach (e::es) X.env=(false,eval e X.env)::starEach es X.env:=by rfl) (hpl:(backTo pos (starEach es X.env)).any (·.1)=false:=by rfl) :
  PE X (.Call (.Name x p) (e::es) [] pos) (tCall sp dvs E t):=by
 intro pins s σ H Q I h
 refine wpAny_Call_Name_kw (ZcJ I hg hm ?_ hdb)
 refine PySem.W.callWith_K (h₀:=X.base) I.ok.mod.kin hk (thn (ha pos pins s σ H _ I h) fun us s1 ⟨vs,H1,I1,r,q⟩=>⟨I1.kIn,?_⟩) he hpl
 exact Zml F hr hb hd hx I1 r q
end
section
variable{X:Cx}{CX:CXT}{k:Nat}{f C:Addr}{fd:FuncData}{ps ks:List Str}{sp:Sp}{E:XK}{x m:Str}{p pos apos kpos:Pos}{e o:Expr}{es:List Expr}{kws:List Keyword}{te ta:TE}{t tk:TA}{nm:Option Str}
variable{g:List Value→List Value→List Value}{gV:List V→List V→List V}
end
structure FnScope(N P:List Str)(sc:Scope):Prop where
 kind:sc.kind=.function
 co:sc.isCoroutine=false
 gen:sc.isGenerator=false
 nd:N.Nodup
 pre:N.take P.length=P
 par:∀ x∈P,sc.names.lookup x=some .local∨sc.names.lookup x=some .cell
 nofree:∀ y∈sc.names,y.2≠.free
theorem Zff{kindOf:Str→Option NameKind}{x:Str}:∀ {binds:List (Str×Value)} {m:Str→Option Value},(∀ v,(x,v)∉binds)→bindL kindOf binds m x=m x
 | [],_,_=>rfl
 | (n,v)::r,m,h=>by
  unfold bindL
  rw[Zff fun w hw=>h w (List.mem_cons_of_mem _ hw)]
  split
  ·have:x≠n:=by rintro rfl;exact h v List.mem_cons_self
   simp[this]
  ·rfl
theorem Zfg{kindOf:Str→Option NameKind}{x:Str}:∀ {binds:List (Str×Value)} {m:Str→Option Value},(∀ v,(x,v)∉binds)→bindC kindOf binds m x=m x
 | [],_,_=>rfl
 | (n,v)::r,m,h=>by
  unfold bindC
  rw[Zfg fun w hw=>h w (List.mem_cons_of_mem _ hw)]
  split
  ·rfl
  ·have:x≠n:=by rintro rfl;exact h v List.mem_cons_self
   simp[this]
theorem Zfh{kindOf:Str→Option NameKind}{x:Str}{v:Value}:∀ {P:List Str} {vs:List Value} {i:Nat} {m:Str→Option Value},P.Nodup→P[i]?=some x→vs[i]?=some v→kindOf x=some .local →
  bindL kindOf (P.zip vs) m x=some v
 | [],_,_,_,_,h,_,_=>by simp at h
 | _::_,[],_,_,_,_,h,_=>by simp at h
 | p::P,w::vs,0,m,nd,h1,h2,hk=>by
  simp at h1 h2;subst h1;subst h2
  show bindL kindOf ((p,w)::P.zip vs) m p=_
  unfold bindL
  rw[Zff fun v hv=>(List.nodup_cons.mp nd).1 (List.of_mem_zip hv).1,if_pos hk]
  simp
 | p::P,w::vs,i+1,m,nd,h1,h2,hk=>by
  show bindL kindOf ((p,w)::P.zip vs) m x=_
  unfold bindL
  exact Zfh (i:=i) (List.nodup_cons.mp nd).2 (by simpa using h1) (by simpa using h2) hk
theorem Zfi{kindOf:Str→Option NameKind}{x:Str}{v:Value}:∀ {P:List Str} {vs:List Value} {i:Nat} {m:Str→Option Value},P.Nodup→P[i]?=some x→vs[i]?=some v→kindOf x≠some .local →
  bindC kindOf (P.zip vs) m x=some v
 | [],_,_,_,_,h,_,_=>by simp at h
 | _::_,[],_,_,_,_,h,_=>by simp at h
 | p::P,w::vs,0,m,nd,h1,h2,hk=>by
  simp at h1 h2;subst h1;subst h2
  show bindC kindOf ((p,w)::P.zip vs) m p=_
  unfold bindC
  rw[Zfg fun v hv=>(List.nodup_cons.mp nd).1 (List.of_mem_zip hv).1,if_neg hk]
  simp
 | p::P,w::vs,i+1,m,nd,h1,h2,hk=>by
  show bindC kindOf ((p,w)::P.zip vs) m x=_
  unfold bindC
  exact Zfi (i:=i) (List.nodup_cons.mp nd).2 (by simpa using h1) (by simpa using h2) hk
noncomputable def start(N:List Str)(vs:List V):St:=vs.map some++List.replicate (N.length-vs.length) none
noncomputable def cxOf(CX:CXT)(P:Program)(w:World)(K:W.Frag)(mg:Str→Option Value)(base:Heap)(N:List Str)(qual:Str)(scope:Scope)(f:Addr)(cd:Value)(A:Around)(outer:List Env)(s:Shared)(H:Hp)(E:XK):Cx where
 prog:=P
 w:=w
 K:=K
 mg:=mg
 base:=base
 A:=A.deeper (envOfC qual scope s.heap.objs.size f cd)
 N:=N
 s₀:=s
 H₀:=H
 env:=envOfC qual scope s.heap.objs.size f cd
 outer:=outer
 stack:=envOfC qual scope s.heap.objs.size f cd::outer
 ex:=[]
 calm:=true
 fn:=fun _=>true
 pn:=[]
 xe:=fun e s'=>wpAny (model P w) (A.deeper (envOfC qual scope s.heap.objs.size f cd)) (leaving (envOfC qual scope s.heap.objs.size f cd) e) (fun _ s''=>CX outer H s E e s'') (fun e' s''=>CX outer H s E e' s'') s'
theorem Zgw{sc:Scope}{n:Nat}{x:Str}(h:sc.names.lookup x=some .cell):∃ c,(cellsFrom n sc.names []).lookup x=some c:=by
 have q:=PySem.W.cellsFrom_some sc.names n [] (.inl h)
 exact Option.isSome_iff_exists.mp q
theorem ZhM{CX:CXT}{P:Program}{w:World}{K:W.Frag}{mg:Str→Option Value}{base:Heap}{N ps:List Str}{qual:Str}{scope:Scope}{f:Addr}{cd:Value}{A:Around}{outer:List Env}{s s1:Shared}{H:Hp}{E:XK}{us:List Value}{vs:List V}
  (S:FnScope N ps scope) (hd:A.handled=none) (e0:Env0 P w K mg base A outer s H) (hl:vs.length=ps.length) (r:Vals vs us)
  (x:InCallC s s.heap.objs.size (bindL (envOfC qual scope s.heap.objs.size f cd).kindOf (ps.zip us) fun _=>none) (cellsFrom (s.heap.objs.size+1) scope.names []) (bindC (envOfC qual scope s.heap.objs.size f cd).kindOf (ps.zip us) fun _=>none) s1) :
  Inv (cxOf CX P w K mg base N qual scope f cd A outer s H E) [] (start N vs) H s1:=by
 have hpl:ps.length≤N.length:=by have:=congrArg List.length S.pre;rw[List.length_take] at this;omega
 obtain⟨h1,tk,rfl,hk⟩:=x.done
 have noA:∀ b:Addr,b∉(cxOf CX P w K mg base N qual scope f cd A outer s H E).ex:=fun b z=>absurd (show b∈([]:List Addr) from z) (by simp)
 refine⟨⟨e0.mod,S.kind,rfl,rfl,Nat.le_refl _,fun y z c h1 h2=>?_,fun y hy=>?_,fun y c _ h=>?_,fun _=>hd,Around.frames_deeper e0.frames,.inr ⟨rfl,rfl⟩,fun b z=>absurd z (noA b),e0.bs,e0.bsz,fun b _ _=>noA b,fun b z=>absurd z (noA b),e0.funs,e0.frf⟩,
  rfl,e0.bare,Un.kept hk,⟨_,x.toInCall.ns,fun i y v h1 h2 h3=>?_⟩,fun y c h=>⟨_,x.cell y c h⟩,e0.hok.fresh (Nat.le_refl _),fun y c h=>?_,fun p hp=>absurd (show p∈([]:List (Addr×Obj)) from hp) (by simp),e0.hok.kept hk,?_⟩
 ·exact name_of_addr x.apart (PySem.mem_of_lookup h1) (PySem.mem_of_lookup h2)
 ·have hy:scope.names.lookup y=some .cell∨scope.names.lookup y=some .free:=hy
  rcases hy with hy|hy
  ·exact Zgw hy
  ·exact absurd rfl (S.nofree _ (PySem.mem_of_lookup hy))
 ·exact Nat.le_of_lt (x.above y c (PySem.mem_of_lookup h))
 ·have hi:i<vs.length:=by
   unfold start at h2
   by_cases hi:i<vs.length
   ·exact hi
   ·rw[List.getElem?_append_right (by simpa using hi)] at h2
    rw[List.getElem?_replicate] at h2
    split at h2<;>cases h2
  have ha:vs[i]?=some v:=by
   unfold start at h2
   rw[List.getElem?_append_left (by simpa using hi),List.getElem?_map] at h2
   cases e:vs[i]? with
   | none=>rw[e] at h2;cases h2
   | some a=>rw[e] at h2;cases h2;rfl
  obtain⟨u,hu,rv⟩:=r.get ha
  have hp:ps[i]?=some y:=by
   rw[← S.pre,List.getElem?_take_of_lt (by omega)];exact h1
  have ndP:ps.Nodup:=by rw[← S.pre];exact S.nd.sublist (List.take_sublist _ _)
  refine⟨u,rv,?_⟩
  rcases S.par y (List.mem_of_getElem? hp) with k|k
  ·exact .inl ⟨k,Zfh ndP hp hu k⟩
  ·obtain⟨c,e⟩:=Zgw (n:=s.heap.objs.size+1) k
   refine .inr ⟨.inl k,c,e,?_⟩
   have q:=x.cell y c e
   rw[Zfi ndP hp hu (by show scope.names.lookup y≠_;rw[k];decide)] at q
   exact q
 ·exact e0.hok.fresh (Nat.le_of_lt (x.above y c (PySem.mem_of_lookup h)))
 ·unfold start
  show _=N.length
  rw[List.length_append,List.length_map,List.length_replicate]
  omega
theorem Zju{CX:CXT}{P:Program}{w:World}{K:W.Frag}{mg:Str→Option Value}{base:Heap}{k:Nat}{f:Addr}{name qual:Str}{params:Arguments}{body:List Stmt}{scope:Scope}{dV kV doc pm cdv ct oc:Value}{an od:Option Addr}
  {osl:Array (Option Value)} {N ps:List Str} {sp:Sp} (lk:K.lookup f=some ⟨oc,od,.func (PySem.W.fnOf name qual params body scope dV kV doc pm an cdv ct),osl⟩) (hcd:PySem.W.codeIn K cdv qual=true) (S:FnScope N ps scope)
  (len:∀ vs H Q E,sp vs H Q E→vs.length=ps.length)
  (hbody:∀ (A:Around) (outer:List Env) (s:Shared) (H:Hp) (vs:List V) (Q:VK) (E:XK),Room k (A.deeper (envOfC qual scope s.heap.objs.size f cdv))→sp vs H Q E →
   ∃ t,PSs (cxOf CX P w K mg base N qual scope f cdv A outer s H E) body t∧t { nx:=fun _ H'=>Q .non H',rt:=Q } (start N vs) H) :
  FnOk P w K mg base CX (k+1) f (PySem.W.fnOf name qual params body scope dV kV doc pm an cdv ct) ps sp:=by
 refine⟨len,fun A outer s H args us vs Q E hr e0 hb r hsp=>?_⟩
 have hl:=len _ _ _ _ hsp
 have KX:K.In s.heap:=e0.mod.kin.keeps fun b o e=>(e0.bs b o e).1
 have lim:s.heap.NoLimit:=e0.mod.nolimit.keeps fun b o e=>(e0.bs b o e).1
 have hkind:∀ y∈ps.zip us,scope.names.lookup y.1=some .local∨(scope.names.lookup y.1=some .cell∧((cellsFrom (s.heap.objs.size+1) scope.names []).lookup y.1).isSome=true):=fun⟨n,v⟩ hy=>by
  rcases S.par n (List.of_mem_zip hy).1 with q|q
  ·exact .inl q
  ·exact .inr ⟨q,PySem.W.cellsFrom_some _ _ _ (.inl q)⟩
 refine codeAny_call_function hr.depth (KX _ _ lk) rfl S.co S.gen rfl (PySem.W.codeRec_of KX hcd) (hb _ _ _ _ ?_)
 refine wpAny_newFunctionEnv_cells S.kind hkind fun env he s1 x=>?_
 subst he
 refine⟨lim.keeps x.toInCall.keep,codeAny_func ?_⟩
 obtain⟨t,ht,hq⟩:=hbody A outer s H vs Q E (hr.deeper _) hsp
 have I:Inv (cxOf CX P w K mg base N qual scope f cdv A outer s H E) [] (start N vs) H s1:=ZhM S hr.hd e0 hl r x
 refine wpAny_mono (ht [] s1 (start N vs) H _ I hq) (fun fl s' hs=>?_) fun e s' hs=>hs
 have fin:∀ {σ':St} {H':Hp} {v:V} {u:Value},Inv (cxOf CX P w K mg base N qual scope f cdv A outer s H E) [] σ' H' s'→RelV v u→Q v H'→CE outer P w H s Q u s' :=
  fun {σ' H' v u} J rv q=>⟨v,H',J.os,J.bare,J.base,J.hok,rv,q⟩
 cases fl with
 | ret u =>
  obtain⟨v,σ',H',J,rv,q⟩:=hs
  exact fin J rv q
 | next =>
  obtain⟨σ',H',J,q⟩:=hs
  exact fin (v:=V.non) (u:=Value.none) J rfl q
 | brk =>
  obtain⟨_,_,_,q⟩:=hs
  exact False.elim q
 | cont =>
  obtain⟨_,_,_,q⟩:=hs
  exact False.elim q
end L2
namespace L2
open PySem PySem.Spec PyProof.Rows
section
variable{X:Cx}{x:Str}{p pos:Pos}{e:Expr}{es:List Expr}{t:TA}{id T:String}{r:List V→Hp→VK→Prop}
noncomputable def tCB(r:List V→Hp→VK→Prop)(t:TA):TE:=fun σ H Q=>t σ H fun vs H1=>r vs H1 Q
theorem Zah(hc:CallR X (.builtin id) r)(hg:Gl X x)(hm:X.mg x=none)(hv:bootBuiltins x=some (.builtin id))(ha:PA X (e::es) t)(hn:x ≠ "__name__" := by decide)(hdb:(x == ("__debug__" : Str))=false:=by decide)
  (he:starEach (e::es) X.env=(false,eval e X.env)::starEach es X.env:=by rfl) (hpl:(backTo pos (starEach es X.env)).any (·.1)=false:=by rfl):PE X (.Call (.Name x p) (e::es) [] pos) (tCB r t):=by
 intro pins s σ H Q I h
 refine wpAny_Call_Name_kw (ZcD I hg hm hv ?_ hn hdb)
 exact PyProof.Rows.callWith_builtin1 (thn (ha pos pins s σ H _ I h) fun us s1 ⟨vs,H1,I1,r1,q1⟩=>hc pins s1 σ H1 vs us Q I1 r1 q1) he hpl
theorem Zar(hc:CallR X (.type T) r)(hg:Gl X x)(hm:X.mg x=none)(hv:bootBuiltins x=some (.type T))(ha:PA X (e::es) t)(hn:x ≠ "__name__" := by decide)(hdb:(x == ("__debug__" : Str))=false:=by decide)
  (he:starEach (e::es) X.env=(false,eval e X.env)::starEach es X.env:=by rfl) (hpl:(backTo pos (starEach es X.env)).any (·.1)=false:=by rfl):PE X (.Call (.Name x p) (e::es) [] pos) (tCB r t):=by
 intro pins s σ H Q I h
 refine wpAny_Call_Name_kw (ZcD I hg hm hv ?_ hn hdb)
 exact PyProof.Rows.callWith_type1 (thn (ha pos pins s σ H _ I h) fun us s1 ⟨vs,H1,I1,r1,q1⟩=>hc pins s1 σ H1 vs us Q I1 r1 q1) he hpl
end
end L2
namespace HT
open PySem PyProof.Rows
section
open PySem.SeqAt
open PySem.AutoSeq1 (wpAny_loadPart')
open PySem.MeetsSeq PySem.MeetsSeq2 PySem.MeetsSeq3
end
section
variable{prog:Program}{w:World}{A:Around}{E:Value→Shared→Prop}{s:Shared}
theorem ZkS{t b:Addr}{vs ws:List Value}{Q:Value→Shared→Prop}(ht:IsTup s.heap t vs.toArray)(hb:IsTup s.heap b ws.toArray)(hv:vs≠[])
  (h1:ws=[]→Q (.ref t) s) (h2:ws≠[]→Q (.ref s.heap.objs.size) { s with heap:=s.heap.push { cls:=.type "tuple",data:=.seq (vs++ws).toArray } })
  (hsz:vs.length+ws.length≤sizeLine):wpAny (model prog w) A (binaryOp .Add (.ref t) (.ref b)) Q E s:=by
 obtain⟨⟨cls,dd,data,sl⟩,ho,hc,n,hd⟩:=id ht
 obtain⟨⟨cls2,dd2,data2,sl2⟩,ho2,hc2,n2,hd2⟩:=id hb
 simp only at hc hd hc2 hd2
 subst hc hd hc2 hd2
 have e:vs.toArray++ws.toArray=(vs++ws).toArray:=by simp
 by_cases hw:ws=[]
 ·exact concat_meets ⟨_,ho,rfl⟩ ⟨_,ho2,rfl⟩ noFill_tuple_add seq_tuple_add PySem.F.slot_tuple_add PySem.F.entry_tuple_add (PySem.F.args_tuple_add_2 _ _)
   (tuple_addW1 t b vs.toArray ws.toArray n n2 dd dd2 sl sl2 (by simpa using hv) (by simp[hw])) ⟨ho,ho2,h1 hw⟩
 ·refine concat_meets ⟨_,ho,rfl⟩ ⟨_,ho2,rfl⟩ noFill_tuple_add seq_tuple_add PySem.F.slot_tuple_add PySem.F.entry_tuple_add (PySem.F.args_tuple_add_2 _ _)
   (tuple_addW2 t b vs.toArray ws.toArray n n2 dd dd2 sl sl2 (by simpa using hv) (by simpa using hw) (by rw[List.size_toArray,List.size_toArray];exact hsz)) ⟨ho,ho2,?_⟩
  rw[e]
  exact h2 hw
end
end HT
namespace L2
open PySem PySem.Spec PyProof.Rows
section
variable{X:Cx}{e:Expr}{te:TE}{lo hi:Option Expr}{tl th:TO}{pos p2:Pos}
noncomputable def rCatT(K:W.Frag):R2:=fun x y H Q=>∃ a b xs ys,x=.ref a∧y=.ref b∧SqT K H a xs∧SqT K H b ys∧xs≠[]∧xs.length+ys.length≤sizeLine ∧
 (ys=[]→Q (.ref a) H)∧(ys≠[]→∀ p,H p=none→Q (.ref p) (upd H p (.tup (xs++ys))))
theorem Vals.nil_iff{xs:List V}{us:List Value}(r:Vals xs us):us=[]↔xs=[]:=by
 cases r with
 | nil=>simp
 | cons _ _=>simp
theorem ZkT:OpR X (binaryOp .Add) (rCatT X.K):=by
 intro pins s σ H x y v u Q I rx ry h
 obtain⟨a,b,xs,ys,rfl,rfl,ha,hb,hx,hz,q1,q2⟩:=h
 cases rx
 cases ry
 obtain⟨its,r1,p1,_⟩:=I.tuple ha
 obtain⟨its2,r2,p2,_⟩:=I.tuple hb
 refine HT.ZkS p1 p2 (fun z=>hx (r1.nil_iff.mp z)) (fun z=>⟨.ref a,H,I,rfl,q1 (r2.nil_iff.mp z)⟩) (fun z=>?_) (by rw[← r1.length,← r2.length];exact hz)
 refine⟨.ref s.heap.objs.size,_,I.laid (t':=s.toks) (o:=.tup (xs++ys)) (fun b ob q=>Heap.get?_push_of_some _ q) (Nat.le_refl _) ?_,rfl,q2 (fun w=>z (r2.nil_iff.mpr w)) _ (I.hok.fresh (Nat.le_refl _))⟩
 exact⟨by rw[List.length_append];exact hz,_,r1.append r2,IsTup.new _ _⟩
end
end L2
namespace L2
open PySem PySem.Spec PyProof.Rows
noncomputable def ixN(n:Nat)(i:Int):Option Nat:=if 0≤i then (if i<n then some i.toNat else none) else if -(n:Int)≤i then some (i+n).toNat else none
noncomputable def atI{α:Type}(xs:List α)(i:Int):Option α:=(ixN xs.length i).bind fun j=>xs[j]?
theorem ZhN{n:Nat}{i:Int}{j:Nat}(h:ixN n i=some j):seqIndex? i n=some j∧j<n∧-(n:Int)≤i∧i<n:=by
 unfold ixN at h
 by_cases h0:0≤i
 ·rw[if_pos h0] at h
  by_cases h1:i<n
  ·rw[if_pos h1] at h
   have e:i.toNat=j:=Option.some.inj h
   exact⟨by rw[seqIndex_of h0 h1,e],by omega,by omega,h1⟩
  ·rw[if_neg h1] at h;cases h
 ·rw[if_neg h0] at h
  by_cases h1:-(n:Int)≤i
  ·rw[if_pos h1] at h
   have e:(i+n).toNat=j:=Option.some.inj h
   exact⟨by rw[seqIndex_neg (by omega) h1,e],by omega,h1,by omega⟩
  ·rw[if_neg h1] at h;cases h
theorem ZfZ{α:Type}{xs:List α}{i:Int}{v:α}(h:atI xs i=some v):∃ j,seqIndex? i xs.length=some j∧xs[j]?=some v∧j<xs.length∧-(xs.length:Int)≤i∧i<xs.length:=by
 unfold atI at h
 cases e:ixN xs.length i with
 | none=>rw[e] at h;cases h
 | some j =>
  rw[e] at h
  obtain⟨h1,h2,h3,h4⟩:=ZhN e
  exact⟨j,h1,h,h2,h3,h4⟩
theorem ZkU{α:Type}{xs:List α}{j:Nat}{v:α}(h:xs[j]?=some v):atI xs (j:Int)=some v:=by
 have hj:j<xs.length:=(List.getElem?_eq_some_iff.mp h).1
 have e:ixN xs.length (j:Int)=some j:=by
  unfold ixN
  rw[if_pos (by omega),if_pos (by omega)];simp
 unfold atI;rw[e];exact h
noncomputable def PlainIx(b:Expr):Prop:=∀ o i,subscripted b false o i=operate [o,i] (getItem o i)
noncomputable def IxR(X:Cx)(r:R2):Prop :=
 ∀ (value slice:Expr) (pins:List (Addr×Obj)) (s:Shared) (σ:St) (H:Hp) (x y:V) (v u:Value) (Q:VK),Inv X pins σ H s→RelV x v→RelV y u→r x y H Q →
  subscripted slice false v u=operate [v,u] (getItem v u)→wpAny (model X.prog X.w) X.A (subscriptTail value slice v u) (EP X pins σ Q) X.xe s
noncomputable def MtR(X:Cx)(id:String)(r:V→List V→Hp→VK→Prop):Prop :=
 ∀ (pins:List (Addr×Obj)) (s:Shared) (σ:St) (H:Hp) (x:V) (xs:List V) (v:Value) (us:List Value) (Q:VK),Inv X pins σ H s→RelV x v→Vals xs us→r x xs H Q →
  wpAny (model X.prog X.w) X.A (call (.builtin id) (v::us)) (EP X pins σ Q) X.xe s
section
variable{X:Cx}{a b:Expr}{ta tb:TE}{pos:Pos}
theorem IxR.or{r r':R2}(h:IxR X r)(h':IxR X r'):IxR X (fun x y H Q=>r x y H Q∨r' x y H Q):=by
 intro value slice pins s σ H x y v u Q I rx ry q hs
 rcases q with q|q
 ·exact h value slice pins s σ H x y v u Q I rx ry q hs
 ·exact h' value slice pins s σ H x y v u Q I rx ry q hs
theorem Zat{r:R2}(hr:IxR X r)(ha:PE X a ta)(hb:PE X b tb)(hs:PlainIx b):PE X (.Subscript a b pos) (tOp r ta tb):=by
 intro pins s σ H Q I h
 exact Subscript_ (binT ha hb I h fun v u s2 x y H2 I2 rx ry q=>hr a b pins s2 σ H2 x y v u Q I2 rx ry q (hs _ _))
noncomputable def rIxL(K:W.Frag):R2:=fun x y H Q=>∃ p xs i v,x=.ref p∧y=.int i∧SqL K H p xs∧atI xs i=some v∧Q v H
noncomputable def rIxT(K:W.Frag):R2:=fun x y H Q=>∃ p xs i v,x=.ref p∧y=.int i∧SqT K H p xs∧atI xs i=some v∧Q v H
noncomputable def rIxS:R2:=fun x y H Q=>∃ z i c,x=.str z∧y=.int i∧z.length≤sizeLine∧atI z.cps.toList i=some c∧Q (.str ⟨#[c]⟩) H
theorem ZkV:IxR X (rIxL X.K):=by
 intro value slice pins s σ H x y v u Q I rx ry h hs
 obtain⟨p,xs,i,z,rfl,rfl,hq,he,q⟩:=h
 cases rx
 obtain⟨t,rfl⟩:=ry
 obtain⟨its,r,pl,hz⟩:=I.list hq
 obtain⟨j,h1,h2,h3,h4,h5⟩:=ZfZ he
 obtain⟨w,ew,rw'⟩:=r.get h2
 have hl:=r.length
 have hn:=line63
 have fin:EP X pins σ Q w s:=⟨z,H,I,rw',q⟩
 by_cases h0:0≤i
 ·have hj:i.toNat=j:=by
   rw[seqIndex_of h0 h5] at h1
   exact Option.some.inj h1
  exact item_listR pl.isList h0 (by omega) (by rw[hj];simpa using ew) fin hs
 ·have hj:(i+(its.toArray.size:Int)).toNat=j:=by
   rw[seqIndex_neg (by omega) h4] at h1
   rw[List.size_toArray,← hl]
   exact Option.some.inj h1
  exact subscriptTail_builtinR (x:=w) pl.isList.typeIs slot_list_getitem.lookup
   (wpAny_getItem_list_neg (Q:=fun r s'=>r=w∧EP X pins σ Q r s') pl.isList (by omega) (by rw[List.size_toArray]<;>omega) (by omega) (by rw[hj];simpa using ew) ⟨rfl,fin⟩) hs
theorem Zmm:IxR X (rIxT X.K):=by
 intro value slice pins s σ H x y v u Q I rx ry h hs
 obtain⟨p,xs,i,z,rfl,rfl,hq,he,q⟩:=h
 cases rx
 obtain⟨t,rfl⟩:=ry
 obtain⟨its,r,pl,hz⟩:=I.tuple hq
 obtain⟨j,h1,h2,h3,h4,h5⟩:=ZfZ he
 obtain⟨w,ew,rw'⟩:=r.get h2
 have hl:=r.length
 have hn:=line63
 have fin:EP X pins σ Q w s:=⟨z,H,I,rw',q⟩
 exact subscriptTail_builtinR (x:=w) pl.typeIs slot_tuple_getitem.lookup
  (getItem_tuple (j:=j) (Q:=fun r s'=>r=w∧EP X pins σ Q r s') pl (by omega) (by omega) (by rw[List.size_toArray,← hl];exact h1) (by simpa using ew) ⟨rfl,fin⟩) hs
theorem Zmn:IxR X rIxS:=by
 intro value slice pins s σ H x y v u Q I rx ry h hs
 obtain⟨z,i,c,rfl,rfl,hz,he,q⟩:=h
 obtain⟨t,rfl⟩:=rx
 obtain⟨t',rfl⟩:=ry
 obtain⟨j,h1,h2,h3,h4,h5⟩:=ZfZ he
 have hl:z.cps.toList.length=z.length:=by simp[Str.length]
 rw[hl] at h1 h4 h5
 have hn:=line63
 exact tail_any (typeIs_str s z t) slot_str_getitem.lookup (getItem_str (c:=c) (by
  have e1:decide (i < -(2 ^ 63:Int))=false:=decide_eq_false (by omega)
  have e2:decide (i≥2 ^ 63)=false:=decide_eq_false (by omega)
  rw[e1,e2,Bool.or_false]) (by rw[h1];simpa using h2) ⟨.str ⟨#[c]⟩,H,I.tok _,⟨_,rfl⟩,q⟩) hs
theorem Zhh(its:List Value)(n j:Nat)(u:Value):Obj.mapSeq (·.setIfInBounds j u) { cls:=.type "list",data:=.seq its.toArray n }={ cls:=.type "list",data:=.seq (its.set j u).toArray n }:=by
 simp[Obj.mapSeq]
theorem Inv.lst{pins:List (Addr×Obj)}{σ:St}{H:Hp}{s:Shared}{p:Addr}{xs:List V}(I:Inv X pins σ H s)(h:H p=some (.lst xs)) :
  ∃ (its:List Value) (n:Nat),Vals xs its∧s.heap.get? p=some { cls:=.type "list",data:=.seq its.toArray n }∧xs.length≤sizeLine:=by
 obtain⟨z,its,n,r,e⟩:=I.hok p _ h
 exact⟨its,n,r,e,z⟩
theorem Inv.lstUpd{pins:List (Addr×Obj)}{σ:St}{H:Hp}{s:Shared}{p:Addr}{xs ys:List V}{its its':List Value}{n n':Nat}{f:Obj→Obj}(I:Inv X pins σ H s)(h:H p=some (.lst xs))
  (ho:s.heap.get? p=some { cls:=.type "list",data:=.seq its.toArray n }) (hf:f { cls:=.type "list",data:=.seq its.toArray n }={ cls:=.type "list",data:=.seq its'.toArray n' }) (r:Vals ys its') (hz:ys.length≤sizeLine) (t:Nat) :
  Inv X pins σ (upd H p (.lst ys)) { s with heap:=s.heap.update p f,toks:=t }:=by
 have e:(s.heap.update p f).get? p=some { cls:=.type "list",data:=.seq its'.toArray n' }:=by
  rw[Heap.get?_update_self f ho (by rw[hf]<;>rfl),hf]
 refine I.write (x:=p) (e:=p) (by rw[h];trivial) (.inl rfl) (fun b u hb q=>(Heap.get?_update_other _ _ (Ne.symm hb)).trans q) ⟨_,e⟩ ?_
 exact⟨hz,its',n',r,e⟩
noncomputable def rSetL:V→V→V→Hp→(Hp→Prop)→Prop:=fun o i v H Q=>∃ p xs k j,o=.ref p∧i=.int k∧H p=some (.lst xs)∧ixN xs.length k=some j∧Q (upd H p (.lst (xs.set j v)))
theorem Zjv:PSet X rSetL:=by
 intro pins s σ H o i v ov iv u Q I ro ri rv h
 obtain⟨p,xs,k,j,rfl,rfl,hp,hj,q⟩:=h
 cases ro
 obtain⟨t,rfl⟩:=ri
 obtain⟨its,n,r,ho,hz⟩:=I.lst hp
 obtain⟨h1,h2,h3,h4⟩:=ZhN hj
 have hl:=r.length
 have hn:=line63
 have I':Inv X pins σ (upd H p (.lst (xs.set j v))) { s with heap:=s.heap.update p (Obj.mapSeq (·.setIfInBounds j u)) } :=
  I.lstUpd hp ho (Zhh its n j u) (r.set rv j) (by rw[List.length_set];exact hz) s.toks
 by_cases h0:0≤k
 ·have hk:k.toNat=j:=by
   rw[seqIndex_of h0 h4] at h1
   exact Option.some.inj h1
  exact PySem.W.ki_setAt ho h0 (by omega) (by rw[List.size_toArray,← hl];exact h4) (by rw[hk];exact⟨_,I',q⟩)
 ·have hk:(k+(its.toArray.size:Int)).toNat=j:=by
   rw[seqIndex_neg (by omega) h3] at h1
   rw[List.size_toArray,← hl]
   exact Option.some.inj h1
  exact PySem.W.ki_setBack ho (by omega) (by rw[List.size_toArray,← hl];exact h3) (by omega) (by rw[hk];exact⟨_,I',q⟩)
theorem Zfj:OpR X (compareOp .NotIn) (fun x y H Q=>∃ i j,x=.str i∧y=.str j∧Q (.bl (!(!(Builtin.Str.occurrences j i 0 j.length 1).isEmpty))) H):=by
 intro pins s σ H x y v u Q I rx ry h
 obtain⟨i,j,rfl,rfl,q⟩:=h
 obtain⟨t,rfl⟩:=rx
 obtain⟨t',rfl⟩:=ry
 exact notIn_str ⟨.bl _,H,I,rfl,q⟩
theorem Zfk:CallR X (.builtin "len") (fun xs H Q=>∃ p ys,xs=[.ref p]∧(SqL X.K H p ys∨SqT X.K H p ys)∧Q (.int ys.length) H):=by
 intro pins s σ H xs us Q I r h
 obtain⟨p,ys,rfl,hq,q⟩:=h
 obtain⟨u,rfl,rx⟩:=vals1 r
 cases rx
 have hn:=line63
 rcases hq with hq|hq
 ·obtain⟨its,r',pl,hz⟩:=I.list hq
  have hlen:=r'.length
  exact Calls.call_len_list pl.isList (by simp only[List.size_toArray]<;>omega) ⟨.int ys.length,H,I.tok _,⟨s.toks+1,by rw[List.size_toArray,hlen]⟩,q⟩
 ·obtain⟨its,r',pl,hz⟩:=I.tuple hq
  have hlen:=r'.length
  exact len_tuple pl (by simp only[List.size_toArray]<;>omega) ⟨.int ys.length,H,I.tok _,⟨s.toks+1,by rw[List.size_toArray,hlen]⟩,q⟩
theorem Zfl:CallR X (.builtin "len") (fun xs H Q=>∃ z,xs=[.str z]∧z.length≤sizeLine∧Q (.int z.length) H):=by
 intro pins s σ H xs us Q I r h
 obtain⟨z,rfl,hz,q⟩:=h
 obtain⟨u,rfl,t,rfl⟩:=vals1 r
 have hn:=line63
 exact len_str (by omega) ⟨.int z.length,H,I.tok _,⟨_,rfl⟩,q⟩
theorem CallR.or{f:Value}{r r':List V→Hp→VK→Prop}(h:CallR X f r)(h':CallR X f r'):CallR X f (fun xs H Q=>r xs H Q∨r' xs H Q):=by
 intro pins s σ H xs us Q I rs q
 rcases q with q|q
 ·exact h pins s σ H xs us Q I rs q
 ·exact h' pins s σ H xs us Q I rs q
theorem Zfm:CallR X (.type "list") (fun xs H Q=>∃ p ys,xs=[.ref p]∧(SqL X.K H p ys∨SqT X.K H p ys)∧∀ l,H l=none→Q (.ref l) (upd H l (.lst ys))):=by
 intro pins s σ H xs us Q I r h
 obtain⟨p,ys,rfl,hq,q⟩:=h
 obtain⟨u,rfl,rx⟩:=vals1 r
 cases rx
 have fin:∀ (its:List Value),Vals ys its→ys.length≤sizeLine→∀ (h':Heap) (c':Nat),(∀ b o',s.heap.get? b=some o'→h'.get? b=some o') →
   h'.get? s.heap.objs.size=some { cls:=.type "list",dict:=none,data:=.seq its.toArray c',slots:=#[] }→EP X pins σ Q (.ref s.heap.objs.size) { s with heap:=h' }:=fun its r' hz h' c' kp e =>
  ⟨.ref s.heap.objs.size,_,I.laid (t':=s.toks) kp (Nat.le_refl _) (show ObjOk X.prog X.w _ h' _ (.lst ys) from ⟨hz,its,c',r',e⟩),rfl,q _ (I.hok.fresh (Nat.le_refl _))⟩
 rcases hq with hq|hq
 ·obtain⟨its,r',pl,hz⟩:=I.list hq
  have hlen:=r'.length
  obtain⟨o,ho,hc,n,hd⟩:=pl.isList
  exact call_list_seq p (.inl rfl) ho hc hd (fun h' c' kp e=>fin its r' hz h' c' kp e) (by simp only[List.size_toArray]<;>omega)
 ·obtain⟨its,r',pl,hz⟩:=I.tuple hq
  have hlen:=r'.length
  obtain⟨o,ho,hc,n,hd⟩:=pl
  exact call_list_seq p (.inr rfl) ho hc hd (fun h' c' kp e=>fin its r' hz h' c' kp e) (by simp only[List.size_toArray]<;>omega)
theorem ZeK:CallR X (.type "tuple") (fun xs H Q=>∃ p ys,xs=[.ref p]∧((SqL X.K H p ys∧∀ l,H l=none→Q (.ref l) (upd H l (.tup ys)))∨(SqT X.K H p ys∧Q (.ref p) H))):=by
 intro pins s σ H xs us Q I r h
 obtain⟨p,ys,rfl,h⟩:=h
 obtain⟨u,rfl,rx⟩:=vals1 r
 cases rx
 rcases h with⟨hq,q⟩|⟨hq,q⟩
 ·obtain⟨its,r',pl,hz⟩:=I.list hq
  have hlen:=r'.length
  refine call_tuple_list pl.isList (fun h' kp=>?_) (by simp only[List.size_toArray]<;>omega)
  have I1:Inv X pins σ H { s with heap:=h' }:=I.kept (t':=s.toks) kp
  have I2:Inv X pins σ (upd H h'.objs.size (.tup ys)) { s with heap:=h'.push { cls:=.type "tuple",data:=.seq its.toArray } } :=
   I1.laid (t':=s.toks) (fun b o e=>Heap.get?_push_of_some _ e) (Nat.le_refl _) (show ObjOk X.prog X.w _ _ _ (.tup ys) from ⟨hz,its,r',IsTup.new _ _⟩)
  exact⟨.ref h'.objs.size,_,I2,rfl,q _ (I1.hok.fresh (Nat.le_refl _))⟩
 ·obtain⟨its,r',pl,hz⟩:=I.tuple hq
  exact call_tuple_same pl ⟨.ref p,H,I,rfl,q⟩
noncomputable def tyV(K:W.Frag)(T:String)(x:V)(H:Hp):Prop:=match x with
 | .str _=>T = "str"
 | .int _=>T = "int"
 | .ref p=>(T = "list" ∧ ∃ xs,SqL K H p xs)∨(T = "tuple" ∧ ∃ o,K.lookup p=some o∧o.cls=.type "tuple" ∧ o.dict=none) ∨
   (T = "dict" ∧ ((∃ kvs,H p=some (.dK kvs))∨∃ kvs,H p=some (.dT kvs)))∨(T = "set" ∧ ∃ S n,H p=some (.set S n))
 | _=>False
theorem Zkn{pins:List (Addr×Obj)}{σ:St}{H:Hp}{s:Shared}{T:String}{x:V}{v:Value}(I:Inv X pins σ H s)(r:RelV x v)(ty:tyV X.K T x H) :
  s.TypeIs v T∧∀ a,v=.ref a→∃ ob,s.heap.get? a=some ob∧ob.dict=none:=by
 cases x with
 | str z =>
  obtain⟨t,rfl⟩:=r
  cases (show T = "str" from ty)
  exact⟨typeIs_str s z t,fun _ e=>nomatch e⟩
 | int i =>
  obtain⟨t,rfl⟩:=r
  cases (show T = "int" from ty)
  exact⟨typeIs_int s i t,fun _ e=>nomatch e⟩
 | ref p =>
  cases r
  rcases ty with⟨rfl,xs,hq⟩|⟨rfl,o,hk,hc,hd⟩|⟨rfl,hk⟩|⟨rfl,S,n,hk⟩
  ·obtain⟨its,_,pl,_⟩:=I.list hq
   refine⟨pl.isList.typeIs,fun a e=>?_⟩
   cases e
   obtain⟨o,n,e,c,hd,_⟩:=pl
   exact⟨o,e,hd⟩
  ·refine⟨⟨o,I.kIn p o hk,hc⟩,fun a e=>?_⟩
   cases e
   exact⟨o,I.kIn _ o hk,hd⟩
  ·have z:∃ o,s.heap.get? p=some o∧o.ExactDict:=by
    rcases hk with⟨kvs,hk⟩|⟨kvs,hk⟩
    ·obtain⟨_,_,_,_,o,_,_,e,ex,_⟩:=I.hok p _ hk
     exact⟨o,e,ex⟩
    ·obtain⟨_,_,_,_,o,_,_,e,ex,_⟩:=I.hok p _ hk
     exact⟨o,e,ex⟩
   obtain⟨o,e,ex⟩:=z
   refine⟨⟨o,e,ex.1⟩,fun a e2=>?_⟩
   cases e2
   exact⟨o,e,ex.2.1⟩
  ·obtain⟨o,_,_,_,e,ex,_⟩:=I.hok p _ hk
   refine⟨⟨o,e,ex.1⟩,fun a e2=>?_⟩
   cases e2
   exact⟨o,e,ex.2.1⟩
 | _=>exact False.elim ty
noncomputable def tBM0(K:W.Frag)(T:String)(r:V→List V→Hp→VK→Prop)(to:TE):TE:=fun σ H Q=>to σ H fun x H1=>tyV K T x H1∧r x [] H1 Q
noncomputable def tBM(K:W.Frag)(T:String)(r:V→List V→Hp→VK→Prop)(to:TE)(t:TA):TE:=fun σ H Q=>to σ H fun x H1=>tyV K T x H1∧t σ H1 fun xs H2=>r x xs H2 Q
variable{o e:Expr}{es:List Expr}{to:TE}{t:TA}{name:Str}{apos cpos:Pos}{T id:String}{r:V→List V→Hp→VK→Prop}
theorem Zmo(pa:PlainAttrs T)(slot:Slot T name id)(hty:typeOf (.builtin id)=pure (.type "method_descriptor"))(hm:MtR X id r)(ho:PE X o to)
  (hbase:attributeBase o name X.env (eval o X.env)=eval o X.env:=by rfl) (hline:(apos.endLine == cpos.line)=true:=by rfl):PE X (.Call (.Attribute o name apos) [] [] cpos) (tBM0 X.K T r to):=by
 intro pins s σ H Q I h
 refine wpAny_Call_method0_late hbase hline (thn (ho pins s σ H _ I h) fun v s1 ⟨x,H1,I1,r1,ty,q1⟩=>?_)
 obtain⟨h1,h2⟩:=Zkn I1 r1 ty
 exact⟨T,id,pa,slot,hty,h1,h2,Calls.callWith_builtin rfl (PySem.evalArgs_none (hm pins s1 σ H1 x [] v [] Q I1 r1 .nil q1))⟩
theorem Zn1(pa:PlainAttrs T)(slot:Slot T name id)(hty:typeOf (.builtin id)=pure (.type "method_descriptor"))(hm:MtR X id r)(ho:PE X o to)(ha:PA X (e::es) t)
  (hbase:attributeBase o name X.env (eval o X.env)=eval o X.env:=by rfl)
  (hfew:((backTo cpos (starEach (e::es) X.env)).all (fun x=>!x.1) && (backToKw cpos (keywordEach [] X.env)).all (fun x=>x.1.isSome)
   && decide ((e::es).length+([]:List Keyword).length+(if ([]:List Keyword).isEmpty then 0 else 1)<30))=true:=by rfl)
  (hline:(apos.endLine == cpos.line)=true:=by rfl) (hs:starEach (e::es) X.env=(false,eval e X.env)::starEach es X.env:=by rfl) (hplain:(backTo cpos (starEach es X.env)).any (·.1)=false:=by rfl) :
  PE X (.Call (.Attribute o name apos) (e::es) [] cpos) (tBM X.K T r to t):=by
 intro pins s σ H Q I h
 refine wpAny_Call_method_late hbase hfew hline rfl (thn (ho pins s σ H _ I h) fun v s1 ⟨x,H1,I1,r1,ty,q1⟩=>?_)
 obtain⟨h1,h2⟩:=Zkn I1 r1 ty
 refine⟨T,id,pa,slot,hty,h1,h2,?_⟩
 have hA:=ha cpos pins s1 σ H1 _ I1 q1
 rw[hs] at hA ⊢
 refine Calls.callWith_builtin (by show (false || (backTo cpos (starEach es X.env)).any (·.1))=false;rw[hplain]<;>rfl) (Calls.evalArgs_plain ?_)
 exact thn hA fun us s2 ⟨vs,H2,I2,r2,q2⟩=>hm pins s2 σ H2 x vs v us Q I2 r1 r2 q2
end
end L2
namespace L2
open PySem PySem.Spec PyProof.Rows
noncomputable def MtM(X:Cx)(id:String)(r:V→List V→Hp→VK→Prop):Prop :=
 ∀ (pins:List (Addr×Obj)) (s:Shared) (σ:St) (H:Hp) (x:V) (xs:List V) (v:Value) (us:List Value) (Q:VK),Inv X pins σ H s→RelV x v→Vals xs us→r x xs H Q →
  wpAny (model X.prog X.w) X.A (call (.builtin id) (v::us)) (EP X pins σ Q) X.xe s
theorem Vals.one:∀ {x:V} {us:List Value},Vals [x] us→∃ u,us=[u]∧RelV x u
 | _,_,.cons r .nil=>⟨_,rfl,r⟩
theorem Vals.zero:∀ {us:List Value},Vals [] us→us=[]
 | _,.nil=>rfl
theorem Vals.reverse{xs:List V}{us:List Value}(h:Vals xs us):Vals xs.reverse us.reverse:=by
 induction h with
 | nil=>exact .nil
 | cons r t ih=>rw[List.reverse_cons,List.reverse_cons];exact Vals.append ih (.cons r .nil)
theorem Vals.rep{xs:List V}{us:List Value}(h:Vals xs us):∀ k:Nat,Vals (List.replicate k xs).flatten (List.replicate k us).flatten
 | 0=>.nil
 | k+1=>by
  rw[List.replicate_succ,List.replicate_succ,List.flatten_cons,List.flatten_cons]
  exact Vals.append h (Vals.rep h k)
theorem Zfn(its:List Value):∀ (k:Nat) (acc:List Value),
  List.foldl (fun x1 x2=>x1++x2) acc.toArray (List.replicate k its.toArray)=(acc++(List.replicate k its).flatten).toArray
 | 0,acc=>by simp
 | k+1,acc=>by
  have e:acc.toArray++its.toArray=(acc++its).toArray:=by simp
  have e2:(acc++its)++(List.replicate k its).flatten=acc++(List.replicate (k+1) its).flatten:=by
   rw[List.replicate_succ,List.flatten_cons,List.append_assoc]
  rw[← e2,← Zfn its k (acc++its),← e,List.replicate_succ,List.foldl_cons]
section
variable{X:Cx}{pins:List (Addr×Obj)}{σ:St}{H:Hp}{s:Shared}{l b:Addr}{xs ys zs:List V}
theorem Inv.lset{its its':List Value}{n:Nat}{f:Array Value→Array Value}{t':Nat}(I:Inv X pins σ H s)(hH:H l=some (.lst xs))
  (e:s.heap.get? l=some { cls:=.type "list",data:=.seq its.toArray n }) (hf:f its.toArray=its'.toArray) (hv:Vals ys its') (hz:ys.length≤sizeLine) :
  Inv X pins σ (upd H l (.lst ys)) { s with heap:=s.heap.update l (Obj.mapSeq f),toks:=t' }:=by
 have q:=PySem.IsL.update e f
 rw[hf] at q
 refine I.write (x:=l) (e:=l) (by rw[hH];exact trivial) (.inl rfl) (fun b' u hb hu=>(Heap.get?_update_other s.heap (Obj.mapSeq f) (Ne.symm hb)).trans hu) ⟨_,q⟩ ?_
 exact⟨hz,its',_,hv,q⟩
theorem Inv.lnew{its:List Value}{t':Nat}(I:Inv X pins σ H s)(hv:Vals ys its)(hz:ys.length≤sizeLine) :
  Inv X pins σ (upd H s.heap.objs.size (.lst ys)) { s with heap:=s.heap.push { cls:=.type "list",data:=.seq its.toArray },toks:=t' } :=
 I.laid (fun _ _ q=>Heap.get?_push_of_some _ q) (Nat.le_refl _) ⟨hz,its,0,hv,Heap.get?_push_size _ rfl⟩
theorem Inv.fresh(I:Inv X pins σ H s):H s.heap.objs.size=none:=I.hok.fresh (Nat.le_refl _)
theorem Inv.lstM(I:Inv X pins σ H s)(hH:H l=some (.lst xs)):xs.length≤sizeLine∧∃ (its:List Value) (n:Nat),Vals xs its∧xs.length=its.length∧s.heap.get? l=some { cls:=.type "list",data:=.seq its.toArray n }:=by
 obtain⟨z,its,n,r,e⟩:=I.hok l _ hH
 exact⟨z,its,n,r,r.length,e⟩
theorem notLongL{n:Nat}(h:n≤sizeLine):Builtin.List.listTooLong n=false:=by
 unfold Builtin.List.listTooLong
 exact decide_eq_false (by omega)
end
section
variable{X:Cx}
noncomputable def rAppend:V→List V→Hp→VK→Prop:=fun x vs H Q=>∃ l xs y,x=.ref l∧vs=[y]∧H l=some (.lst xs)∧xs.length<sizeLine∧Q .non (upd H l (.lst (xs++[y])))
theorem ZaP:MtM X "list.append" rAppend:=by
 intro pins s σ H x vs v us Q I rx rv h
 obtain⟨l,xs,y,rfl,rfl,hH,hz,q⟩:=h
 cases rx
 obtain⟨u,rfl,ru⟩:=rv.one
 obtain⟨z,its,n,r,hl,e⟩:=I.lstM hH
 refine call_meets F.slot_list_append ⟨_,e,rfl⟩ F.entry_list_append (F.args_list_append_2 _ _) (PySem.list_append l its.toArray n u (by rw[List.size_toArray];omega)) ⟨e,?_⟩
 refine⟨.non,_,I.lset (its':=its++[u]) hH e (by simp) (r.append (.cons ru .nil)) ?_,rfl,q⟩
 rw[List.length_append,List.length_singleton]
 omega
noncomputable def rReverse:V→List V→Hp→VK→Prop:=fun x vs H Q=>∃ l xs,x=.ref l∧vs=[]∧H l=some (.lst xs)∧Q .non (upd H l (.lst xs.reverse))
theorem Zhi:MtM X "list.reverse" rReverse:=by
 intro pins s σ H x vs v us Q I rx rv h
 obtain⟨l,xs,rfl,rfl,hH,q⟩:=h
 cases rx
 have hus:=rv.zero
 subst hus
 obtain⟨z,its,n,r,hl,e⟩:=I.lstM hH
 refine call_meets F.slot_list_reverse ⟨_,e,rfl⟩ F.entry_list_reverse (F.args_list_reverse_1 _) (AutoSeq1.list_reverse_list_0 l its.toArray n (by rw[List.size_toArray];omega)) ⟨e,?_⟩
 refine⟨.non,_,I.lset (its':=its.reverse) hH e (by simp) r.reverse ?_,rfl,q⟩
 rw[List.length_reverse]
 omega
noncomputable def rRep:R2:=fun x y H Q=>∃ l k xs,x=.ref l∧y=.int k∧H l=some (.lst xs)∧-(2 ^ 63)≤k∧k<2 ^ 63∧xs.length*k.toNat≤sizeLine ∧
 ∀ p,H p=none→Q (.ref p) (upd H p (.lst (List.replicate k.toNat xs).flatten))
theorem ZkW{α:Type}(xs:List α)(k:Nat):(List.replicate k xs).flatten.length=k*xs.length:=by
 induction k with
 | zero=>simp
 | succ k ih=>rw[List.replicate_succ,List.flatten_cons,List.length_append,ih,Nat.succ_mul,Nat.add_comm]
theorem Zmp:OpR X (binaryOp .Mult) rRep:=by
 intro pins s σ H x y v u Q I rx ry h
 obtain⟨l,k,xs,rfl,rfl,hH,h1,h2,hz,q⟩:=h
 cases rx
 obtain⟨t,rfl⟩:=ry
 obtain⟨z,its,n,r,hl,e⟩:=I.lstM hH
 have hlen:its.toArray.size*k.toNat≤sizeLine:=by rw[List.size_toArray,← hl];exact hz
 have hcap:¬ its.toArray.size*k.toNat > (2 ^ 63-1) / 8:=by
  have:(sizeLine:Nat)≤(2 ^ 63-1) / 8:=by decide
  omega
 have hfit:¬ (!Builtin.List.listFitsIndex k)=true:=by
  rw[fitsIndex_both h1 h2]
  exact Bool.false_ne_true
 have hlong:¬ Builtin.List.listTooLong (its.toArray.size*k.toNat)=true:=by
  rw[notLongL hlen]
  exact Bool.false_ne_true
 have hnew:List.foldl (fun x1 x2=>x1++x2) #[] (List.replicate (if its.toArray.isEmpty=true then 0 else k.toNat) its.toArray)=(List.replicate k.toNat its).flatten.toArray:=by
  have f0:∀ m:Nat,List.foldl (fun x1 x2=>x1++x2) #[] (List.replicate m its.toArray)=(List.replicate m its).flatten.toArray:=fun m=>by
   have:=Zfn its m []
   rw[List.nil_append] at this
   exact this
  rw[f0]
  cases its with
  | nil=>simp
  | cons a r'=>rw[if_neg (by simp)]
 refine wpAny_binaryOp_repeat_ref (T := "list") (U := "int") (by decide) ⟨_,e,rfl⟩ (fun s'=>typeIs_int s' k t) noFill_list_mul F.fills_int_mul F.slot_int_rmul repeat_list F.slot_int_index.lookup
  (call_meets F.slot_int_rmul (typeIs_int s k t) F.entry_int_rmul (F.args_int_rmul_2 _ _) (int___rmul___int_list k t l its.toArray n)
   ⟨e,rfl,⟨_,e,rfl⟩,call_meets F.slot_list_mul ⟨_,e,rfl⟩ F.entry_list_mul (F.args_list_mul_2 _ _) (AutoListH.list___mul___list_int_3 l its.toArray n k t hfit hcap hlong) ⟨e,?_⟩⟩)
 rw[hnew]
 exact⟨.ref _,_,I.lnew (t':=s.toks) (r.rep k.toNat) (by rw[ZkW,Nat.mul_comm];exact hz),rfl,q _ I.fresh⟩
end
section
variable{prog:Program}{w:World}{A:Around}{E:Value→Shared→Prop}{s:Shared}
set_option maxRecDepth 100000 in
end
section
variable{X:Cx}
end
end L2
namespace Att
open PySem PySem.W PySem.Calls PyProof.Rows
theorem ZdP{P:Params}{h:Heap}:∀ (ns:List Int) (vs:List Value),WellAll P h vs (ns.map WData.int)→IntsAre vs ns:=by
 intro ns
 induction ns with
 | nil =>
  intro vs w
  rw[List.map_nil] at w
  cases w
  exact .nil
 | cons n ns ih =>
  intro vs w
  rw[List.map_cons] at w
  cases w with
  | cons a b =>
   cases a
   exact .cons _ _ (ih _ b)
theorem ZhO{l:OpenLaw}{n:Nat}(hn:l.most=some n){P:Params}{h:Heap}{args:List WData}{vals:List Value}
  (hpre:l.row.toRowW.claim.pre args=true) (hwl:WellAll P h vals args) :
  ∃ a vs ns,vals=[Value.ref a]∧args=[WData.list (ns.map WData.int)]∧h.get? a=some { cls:=.type "list",data:=.seq vs.toArray }∧IntsAre vs ns∧ns.length≤n:=by
 have hsh:WShape.hasAll [] args [.list .int]=true:=(pre_splitW hpre).1
 have hc:l.pre.holds [] { args:=args }=true:=(pre_splitW hpre).2
 obtain⟨d,r,rfl,h1,h2⟩:=hasAllW_cons hsh
 obtain rfl:=hasAllW_nil h2
 obtain⟨xs,rfl,h3⟩:=hasW_list h1
 obtain⟨ns,rfl⟩:=items_int h3
 have hlen:ns.length≤n:=by
  unfold OpenLaw.pre at hc
  have h4:(WTm.not (.lt (.lit (.int (n:Int))) (.len (.arg 0)))).holds [] { args:=[.list (ns.map .int)] }=true:=by
   have h4:=(holds_andW hc).1
   rw[hn] at h4
   exact h4
  have h5:=condW_of h4 (w_not (w_lt w_lit (w_len_list (w_arg rfl))))
  rw[List.length_map] at h5
  refine Nat.le_of_not_lt fun q=>?_
  have q':(n:Int)<((ns.length:Nat):Int):=by omega
  first
   | (rw[decide_eq_true q'] at h5;exact absurd h5 (by decide))
   | (simp at h5;omega)
 cases hwl with
 | cons w1 w2 =>
  cases w2
  cases w1 with
  | list ho hall=>exact⟨_,_,ns,rfl,rfl,ho,ZdP ns _ hall,hlen⟩
theorem ZhP(l:OpenLaw)(args:List WData):l.row.toRowW.claim.post args (.bool true) args=true :=
 postW_of (r:=l.row.toRowW) (X:=(true == true))
  (show WShape.has [] (.bool true) .bool=true by first|rfl|decide|simp[WShape.has,WShape.arms,WShape.armsAll])
  (show (WTm.eq .res (.lit (.bool true))).value [] { args:=args,res:=some (.bool true),after:=args }=some (.bool (true == true)) from w_eq_bool (w_res rfl) w_lit) rfl
section
variable{prog:Program}{w:World}{A:Around}{E:Value→Shared→Prop}{s:Shared}{K:Frag}
end
end Att
namespace L2
open PySem PySem.Spec PyProof.Rows
theorem Zfo:∀ {vs:List Value} {ns:List Int},IntsAre vs ns→Vals (ns.map V.int) vs
 | _,_,.nil=>.nil
 | _,_,.cons n t h=>.cons ⟨t,rfl⟩ (Zfo h)
end L2
namespace L2
open PySem PySem.Spec PyProof.Rows
end L2
namespace L2
open PySem PySem.Spec PyProof.Rows
noncomputable def defArgs(s:Stmt):Arguments:=match s with
 | .FunctionDef _ a _ _ _ _ _ _ _ _=>a
 | _=>{ posonlyargs:=[],args:=[],vararg:=none,kwonlyargs:=[],kw_defaults:=[],kwarg:=none,defaults:=[] }
noncomputable def defBody(s:Stmt):List Stmt:=match s with
 | .FunctionDef _ _ b _ _ _ _ _ _ _=>b
 | _=>[]
noncomputable def defScope(s:Stmt):Scope:=match s with
 | .FunctionDef _ _ _ _ _ _ sc _ _ _=>sc
 | _=>{ kind:=.function,names:=[],isGenerator:=false,isCoroutine:=false }
noncomputable abbrev E0:XK:=fun _ _ _=>False
section
variable{P:Program}{w:World}{K:W.Frag}{mg:Str→Option Value}{base:Heap}
end
theorem small1000{n:Nat}(h:n≤1000):n<sizeLine:=Nat.lt_of_le_of_lt h (by decide)
section
variable{X:Cx}
theorem pv(i:Nat){x:Str}{pos:Pos}(hN:X.N[i]?=some x:=by rfl)(hv:Vis X.env.scope x:=by first|exact Or.inl rfl|exact Or.inr (Or.inl rfl)|exact Or.inr (Or.inr rfl))(hd:(x == ("__debug__" : Str))=false:=by decide)
  (hcd:(x == ("__classdict__" : Str))=false:=by decide):PE X (.Name x pos) (tVar i):=Zkh hN hv hd hcd
end
theorem iteF{A B:Prop}(h:B):if false=true then A else B:=by
 rw[if_neg Bool.false_ne_true]
 exact h
theorem iteT{A B:Prop}(h:A):if true=true then A else B:=by
 rw[if_pos rfl]
 exact h
theorem ite2{c A B:Prop}[Decidable c](h1:c→A)(h2:¬ c→B):if c then A else B:=by
 by_cases h:c
 ·rw[if_pos h]
  exact h1 h
 ·rw[if_neg h]
  exact h2 h
theorem iteNS{c A B:Prop}[Decidable c](hc:c)(h:B):if (!decide c)=true then A else B:=by
 rw[decide_eq_true hc]
 exact iteF h
noncomputable def Same(H H':Hp):Prop:=∀ b o,H b=some o→H' b=some o
theorem Same.refl(H:Hp):Same H H:=fun _ _ h=>h
theorem Same.trans{H H1 H2:Hp}(a:Same H H1)(b:Same H1 H2):Same H H2:=fun c o h=>b c o (a c o h)
theorem Same.free{H H':Hp}(e:Same H H'){l:Addr}(h:H' l=Option.none):H l=Option.none:=by
 cases q:H l with
 | none=>rfl
 | some o =>
  rw[e l o q] at h
  cases h
theorem Same.seq{K:W.Frag}{H H':Hp}{a:Addr}{xs:List V}(e:Same H H')(h:SqL K H a xs):SqL K H' a xs:=by
 rcases h with (h|⟨o,h⟩)|h
 ·exact .inl (.inl (e _ _ h))
 ·exact .inl (.inr ⟨o,e _ _ h⟩)
 ·exact .inr h
end L2
namespace L2
open PySem PySem.Spec PyProof.Rows
section
variable{κ:Type}[DecidableEq κ]
noncomputable def valV(kvs:List (κ×V))(k:κ):Option V:=(kvs.find? fun kv=>decide (kv.1=k)).map (·.2)
noncomputable def putK(kvs:List (κ×V))(k:κ)(v:V):List (κ×V) :=
 if (kvs.any fun kv=>decide (kv.1=k))=true then kvs.map (fun kv=>if kv.1=k then (kv.1,v) else kv) else kvs++[(k,v)]
theorem ZcX{p:κ×V}{r:List (κ×V)}{k:κ}(e:p.1=k):valV (p::r) k=some p.2:=by simp[valV,List.find?_cons,e]
theorem ZcY{p:κ×V}{r:List (κ×V)}{k:κ}(e:¬ p.1=k):valV (p::r) k=valV r k:=by simp[valV,List.find?_cons,e]
theorem ZdG(k:κ):∀ kvs:List (κ×V),(kvs.any fun kv=>decide (kv.1=k))=(valV kvs k).isSome
 | []=>rfl
 | p::r=>by
  rw[List.any_cons]
  by_cases e:p.1=k
  ·simp only[ZcX e,decide_eq_true e,Bool.true_or,Option.isSome_some]
  ·rw[ZcY e,decide_eq_false e,Bool.false_or];exact ZdG k r
theorem Za8(kvs:List (κ×V))(k:κ)(v:V):(putK kvs k v).length≤kvs.length+1:=by
 unfold putK
 split
 ·rw[List.length_map];omega
 ·rw[List.length_append,List.length_cons,List.length_nil];omega
theorem RelO.isSome_eq{o:Option V}{u:Option Value}(r:RelO o u):o.isSome=u.isSome:=by
 cases o with
 | none=>cases u with
  | none=>rfl
  | some _=>exact (show False from r).elim
 | some _=>cases u with
  | none=>exact (show False from r).elim
  | some _=>rfl
theorem KV.val{kvs:List (κ×V)}{vs:List (κ×Value)}(r:KV kvs vs)(k:κ):RelO (valV kvs k) (valueAt vs k):=by
 unfold KV at r
 induction r with
 | nil=>exact True.intro
 | @cons p q ps qs h t ih =>
  obtain⟨h1,h2⟩:=h
  by_cases e:p.1=k
  ·have e':q.1=k:=h1.symm.trans e
   have b:valueAt (q::qs) k=some q.2:=by simp[valueAt,List.find?_cons,e']
   rw[ZcX e,b];exact h2
  ·have e':¬ q.1=k:=fun z=>e (h1.trans z)
   have b:valueAt (q::qs) k=valueAt qs k:=by simp[valueAt,List.find?_cons,e']
   rw[ZcY e,b];exact ih
theorem KV.any{kvs:List (κ×V)}{vs:List (κ×Value)}(r:KV kvs vs)(k:κ):(kvs.any fun kv=>decide (kv.1=k))=vs.any fun kv=>decide (kv.1=k):=by
 unfold KV at r
 induction r with
 | nil=>rfl
 | cons h t ih=>rw[List.any_cons,List.any_cons,ih,h.1]
theorem KV.repl{kvs:List (κ×V)}{vs:List (κ×Value)}(r:KV kvs vs)(k:κ){y:V}{u:Value}(ry:RelV y u) :
  KV (kvs.map fun kv=>if kv.1=k then (kv.1,y) else kv) (vs.map fun kv=>if kv.1=k then (kv.1,u) else kv):=by
 unfold KV at r ⊢
 induction r with
 | nil=>exact .nil
 | @cons p q ps qs h t ih =>
  rw[List.map_cons,List.map_cons]
  refine .cons ?_ ih
  obtain⟨h1,h2⟩:=h
  by_cases e:p.1=k
  ·rw[if_pos e,if_pos (h1.symm.trans e)];exact⟨h1,ry⟩
  ·rw[if_neg e,if_neg (fun z=>e (h1.trans z))];exact⟨h1,h2⟩
theorem KV.put{kvs:List (κ×V)}{vs:List (κ×Value)}(r:KV kvs vs)(k:κ){y:V}{u:Value}(ry:RelV y u):KV (putK kvs k y) (stored vs k u):=by
 unfold putK stored
 rw[r.any k]
 by_cases e:(vs.any fun kv=>decide (kv.1=k))=true
 ·rw[if_pos e,if_pos e];exact r.repl k ry
 ·rw[if_neg e,if_neg e];exact Paired.snoc r ⟨rfl,ry⟩
theorem KV.length{kvs:List (κ×V)}{vs:List (κ×Value)}(r:KV kvs vs):kvs.length=vs.length:=Paired.length r
end
theorem Zf0{P:Program}{w:World}{k:Key}{u:Value}(r:RelV (kV k) u):(mixKind P w).is k u=true:=by
 cases k with
 | inl i=>obtain⟨t,e⟩:=(show ∃ t,u=Value.int i t from r);subst e;exact ZfX P w i t
 | inr x=>obtain⟨t,e⟩:=(show ∃ t,u=Value.str x t from r);subst e;exact ZfY P w x t
theorem Zfp{P:Program}{w:World}:∀ {ks:List Key} {us:List Value},Vals (ks.map kV) us→ItemsAre (mixKind P w) ks us
 | [],_,r=>by rw[List.map_nil] at r;cases r;exact .nil
 | k::ks,_,r=>by
  rw[List.map_cons] at r
  cases r with
  | cons h t=>exact .cons (Zf0 h) (Zfp t)
noncomputable abbrev KT(H:Hp):List (List Key×V)→List (List Key×Addr×Value)→Prop:=Paired fun p q=>p.1=q.1∧H q.2.1=some (.tup (p.1.map kV))∧RelV p.2 q.2.2
theorem KT.val{H:Hp}{kvs:List (List Key×V)}{xs:List (List Key×Addr×Value)}(r:KT H kvs xs)(k:List Key):RelO (valV kvs k) ((atKey xs k).map (·.2)):=by
 induction r with
 | nil=>exact True.intro
 | @cons p q ps qs h t ih =>
  obtain⟨h1,_,h2⟩:=h
  by_cases e:p.1=k
  ·have e':q.1=k:=h1.symm.trans e
   have b:atKey (q::qs) k=some q.2:=by simp[atKey,List.find?_cons,e']
   rw[ZcX e,b];exact h2
  ·have e':¬ q.1=k:=fun z=>e (h1.trans z)
   have b:atKey (q::qs) k=atKey qs k:=by simp[atKey,List.find?_cons,e']
   rw[ZcY e,b];exact ih
theorem KT.repl{H:Hp}{kvs:List (List Key×V)}{xs:List (List Key×Addr×Value)}(r:KT H kvs xs)(k:List Key){y:V}{u:Value}(ry:RelV y u) :
  KT H (kvs.map fun kv=>if kv.1=k then (kv.1,y) else kv) (xs.map (putAt k u)):=by
 induction r with
 | nil=>exact .nil
 | @cons p q ps qs h t ih =>
  rw[List.map_cons,List.map_cons]
  refine .cons ?_ ih
  obtain⟨h1,h2,h3⟩:=h
  unfold putAt
  by_cases e:p.1=k
  ·rw[if_pos e,if_pos (h1.symm.trans e)];exact⟨h1,h2,ry⟩
  ·rw[if_neg e,if_neg (fun z=>e (h1.trans z))];exact⟨h1,h2,h3⟩
theorem KT.put{H:Hp}{kvs:List (List Key×V)}{xs:List (List Key×Addr×Value)}(r:KT H kvs xs)(k:List Key){b:Addr}{y:V}{u:Value}(hb:H b=some (.tup (k.map kV)))(ry:RelV y u) :
  KT H (putK kvs k y) (storedH xs k b u):=by
 have e:(kvs.any fun kv=>decide (kv.1=k))=(atKey xs k).isSome:=by
  rw[ZdG,(r.val k).isSome_eq,Option.isSome_map]
 unfold putK storedH
 rw[e]
 by_cases q:(atKey xs k).isSome=true
 ·rw[if_pos q,if_pos q];exact r.repl k ry
 ·rw[if_neg q,if_neg q];exact Paired.snoc r ⟨rfl,hb,ry⟩
theorem KT.keeps{H H':Hp}{kvs:List (List Key×V)}{xs:List (List Key×Addr×Value)}(r:KT H kvs xs)(ht:∀ b ys,H b=some (.tup ys)→H' b=some (.tup ys)):KT H' kvs xs :=
 Paired.mapP r fun _ _ z=>⟨z.1,ht _ _ z.2.1,z.2.2⟩
section
variable{P:Program}{w:World}{H:Hp}{h:Heap}{a:Addr}
theorem ZkX{u:HO}(ok:HOk P w H h)(e:Rd H a u):ObjOk P w H h a u:=e.ok ok
theorem Zf1{kvs:List (Key×V)}(ok:HOk P w H h)(e:Rd H a (.dK kvs)):kvs.length≤sizeLine∧(a == sysModules)=false∧∃ vs,KV kvs vs∧h.DictOf (mixKind P w) a vs :=
 show ObjOk P w H h a (.dK kvs) from ZkX ok e
theorem Zmq{kvs:List (Key×V)}(ok:HOk P w H h)(e:H a=some (.dK kvs)):kvs.length≤sizeLine∧(a == sysModules)=false∧∃ vs,KV kvs vs∧h.DictOf (mixKind P w) a vs:=Zf1 ok (.inl e)
theorem Zdy{ks:List Key}(ok:HOk P w H h)(e:H a=some (.tup (ks.map kV))):(tupleKind (mixKind P w)).is h ks a:=by
 obtain⟨_,its,r,o,h1,h2,n,h3⟩:=(show ObjOk P w H h a (.tup (ks.map kV)) from ok a _ e)
 exact⟨o,its.toArray,n,h1,h2,h3,by simpa using Zfp r⟩
theorem Zf2{kvs:List (List Key×V)}(ok:HOk P w H h)(e:Rd H a (.dT kvs)):kvs.length≤sizeLine∧(a == sysModules)=false ∧
  ∃ xs,KT H kvs xs∧h.DictOfH (tupleKind (mixKind P w)) a xs:=by
 obtain⟨z,y,xs,r,o,es,ep,h1,h2,h3,h4,h5⟩:=(show ObjOk P w H h a (.dT kvs) from ZkX ok e)
 refine⟨z,y,xs,r,o,es,ep,h1,h2,h3,h4,fun x hx=>?_,h5⟩
 have all:∀ {l:List (List Key×V)} {m:List (List Key×Addr×Value)},KT H l m→∀ x∈m,(tupleKind (mixKind P w)).is h x.1 x.2.1:=by
  intro l m q
  induction q with
  | nil=>intro x hx;exact nomatch hx
  | @cons p q ps qs hq t ih =>
   intro x hx
   rcases List.mem_cons.mp hx with e|hx
   ·subst e
    exact Zdy ok (by rw[← hq.1];exact hq.2.1)
   ·exact ih x hx
 exact all r x hx
theorem ZkY{kvs:List (List Key×V)}(ok:HOk P w H h)(e:H a=some (.dT kvs)):kvs.length≤sizeLine∧(a == sysModules)=false ∧
  ∃ xs,KT H kvs xs∧h.DictOfH (tupleKind (mixKind P w)) a xs:=Zf2 ok (.inl e)
end
noncomputable def DGet(H:Hp)(a:Addr)(y:V)(r:Option V):Prop :=
 (∃ kvs k,Rd H a (.dK kvs)∧y=kV k∧r=valV kvs k)∨∃ kvs k b,Rd H a (.dT kvs)∧y=.ref b∧H b=some (.tup (k.map kV))∧r=valV kvs k
noncomputable def DPut(H:Hp)(a:Addr)(y v:V)(H':Hp):Prop :=
 (∃ kvs k,H a=some (.dK kvs)∧y=kV k∧kvs.length<sizeLine∧H'=upd H a (.dK (putK kvs k v))) ∨
 ∃ kvs k b,H a=some (.dT kvs)∧y=.ref b∧H b=some (.tup (k.map kV))∧kvs.length<sizeLine∧H'=upd H a (.dT (putK kvs k v))
theorem DPut.k{H:Hp}{a:Addr}{kvs:List (Key×V)}{k:Key}{v:V}(e:H a=some (.dK kvs))(hl:kvs.length<sizeLine):DPut H a (kV k) v (upd H a (.dK (putK kvs k v))):=.inl ⟨kvs,k,e,rfl,hl,rfl⟩
theorem DPut.t{H:Hp}{a b:Addr}{kvs:List (List Key×V)}{k:List Key}{v:V}(e:H a=some (.dT kvs))(eb:H b=some (.tup (k.map kV)))(hl:kvs.length<sizeLine) :
  DPut H a (.ref b) v (upd H a (.dT (putK kvs k v))):=.inr ⟨kvs,k,b,e,rfl,eb,hl,rfl⟩
section
variable{X:Cx}{pins:List (Addr×Obj)}{σ:St}{H:Hp}{s:Shared}{a:Addr}{y v:V}{u r:Value}{o:Option V}{A:Around}{E:Value→Shared→Prop}
theorem Inv.big(I:Inv X pins σ H s):sysModules<s.heap.objs.size:=by
 have h:mainGlobals<s.heap.objs.size:=(I.mod.glob.keeps I.bk).lt
 exact Nat.lt_trans (by decide) h
theorem ZhQ{Q:Value→Shared→Prop}(hu:A.units+1<cLine)(I:Inv X pins σ H s)(g:DGet H a y (some v))(ry:RelV y u)(h:∀ w' s',Inv X pins σ H s'→RelV v w'→Q w' s') :
  wpAny (model X.prog X.w) A (getItem (.ref a) u) Q E s:=by
 rcases g with⟨kvs,k,e,ey,l⟩|⟨kvs,k,b,e,ey,eb,l⟩
 ·subst ey
  obtain⟨z,hd,vs,rel,dd⟩:=Zf1 I.hok e
  obtain⟨w',hw,rw'⟩:=RelO.some_of (v:=v) (o:=valueAt vs k) (by rw[l];exact rel.val k)
  exact wpAny_getItem_of (Zf0 ry) dd.mapOf hw (h w' _ (I.tok _) rw')
 ·subst ey
  cases (show u=Value.ref b from ry)
  obtain⟨z,hd,xs,rel,dd⟩:=Zf2 I.hok e
  obtain⟨w',hw,rw'⟩:=RelO.some_of (v:=v) (o:=(atKey xs k).map (·.2)) (by rw[l];exact rel.val k)
  obtain⟨p,hp,hp2⟩:=Option.map_eq_some_iff.mp hw
  refine wpAny_getItem_heap (tupleKind_room_in1 hu) (Zdy I.hok eb) dd hp ?_
  rw[hp2]
  exact h w' _ (I.tok _) rw'
theorem ZkZ{Q:Value→Shared→Prop}(hu:A.units+1<cLine)(I:Inv X pins σ H s)(g:DGet H a y o)(ry:RelV y u)(h:∀ s',Inv X pins σ H s'→Q (.bool (!o.isSome)) s') :
  wpAny (model X.prog X.w) A (compareOp .NotIn u (.ref a)) Q E s:=by
 rcases g with⟨kvs,k,e,ey,l⟩|⟨kvs,k,b,e,ey,eb,l⟩
 ·subst ey
  obtain⟨z,hd,vs,rel,dd⟩:=Zf1 I.hok e
  refine wpAny_notIn_of (Zf0 ry) hd dd.mapOf ?_
  rw[← (rel.val k).isSome_eq,← l]
  exact h _ (I.tok _)
 ·subst ey
  cases (show u=Value.ref b from ry)
  obtain⟨z,hd,xs,rel,dd⟩:=Zf2 I.hok e
  refine wpAny_notIn_heap (tupleKind_room_in1 hu) (Zdy I.hok eb) hd dd ?_
  have q:=(rel.val k).isSome_eq
  rw[Option.isSome_map] at q
  rw[← q,← l]
  exact h _ (I.tok _)
theorem Zbb{h':Heap}{t':Nat}{ob:HO}(I:Inv X pins σ H s)(mu:Mut (H a))(hs:Heap.SameBut a s.heap h')(he:∃ q,h'.get? a=some q)(new:ObjOk X.prog X.w (upd H a ob) h' a ob) :
  Inv X pins σ (upd H a ob) { s with heap:=h',toks:=t' } :=
 I.write (x:=a) (e:=a) mu (.inl rfl) (fun b q hb z=>(hs.2 b hb).trans z) he new
theorem Zko{P:Program}{w:World}{H':Hp}{h':Heap}{kvs:List (Key×V)}{vs:List (Key×Value)}(z:kvs.length≤sizeLine)(hd:(a == sysModules)=false)(rel:KV kvs vs)(dd:h'.DictOf (mixKind P w) a vs) :
  ObjOk P w H' h' a (.dK kvs):=⟨z,hd,vs,rel,dd⟩
theorem ZdQ{H':Hp}{Q:Unit→Shared→Prop}(hu:A.units+1<cLine)(I:Inv X pins σ H s)(g:DPut H a y v H')(ry:RelV y u)(rv:RelV v r)(h:∀ s',Inv X pins σ H' s'→Q () s') :
  wpAny (model X.prog X.w) A (setItem (.ref a) u r) Q E s:=by
 rcases g with⟨kvs,k,e,ey,l,eH⟩|⟨kvs,k,b,e,ey,eb,l,eH⟩
 ·subst ey eH
  obtain⟨z,hd,vs,rel,dd⟩:=Zmq I.hok e
  have hz:vs.length≤sizeLine:=by rw[← rel.length];exact z
  have hl:(putK kvs k v).length≤sizeLine:=by have:=Za8 kvs k v;omega
  refine wpAny_setItem_pairs (hsz:=hz) (Zf0 ry) dd fun h' dd' hs=>h _ ?_
  have he:∃ q,h'.get? a=some q:=let ⟨q,_,_,hq,_⟩:=dd';⟨q,hq⟩
  exact Zbb I (by rw[e];exact True.intro) hs he (Zko hl hd (rel.put k rv) dd')
 ·subst ey eH
  cases (show u=Value.ref b from ry)
  obtain⟨z,hd,xs,rel,dd⟩:=ZkY I.hok e
  have hz:xs.length≤sizeLine:=by rw[← Paired.length rel];exact z
  have hl:(putK kvs k v).length≤sizeLine:=by have:=Za8 kvs k v;omega
  refine wpAny_setItem_heap (hsz:=hz) (tupleKind_room_in1 hu) (Zdy I.hok eb) dd fun h' dd' hs=>h _ ?_
  obtain⟨q,es,ep,hq,h2,h3,h4,_,h5⟩:=dd'
  refine Zbb I (by rw[e];exact True.intro) hs ⟨q,hq⟩ ⟨hl,hd,_,(rel.put k eb rv).keeps fun c ys ec=>?_,q,es,ep,hq,h2,h3,h4,h5⟩
  rw[Zaf (Zej ec e (fun z=>nomatch z))]
  exact ec
end
section
variable{X:Cx}{pins:List (Addr×Obj)}{σ:St}{H:Hp}{s:Shared}{a:Addr}{kvs:List (Key×V)}{k:Key}{u:Value}{A:Around}{E:Value→Shared→Prop}
theorem Zn2{Q:Value→Shared→Prop}(I:Inv X pins σ H s)(e:Rd H a (.dK kvs))(h:∀ t s',Inv X pins σ H s'→Q (.int kvs.length t) s'):wpAny (model X.prog X.w) A (call (.builtin "len") [.ref a]) Q E s:=by
 obtain⟨z,hd,vs,rel,dd⟩:=Zf1 I.hok e
 refine call_len_dict hd dd (by rw[← rel.length];rw[sizeLine_eq] at z;omega) ?_
 rw[← rel.length]
 exact h _ _ (I.tok _)
end
theorem Zf3{X:Cx}{pins:List (Addr×Obj)}{σ:St}{H:Hp}{s:Shared}{a:Addr}{y:V}{o:Option V}(I:Inv X pins σ H s)(g:DGet H a y o):s.TypeIs (.ref a) "dict" := by
 rcases g with⟨kvs,k,e,_,_⟩|⟨kvs,k,b,e,_,_,_⟩
 ·obtain⟨_,_,vs,_,dd⟩:=Zf1 I.hok e
  exact dd.typeIs
 ·obtain⟨_,_,xs,_,dd⟩:=Zf2 I.hok e
  exact dd.typeIs
section
variable{X:Cx}{o i e value:Expr}{pos pos' tpos:Pos}{td ty tv:TE}
end
theorem Zgx{P:Program}{w:World}{H:Hp}(h:Heap)(hb:sysModules<h.objs.size):ObjOk P w H (h.push { cls:=.type "dict",data:=.dict #[] }) h.objs.size (.dK []) :=
 ⟨Nat.zero_le _,beq_eq_false_iff_ne.mpr (Ne.symm (Nat.ne_of_lt hb)),[],.nil,Heap.DictOf.new h⟩
noncomputable def tDNewK:TE:=fun _ H Q=>∀ p,H p=none→Q (.ref p) (upd H p (.dK []))
section
variable{X:Cx}{pos:Pos}
theorem ZdH:PE X (.Dict [] [] pos) tDNewK:=fun pins s σ H Q I h =>
 wpAny_Dict_empty ⟨.ref s.heap.objs.size,_,I.laid (a:=s.heap.objs.size) (o:=.dK []) (t':=s.toks) (fun _ _ q=>Heap.get?_push_of_some _ q) (Nat.le_refl _) (Zgx s.heap I.big),rfl,h _ (I.hok.fresh (Nat.le_refl _))⟩
end
section
variable{X:Cx}{pins:List (Addr×Obj)}{σ:St}{H:Hp}{s:Shared}{a:Addr}{y d:V}{u r:Value}{o:Option V}{A:Around}{E:Value→Shared→Prop}
end
section
variable{X:Cx}{o e f:Expr}{apos cpos:Pos}{td ty tx:TE}
end
section
variable{X:Cx}{pins:List (Addr×Obj)}{σ:St}{H:Hp}{s:Shared}{a:Addr}{kvs:List (Key×V)}{A:Around}{E:Value→Shared→Prop}
end
section
variable{X:Cx}{pins:List (Addr×Obj)}{σ:St}{H:Hp}{s:Shared}{a:Addr}{y:V}{u:Value}{A:Around}{E:Value→Shared→Prop}
end
end L2
section
namespace L2
open PySem PySem.Spec PyProof.Rows
theorem Zbv:∀ (names:List (Str×NameKind)) (n:Nat) (acc:List (Str×Addr)),
  (∀ x y c,acc.lookup x=some c→acc.lookup y=some c→x=y)→(∀ x c,acc.lookup x=some c→c<n) →
  ∀ x y c,(cellsFrom n names acc).lookup x=some c→(cellsFrom n names acc).lookup y=some c→x=y
 | [],_,_,h,_=>h
 | (z,k)::r,n,acc,h,hb=>by
  unfold cellsFrom
  split
  ·refine Zbv r (n+1) ((z,n)::acc) ?_ ?_
   ·intro x y c hx hy
    rw[List.lookup_cons] at hx hy
    cases ex:x == z with
    | true =>
     rw[ex] at hx
     have e1:n=c:=Option.some.inj hx
     cases ey:y == z with
     | true=>rw[beq_iff_eq.mp ex,beq_iff_eq.mp ey]
     | false =>
      rw[ey] at hy
      have:=hb y c hy
      rw[← e1] at this
      exact absurd this (Nat.lt_irrefl _)
    | false =>
     rw[ex] at hx
     cases ey:y == z with
     | true =>
      rw[ey] at hy
      have e1:n=c:=Option.some.inj hy
      have:=hb x c hx
      rw[← e1] at this
      exact absurd this (Nat.lt_irrefl _)
     | false =>
      rw[ey] at hy
      exact h x y c hx hy
   ·intro x c hx
    rw[List.lookup_cons] at hx
    cases ex:x == z with
    | true =>
     rw[ex] at hx
     have e1:n=c:=Option.some.inj hx
     rw[← e1]
     exact Nat.lt_succ_self n
    | false =>
     rw[ex] at hx
     exact Nat.lt_succ_of_lt (hb x c hx)
  ·exact Zbv r n acc h hb
theorem Zbw(x:Str)(lo:Nat):∀ (names:List (Str×NameKind)) (n:Nat) (acc:List (Str×Addr)),lo≤n →
  ((x,NameKind.cell)∈names∨∀ c,acc.lookup x=some c→lo≤c)→∀ c,(cellsFrom n names acc).lookup x=some c→lo≤c
 | [],_,_,_,h=>h.elim (fun z=>nomatch z) id
 | (z,k)::r,n,acc,hl,h=>by
  unfold cellsFrom
  split
  ·refine Zbw x lo r (n+1) ((z,n)::acc) (by omega) ?_
   by_cases ex:x=z
   ·refine .inr fun c hc=>?_
    rw[List.lookup_cons,ex,beq_self_eq_true] at hc
    have:n=c:=Option.some.inj hc
    omega
   ·rcases h with h|h
    ·rcases List.mem_cons.mp h with e|h
     ·exact absurd (Prod.mk.inj e).1 ex
     ·exact .inl h
    ·refine .inr fun c hc=>h c ?_
     rw[List.lookup_cons,beq_false_of_ne ex] at hc
     exact hc
  ·rename_i hk
   refine Zbw x lo r n acc hl ?_
   rcases h with h|h
   ·rcases List.mem_cons.mp h with e|h
    ·rw[← (Prod.mk.inj e).2] at hk
     exact absurd rfl hk
    ·exact .inl h
   ·exact .inr h
theorem Zbx{x:Str}:∀ (names:List (Str×NameKind)) (n:Nat) (acc:List (Str×Addr)),(∀ y∈names,y.1=x→y.2≠.cell)→(cellsFrom n names acc).lookup x=acc.lookup x
 | [],_,_,_=>rfl
 | (z,k)::r,n,acc,h=>by
  unfold cellsFrom
  split
  ·rename_i hk
   rw[Zbx r (n+1) ((z,n)::acc) fun y hy=>h y (List.mem_cons_of_mem _ hy),List.lookup_cons]
   have:x≠z:=fun e=>h (z,k) List.mem_cons_self e.symm (by simpa using hk)
   rw[beq_false_of_ne this]
  ·exact Zbx r n acc fun y hy=>h y (List.mem_cons_of_mem _ hy)
theorem ZbO(x:Str):∀ (names:List (Str×NameKind)) (n:Nat) (acc:List (Str×Addr)) (c:Addr),(cellsFrom n names acc).lookup x=some c→n≤c∨acc.lookup x=some c
 | [],_,_,_,h=>.inr h
 | (z,k)::r,n,acc,c,h=>by
  unfold cellsFrom at h
  split at h
  ·rcases ZbO x r (n+1) ((z,n)::acc) c h with q|q
   ·exact .inl (by omega)
   ·rw[List.lookup_cons] at q
    cases ex:x == z with
    | true=>rw[ex] at q;have:n=c:=Option.some.inj q;exact .inl (by omega)
    | false=>rw[ex] at q;exact .inr q
  ·exact ZbO x r n acc c h
theorem Za6:∀ (names:List (Str×NameKind)) (h:Heap) (acc:List (Str×Addr)),(∀ x c,acc.lookup x=some c→∃ v,h.IsCell c v) →
  ∀ x c,(cellsFrom h.objs.size names acc).lookup x=some c→∃ v,(pushCells h names).IsCell c v
 | [],_,_,h=>h
 | (z,k)::r,h,acc,ha=>by
  unfold cellsFrom pushCells
  split
  ·have:=Za6 r (h.push { cls:=.type "cell",data:=.cell none }) ((z,h.objs.size)::acc) (fun x c hx=>by
    rw[List.lookup_cons] at hx
    cases ex:x == z with
    | true =>
     rw[ex] at hx
     cases hx
     exact⟨none,_,Heap.get?_push_size _ rfl,rfl⟩
    | false =>
     rw[ex] at hx
     obtain⟨v,q⟩:=ha x c hx
     exact⟨v,q.keeps fun b o e=>Heap.get?_push_of_some _ e⟩)
   rwa [Heap.size_push] at this
  ·exact Za6 r h acc ha
theorem newEnvC{M:Model}{A:Around}{E:Value→Shared→Prop}{s:Shared}{scope:Scope}{globals:Addr}{cl:List (Str×Addr)}{qual:Str}{env:Env}{Q:Env→Shared→Prop}
  (hQ:Q (newEnv scope s.heap.objs.size globals (cellsFrom (s.heap.objs.size+1) scope.names cl) qual none .none (some env) builtinsNs)
   { s with heap:=pushCells (s.heap.push { cls:=.type "dict",data:=.dict #[] }) scope.names }) :
  wpAny M A (newFunctionEnv scope globals cl [] qual none .none (some env)) Q E s:=by
 simp only[newFunctionEnv,Option.isSome_some,if_true]
 refine wpAny_bind (wpAny_alloc ?_)
 refine wpAny_bind (wpAny_layCells _ (fun name kind cells=>by cases hkc:kind == NameKind.cell<;>simp[hkc]) _ _ _ _ ?_)
 rw[show ({ s with heap:=s.heap.push { cls:=.type "dict",data:=.dict #[] } }:Shared).heap.objs.size=s.heap.objs.size+1 from Heap.size_push ..]
 rw[List.forIn_nil]
 exact wpAny_bind (wpAny_pure (wpAny_pure hQ))
theorem Zdo{env:Env}:∀ (l:List (Str×NameKind)) (acc:List (Str×Addr)),(∀ y∈l,y.2=.free→∃ c,env.cells.lookup y.1=some c) →
  (∀ x c,acc.lookup x=some c→env.cells.lookup x=some c) →
  ∃ cl,(forIn l acc fun (x:Str×NameKind) r=>if (x.2 == .free)=true then (do let a ← cellOf env x.1;pure (ForInStep.yield ((x.1,a)::r))) else pure (ForInStep.yield r):Sem (List (Str×Addr)))=pure cl ∧
   (∀ x c,cl.lookup x=some c→env.cells.lookup x=some c)∧(∀ x,((∃ c,acc.lookup x=some c)∨(x,NameKind.free)∈l)→∃ c,cl.lookup x=some c)
 | [],acc,_,ha=>⟨acc,by rw[List.forIn_nil],ha,fun x hx=>hx.elim id fun z=>nomatch z⟩
 | (z,k)::r,acc,hl,ha=>by
  by_cases hk:k=.free
  ·subst hk
   obtain⟨c,hc⟩:=hl (z,.free) List.mem_cons_self rfl
   obtain⟨cl,h1,h2,h3⟩:=Zdo r ((z,c)::acc) (fun y hy=>hl y (List.mem_cons_of_mem _ hy)) (fun x c' hx=>by
    rw[List.lookup_cons] at hx
    cases ex:x == z with
    | true=>rw[ex] at hx;cases hx;rw[beq_iff_eq.mp ex];exact hc
    | false=>rw[ex] at hx;exact ha x c' hx)
   refine⟨cl,?_,h2,fun x hx=>h3 x ?_⟩
   ·rw[List.forIn_cons]
    have e:cellOf env z=pure c:=by unfold cellOf;rw[show env.cells.lookup z=some c from hc]
    simp only[beq_self_eq_true,if_true,e]
    exact h1
   ·rcases hx with⟨c',hx⟩|hx
    ·refine .inl ?_
     rw[List.lookup_cons]
     cases ex:x == z with
     | true=>exact⟨c,rfl⟩
     | false=>exact⟨c',hx⟩
    ·rcases List.mem_cons.mp hx with e|hx
     ·refine .inl ⟨c,?_⟩
      rw[(Prod.mk.inj e).1,List.lookup_cons,beq_self_eq_true]
     ·exact .inr hx
  ·obtain⟨cl,h1,h2,h3⟩:=Zdo r acc (fun y hy=>hl y (List.mem_cons_of_mem _ hy)) ha
   refine⟨cl,?_,h2,fun x hx=>h3 x ?_⟩
   ·rw[List.forIn_cons]
    have e:(k == NameKind.free)=false:=by simpa using hk
    simp only[e,Bool.false_eq_true,if_false]
    exact h1
   ·rcases hx with hx|hx
    ·exact .inl hx
    ·rcases List.mem_cons.mp hx with e|hx
     ·exact absurd (Prod.mk.inj e).2.symm hk
     ·exact .inr hx
theorem Zes{scope:Scope}{env:Env}(h:∀ y∈scope.names,y.2=.free→∃ c,env.cells.lookup y.1=some c) :
  ∃ cl,closureFor scope env=pure cl∧(∀ x c,cl.lookup x=some c→env.cells.lookup x=some c)∧(∀ x,(x,NameKind.free)∈scope.names→∃ c,cl.lookup x=some c):=by
 obtain⟨cl,h1,h2,h3⟩:=Zdo scope.names [] h (fun x c e=>by simp at e)
 refine⟨cl,?_,h2,fun x hx=>h3 x (.inr hx)⟩
 unfold closureFor
 simp only[bind_pure]
 exact h1
noncomputable def relabelS(scope sc:Scope):Scope :=
 { scope with names:=scope.names.map fun (n,k)=>if (k == .free && sc.kind == .function && sc.names.lookup n == some .cell) then (n,.cell) else (n,k) }
theorem Zet(scope:Scope)(env:Env):relabel scope env=relabelS scope env.scope:=rfl
theorem ZcE{α β:Type}(g:Str→α→β)(x:Str):∀ l:List (Str×α),(l.map fun (n,k)=>(n,g n k)).lookup x=(l.lookup x).map (g x)
 | []=>rfl
 | (n,k)::r=>by
  rw[List.map_cons,List.lookup_cons,List.lookup_cons]
  cases e:x == n with
  | true=>rw[beq_iff_eq.mp e];rfl
  | false=>exact ZcE g x r
theorem Zce(scope sc:Scope)(x:Str):(relabelS scope sc).names.lookup x=(scope.names.lookup x).map fun k=>if (k == .free && sc.kind == .function && sc.names.lookup x == some .cell) then NameKind.cell else k:=by
 have e:(relabelS scope sc).names=scope.names.map fun (n,k)=>(n,if (k == .free && sc.kind == .function && sc.names.lookup n == some .cell) then NameKind.cell else k):=by
  unfold relabelS
  refine List.map_congr_left fun y _=>?_
  obtain⟨n,k⟩:=y
  show (if _ then _ else _)=(n,if _ then _ else _)
  split<;>rfl
 rw[e]
 exact ZcE (fun n k=>if (k == .free && sc.kind == .function && sc.names.lookup n == some .cell) then NameKind.cell else k) x scope.names
noncomputable def capOk(N0:List Str)(sc0 scope:Scope):List Str→List (Option Nat)→Bool
 | [],[]=>true
 | x::N,none::c=>capOk N0 sc0 scope N c
 | x::N,some j::c=>(N0[j]? == some x) && (sc0.names.lookup x == some .cell || sc0.names.lookup x == some .free) && (scope.names.lookup x == some .free) && (scope.names.all fun y=>y.1 != x || y.2 != .cell) && capOk N0 sc0 scope N c
 | _,_=>false
noncomputable def compOk(N0:List Str)(sc0 scope:Scope)(N:List Str)(cap:List (Option Nat)):Bool :=
 (scope.kind == .function) && (scope.names.all fun y=>y.2 != .local || scope.names.lookup y.1 == some .local) && (scope.names.all fun y=>y.2 != .free || (sc0.names.lookup y.1 == some .cell || sc0.names.lookup y.1 == some .free)) &&
 (scope.names.all fun y=>y.2 != .cell || scope.names.lookup y.1 == some .cell) && capOk N0 sc0 scope N cap
noncomputable def capS(cap:List (Option Nat))(σ:St):St:=cap.map fun o=>match o with
 | none=>none
 | some j=>(σ[j]?).join
theorem Zcf{N0:List Str}{sc0 scope:Scope}:∀ {N:List Str} {cap:List (Option Nat)},capOk N0 sc0 scope N cap=true→cap.length=N.length
 | [],[],_=>rfl
 | x::N,none::c,h=>by
  have:=Zcf (N:=N) (cap:=c) h
  simp[this]
 | x::N,some j::c,h=>by
  simp only[capOk,Bool.and_eq_true] at h
  have:=Zcf (N:=N) (cap:=c) h.2
  simp[this]
 | [],_::_,h=>by simp[capOk] at h
 | _::_,[],h=>by simp[capOk] at h
theorem ZdI{N0:List Str}{sc0 scope:Scope}:∀ {N:List Str} {cap:List (Option Nat)} {i j:Nat} {x:Str},capOk N0 sc0 scope N cap=true→N[i]?=some x→cap[i]?=some (some j) →
  N0[j]?=some x∧(sc0.names.lookup x=some .cell∨sc0.names.lookup x=some .free)∧scope.names.lookup x=some .free∧∀ y∈scope.names,y.1=x→y.2≠.cell
 | [],[],i,j,x,_,h,_=>by simp at h
 | y::N,none::c,0,j,x,_,_,h=>by simp at h
 | y::N,none::c,i+1,j,x,h,h1,h2=>ZdI (N:=N) (cap:=c) (i:=i) h (by simpa using h1) (by simpa using h2)
 | y::N,some j'::c,0,j,x,h,h1,h2=>by
  simp at h1 h2
  subst h1 h2
  simp only[capOk,Bool.and_eq_true,Bool.or_eq_true,beq_iff_eq,List.all_eq_true,bne_iff_ne] at h
  exact⟨h.1.1.1.1,h.1.1.1.2,h.1.1.2,fun z hz e=>(h.1.2 z hz).elim (fun q=>absurd e q) id⟩
 | y::N,some j'::c,i+1,j,x,h,h1,h2=>by
  simp only[capOk,Bool.and_eq_true] at h
  exact ZdI (N:=N) (cap:=c) (i:=i) h.2 (by simpa using h1) (by simpa using h2)
 | [],_::_,_,_,_,h,_,_=>by simp[capOk] at h
 | _::_,[],_,_,_,h,_,_=>by simp[capOk] at h
noncomputable def cxC(X:Cx)(scope:Scope)(cl:List (Str×Addr))(N:List Str)(s:Shared)(H:Hp)(fp:List Addr):Cx where
 prog:=X.prog
 w:=X.w
 K:=X.K
 mg:=X.mg
 base:=X.base
 A:=X.A
 N:=N
 s₀:=s
 H₀:=H
 env:=compEnvC scope (cellsFrom (s.heap.objs.size+1+1) scope.names cl) (s.heap.objs.size+1) X.env
 outer:=X.stack
 stack:=X.stack
 ex:=fp
 fn:=fun x=>scope.names.lookup x == some .cell
 calm:=X.calm
 pn:=[]
 xe:=fun _ _=>False
theorem Zk0{X:Cx}{pins:List (Addr×Obj)}{σ:St}{H:Hp}{s:Shared}{scope sc0:Scope}{cl:List (Str×Addr)}{N N0:List Str}{cap:List (Option Nat)}{fp:List Addr}
  (I:Inv X pins σ H s) (hf:∀ b∈fp,FpOk X pins H b) (ho:∀ b∈fp,∃ o,s.heap.get? b=some o∧∀ v,o.data≠.cell v)
  (hs0:X.env.scope=sc0) (hN:X.N=N0) (ok:compOk N0 sc0 scope N cap=true)
  (hcl:∀ x c,cl.lookup x=some c→X.env.cells.lookup x=some c) (hfr:∀ x,(x,NameKind.free)∈scope.names→∃ c,cl.lookup x=some c) :
  Inv (cxC X scope cl N s H fp) [] (capS cap σ) (upd H s.heap.objs.size (.lst [])) { s with heap:=pushCells ((s.heap.push { cls:=.type "list",data:=.seq ([]:List Value).toArray }).push { cls:=.type "dict",data:=.dict #[] }) scope.names }:=by
 simp only[compOk,Bool.and_eq_true,beq_iff_eq] at ok
 obtain⟨⟨⟨⟨hk,hloc⟩,hfree⟩,hcell⟩,hcap⟩:=ok
 have e1:(s.heap.push { cls:=.type "list",data:=.seq ([]:List Value).toArray }).objs.size=s.heap.objs.size+1:=Heap.size_push ..
 have e2:((s.heap.push { cls:=.type "list",data:=.seq ([]:List Value).toArray }).push { cls:=.type "dict",data:=.dict #[] }).objs.size=s.heap.objs.size+1+1:=by rw[Heap.size_push,e1]
 have k1:∀ b o,s.heap.get? b=some o→(pushCells ((s.heap.push { cls:=.type "list",data:=.seq ([]:List Value).toArray }).push { cls:=.type "dict",data:=.dict #[] }) scope.names).get? b=some o :=
  fun b o e=>pushCells_keeps _ _ b o (Heap.get?_push_of_some _ (Heap.get?_push_of_some _ e))
 have kD:(pushCells ((s.heap.push { cls:=.type "list",data:=.seq ([]:List Value).toArray }).push { cls:=.type "dict",data:=.dict #[] }) scope.names).get? s.heap.objs.size=some { cls:=.type "list",data:=.seq ([]:List Value).toArray } :=
  pushCells_keeps _ _ _ _ (Heap.get?_push_of_some _ (Heap.get?_push_size _ rfl))
 have kC:(pushCells ((s.heap.push { cls:=.type "list",data:=.seq ([]:List Value).toArray }).push { cls:=.type "dict",data:=.dict #[] }) scope.names).Ns (s.heap.objs.size+1) fun _=>none:=by
  have q:=(Heap.Ns.new (s.heap.push { cls:=.type "list",data:=.seq ([]:List Value).toArray }) (.type "dict")).keeps (pushCells_keeps scope.names _)
  rw[e1] at q
  exact q
 have hD:H s.heap.objs.size=none:=I.hok.fresh (Nat.le_refl _)
 have clLt:∀ x c,cl.lookup x=some c→c<s.heap.objs.size:=fun x c e=>by
  obtain⟨v,q⟩:=I.cell x c (hcl x c e)
  exact q.lt
 have cells:∀ x c,(cellsFrom (s.heap.objs.size+1+1) scope.names cl).lookup x=some c→s.heap.objs.size+1+1≤c∨cl.lookup x=some c:=fun x c e=>ZbO x _ _ _ c e
 have fpLt:∀ b∈fp,b<s.heap.objs.size:=fun b hb=>by
  obtain⟨o,e,_⟩:=ho b hb
  exact Heap.lt_size e
 refine⟨⟨I.ok.mod,hk,I.ok.glob,I.ok.blt,Nat.le_succ _,?_,?_,?_,I.ok.hd,I.ok.frames,.inl rfl,?_,I.bs,Nat.le_trans I.ok.bsz I.sz,?_,?_,I.stack,I.stkFree⟩,
  rfl,I.bare,?_,?_,?_,?_,?_,fun p hp=>absurd (show p∈([]:List (Addr×Obj)) from hp) (by simp),?_,?_⟩
 ·-- inj
  refine Zbv scope.names _ cl (fun x y c h1 h2=>I.ok.inj x y c (hcl x c h1) (hcl y c h2)) fun x c h=>?_
  exact Nat.lt_succ_of_lt (Nat.lt_succ_of_lt (clLt x c h))
 ·-- has
  intro x hx
  have hx:(relabel scope X.env).names.lookup x=some .cell∨(relabel scope X.env).names.lookup x=some .free:=hx
  rw[Zet,Zce] at hx
  have:scope.names.lookup x=some .cell∨scope.names.lookup x=some .free:=by
   cases e:scope.names.lookup x with
   | none=>rw[e] at hx;simp at hx
   | some k =>
    rw[e] at hx
    cases k<;>simp at hx<;>simp
  refine Option.isSome_iff_exists.mp (PySem.W.cellsFrom_some scope.names _ cl ?_)
  rcases this with h|h
  ·exact .inl h
  ·exact .inr (Option.isSome_iff_exists.mpr (hfr x (PySem.mem_of_lookup h)))
 ·-- cab
  intro x c hx hc
  have hx:scope.names.lookup x=some .cell:=by simpa [cxC] using hx
  have:=Zbw x (s.heap.objs.size+1+1) scope.names (s.heap.objs.size+1+1) cl (Nat.le_refl _) (.inl (PySem.mem_of_lookup hx)) c hc
  exact Nat.le_trans (Nat.le_succ _) (Nat.le_trans (Nat.le_succ _) this)
 ·-- exf
  intro b hb
  have hlt:=fpLt b hb
  refine⟨Nat.ne_of_lt (Nat.lt_succ_of_lt hlt),fun x c e=>?_⟩
  rcases cells x c e with q|q
  ·exact Nat.ne_of_gt (Nat.lt_of_lt_of_le (Nat.lt_succ_of_lt (Nat.lt_succ_of_lt hlt)) q)
  ·exact (hf b hb).2.2.2.2.1 x c (hcl x c q)
 ·-- noex
  intro b o e hb
  rcases (hf b hb).2.2.2.1 with q|q
  ·exact I.ok.noex b o e q
  ·exact absurd (Nat.lt_of_lt_of_le (Heap.lt_size (I.ok.bs b o e).1) q) (Nat.lt_irrefl _)
 ·-- exfs
  intro b hb z
  rcases List.mem_cons.mp (I.stkSub b z) with q|q
  ·exact (hf b hb).2.1 q
  ·exact (hf b hb).2.2.1 q
 ·-- base
  exact Un.laid k1 (Nat.le_refl _) hD
 ·-- loc
  refine⟨_,kC,fun i x v h1 h2 h3=>?_⟩
  have h2:(capS cap σ)[i]?=some (some v):=h2
  unfold capS at h2
  rw[List.getElem?_map] at h2
  cases e:cap[i]? with
  | none=>rw[e] at h2;cases h2
  | some o =>
   rw[e] at h2
   cases o with
   | none=>cases h2
   | some j =>
    have h2:some ((σ[j]?).join)=some (some v):=h2
    have h2:(σ[j]?).join=some v:=Option.some.inj h2
    obtain⟨q1,q2,q3,q4⟩:=ZdI hcap h1 e
    have q5:σ[j]?=some (some v):=by
     cases es:σ[j]? with
     | none=>rw[es] at h2;cases h2
     | some w'=>rw[es] at h2;cases w' with
      | none=>cases h2
      | some w''=>have:some w''=some v:=h2;rw[this]
    obtain⟨m,hn,hl⟩:=I.loc
    have hk0:X.env.kindOf x=some .cell∨X.env.kindOf x=some .free:=by
     show X.env.scope.names.lookup x=_∨X.env.scope.names.lookup x=_
     rw[hs0];exact q2
    obtain⟨u,r,l⟩:=hl j x v (by rw[hN];exact q1) q5 (hk0.elim (fun z=>.inr (.inl z)) fun z=>.inr (.inr z))
    refine⟨u,r,?_⟩
    rcases l with⟨z,_⟩|⟨_,c,e1,z⟩
    ·rcases hk0 with y|y<;>(rw[y] at z;cases z)
    ·obtain⟨c',hc'⟩:=hfr x (PySem.mem_of_lookup q3)
     have ec:c'=c:=by
      have:=hcl x c' hc'
      rw[e1] at this
      exact (Option.some.inj this).symm
     subst ec
     refine .inr ⟨?_,c',?_,z.keeps k1⟩
     ·show (relabel scope X.env).names.lookup x=_∨(relabel scope X.env).names.lookup x=_
      rw[Zet,Zce,q3]
      by_cases hz:(NameKind.free == NameKind.free && X.env.scope.kind == ScopeKind.function && X.env.scope.names.lookup x == some NameKind.cell)=true
      ·left;show some (if _ then _ else _)=_;rw[if_pos hz]
      ·right;show some (if _ then _ else _)=_;rw[if_neg hz]
     ·show (cellsFrom (s.heap.objs.size+1+1) scope.names cl).lookup x=some c'
      rw[Zbx _ _ _ q4]
      exact hc'
 ·-- cell
  intro x c e
  have e:(cellsFrom (s.heap.objs.size+1+1) scope.names cl).lookup x=some c:=e
  rw[← e2] at e
  exact Za6 scope.names _ cl (fun y d hy=>by
   obtain⟨v,q⟩:=I.cell y d (hcl y d hy)
   exact⟨v,q.keeps fun b o z=>Heap.get?_push_of_some _ (Heap.get?_push_of_some _ z)⟩) x c e
 ·-- free
  show upd H s.heap.objs.size (.lst []) (s.heap.objs.size+1)=none
  rw[Zaf (Nat.ne_of_gt (Nat.lt_succ_self _))]
  exact I.hok.fresh (Nat.le_succ _)
 ·-- freeC
  intro x c e
  rcases cells x c e with q|q
  ·have q2:s.heap.objs.size<c:=Nat.lt_of_lt_of_le (Nat.lt_succ_of_lt (Nat.lt_succ_self _)) q
   rw[Zaf (Nat.ne_of_gt q2)]
   exact I.hok.fresh (Nat.le_of_lt q2)
  ·have:=clLt x c q
   rw[Zaf (Nat.ne_of_lt this)]
   exact I.freeC x c (hcl x c q)
 ·-- hok
  refine I.hok.laid k1 (Nat.le_refl _) ⟨Nat.zero_le _,[],0,.nil,kD⟩
 ·show (capS cap σ).length=N.length
  unfold capS
  rw[List.length_map,Zcf hcap]
end L2
end
section
namespace L2
open PySem PySem.Spec PyProof.Rows
noncomputable def PIfs(X:Cx)(ifs:List Expr)(t:TT):Prop:=∀ (pins:List (Addr×Obj)) (s:Shared) (σ:St) (H:Hp) (Q:Bool→Hp→Prop),Inv X pins σ H s→t σ H Q →
 wpAny (model X.prog X.w) X.A (forIn ifs true fun c r=>if r=true then do let ok ← isTrue c X.env (eval c X.env);pure (ForInStep.yield ok) else pure (ForInStep.yield r)) (TP X pins σ Q) X.xe s
noncomputable def tAll:TT:=fun _ H Q=>Q true H
theorem ZaM{X:Cx}:PIfs X [] tAll:=fun _ _ _ H _ I h=>wpAny_tests_nil ⟨H,I,h⟩
noncomputable def CompW(J:It)(g:TG)(tt:TT)(te:TE)(D:Addr)(σ:St)(H:Hp)(Qe:Hp→Prop):Prop :=
 ∃ W:Nat→Nat→St→Hp→Prop,(∃ m,W 0 m σ H)∧∀ i m σ H,W i m σ H →
  (J.stop i H∧Qe H)∨(J.go i H∧∃ N:St→Hp→Prop,(∀ σ' H',N σ' H'→∃ m',m' < m∧W (i+1) m' σ' H') ∧
   ∀ x H',J.yld i H x H'→g x σ H' fun σ2 H2=>tt σ2 H2 fun b H3=>if b=true then te σ2 H3 fun y H4=>∃ xs,H4 D=some (.lst xs)∧xs.length<sizeLine∧N σ2 (upd H4 D (.lst (xs++[y]))) else N σ2 H3)
theorem Zhj{X:Cx}{tg iter elt:Expr}{ifs:List Expr}{scope:Scope}{pos:Pos}{it D:Addr}{fp:List Addr}{tn:Nat→Heap→Prop}{J:It}{g:TG}{tt:TT}{te:TE}{R:Result→Shared→Prop}{s:Shared}{σ:St}{H:Hp}{Qe:Hp→Prop}
  (hc:X.calm=true) (hxe:∀ e s,X.xe e s→False) (hg:PG X tg g) (ht:PIfs X ifs tt) (he:PE X elt te) (T:Turn X.prog X.w X.K tg J fp it tn)
  (fpk:∀ H',(∀ b∈fp,H' b=none)→∀ b∈fp,FpOk X [] H' b) (I:Inv X [] σ H s) (st:tn 0 s.heap) (fr:∀ b∈fp,H b=none)
  (h:CompW J g tt te D σ H Qe) (hR:∀ σ' H' s',Inv X [] σ' H' s'→Qe H'→R (.ok .next) s') :
  codeAny (model X.prog X.w) X.A (.compLoop (.ListComp elt [⟨tg,iter,ifs,0⟩] scope pos) 0 (.ref it) (.ref D) X.env) R s:=by
 obtain⟨W,⟨m0,w0⟩,turn⟩:=h
 refine codeAny_loop rfl (fun n s'=>∃ i σ' H',Inv X [] σ' H' s'∧tn i s'.heap∧(∀ b∈fp,H' b=none)∧W i n σ' H') (fun n s3 hI=>?_) m0 ⟨0,σ,H,I,st,fr,w0⟩
 obtain⟨i,σ3,H3,I3,st3,fr3,w3⟩:=hI
 show wpAny _ X.A ((compTurn (.ListComp elt [⟨tg,iter,ifs,0⟩] scope pos) 0 (.ref it) (.ref D) X.env).onRaise (fun x=>do noteFrame x X.env;theTreesLotGoes x)) _ _ s3
 refine wpAny_noted ?_
 rw[compTurn_list]
 refine wpAny_bind (wpAny_standAt (wpAny_bind ?_))
 rcases turn i n σ3 H3 w3 with⟨stop,qn⟩|⟨go,N,hN,step⟩
 ·refine wpAny_mono (T.done X rfl rfl rfl hc i [] s3 σ3 H3 (fun _ _=>False) I3 (fpk H3 fr3) st3 stop) (fun r s4 hr=>?_) (fun _ _ f=>f.elim)
  obtain⟨hr,I4⟩:=hr
  subst hr
  exact wpAny_pure (hR σ3 H3 s4 I4 qn)
 ·refine wpAny_mono (T.item X rfl rfl rfl hc i [] s3 σ3 H3 (fun _ _=>False) I3 (fpk H3 fr3) st3 go) (fun r s4 hr=>?_) (fun _ _ f=>f.elim)
  obtain⟨u,hr,h4⟩:=hr
  subst hr
  refine wpAny_bind (wpAny_mono h4 (fun _ s5 h5=>?_) fun _ _ f=>f.elim)
  obtain⟨x,H5,I5,r5,y5,st5,fr5⟩:=h5
  have I5':=I5.pinned (fpk H5 fr5) (T.obj _ _ st5)
  refine wpAny_bind (wpAny_mono (hg _ s5 σ3 H5 x u _ I5' r5 (step x H5 y5)) (fun _ s6 h6=>?_) fun e s f=>(hxe e s f).elim)
  obtain⟨σ6,H6,I6,q6⟩:=h6
  refine wpAny_bind (wpAny_mono (ht _ s6 σ6 H6 _ I6 q6) (fun ok s7 h7=>?_) fun e s f=>(hxe e s f).elim)
  obtain⟨H7,I7,q7⟩:=h7
  have again:∀ {s7:Shared} {σ7:St} {H7:Hp},Inv X ([]++pinsAt fp s5.heap) σ7 H7 s7→N σ7 H7→∃ m,m<n∧∃ i σ' H',Inv X [] σ' H' s7∧tn i s7.heap∧(∀ b∈fp,H' b=none)∧W i m σ' H':=fun {s7 σ7 H7} I7 n7=>by
   obtain⟨m',hm,w7⟩:=hN σ7 H7 n7
   refine⟨m',hm,i+1,σ7,H7,I7.unpinned,T.keep _ _ _ st5 fun b hb o e=>(I7.pin (b,o) (List.mem_append_right _ (List.mem_append_right _ (Zcs hb e)))).1,fun b hb=>?_,w7⟩
   obtain⟨o,e,d⟩:=T.obj _ _ st5 b hb
   exact (I7.pin (b,o) (List.mem_append_right _ (List.mem_append_right _ (Zcs hb e)))).2.1
  cases ok with
  | false=>exact wpAny_pure ⟨rfl,again I7 q7⟩
  | true =>
   refine wpAny_bind (wpAny_bind (wpAny_mono (he _ s7 σ6 H7 _ I7 q7) (fun y s8 h8=>wpAny_bind ?_) fun e s f=>(hxe e s f).elim))
   obtain⟨v8,H8,I8,r8,xs,hD,hz,n8⟩:=h8
   refine wpAny_mono (ZaP (X:=X) _ s8 σ6 H8 (.ref D) [v8] (.ref D) [y] (fun _ H9=>N σ6 H9) I8 rfl (.cons r8 .nil) ⟨D,xs,v8,rfl,rfl,hD,hz,n8⟩) (fun _ s9 h9=>?_) fun e s f=>(hxe e s f).elim
   obtain⟨_,H9,I9,_,n9⟩:=h9
   exact wpAny_pure (wpAny_pure ⟨rfl,again I9 n9⟩)
theorem Zjw{X:Cx}{pins pins':List (Addr×Obj)}{σ σ':St}{H H':Hp}{s s':Shared}{scope:Scope}{cl:List (Str×Addr)}{N:List Str}{fp:List Addr}(I:Inv X pins σ H s)(hf:∀ b∈fp,FpOk X pins H b)
  (J:Inv (cxC X scope cl N s H fp) pins' σ' H' s'):Inv X pins σ H' s' :=
 I.call' (ch:=fp) J.os J.base J.hok J.bare fun b hb=>⟨(hf b hb).2.2.2.1,(hf b hb).2.1,(hf b hb).2.2.2.2.1,(hf b hb).2.2.2.2.2⟩
noncomputable def tComp(cap:List (Option Nat))(wi:TI)(g:TG)(tt:TT)(te:TE):TE:=fun σ H Q=>wi σ H fun J H1=>∀ D,H1 D=none→CompW J g tt te D (capS cap σ) (upd H1 D (.lst [])) fun H2=>Q (.ref D) H2
theorem Zfq{X:Cx}{sc0 scope:Scope}{N0 N:List Str}{cap:List (Option Nat)}{tg iter elt:Expr}{ifs:List Expr}{pos pos':Pos}{wi:TI}{g:TG}{tt:TT}{te:TE}{use:Option (Value→Sem Unit)}{Qv:Value→Shared→Prop}
  {pins:List (Addr×Obj)} {s:Shared} {σ:St} {H:Hp} {Q:VK}
  (hc:X.calm=true) (hs0:X.env.scope=sc0) (hN:X.N=N0) (ok:compOk N0 sc0 scope N cap=true) (hi:PI X tg iter wi)
  (hg:∀ cl s H fp,PG (cxC X scope cl N s H fp) tg g) (ht:∀ cl s H fp,PIfs (cxC X scope cl N s H fp) ifs tt) (he:∀ cl s H fp,PE (cxC X scope cl N s H fp) elt te) (hfs:∀ x,foldedSetIterable iter X.env x=pure x)
  (I:Inv X pins σ H s) (h:tComp cap wi g tt te σ H Q)
  (hend:∀ (D C:Addr) (m:Str→Option Value) (H':Hp) (s':Shared),Inv X pins σ H' s'→s'.heap.Ns C m→H' C=none→C≠X.env.locals→X.s₀.heap.objs.size≤C→(∀ x c,X.env.cells.lookup x=some c→c≠C)→(∀ p∈X.pn++pins,p.1≠C)→Q (.ref D) H' →
   compPost (model X.prog X.w) X.A X.xe use Qv (.ref D) C (.ok .next) s') :
  wpAny (model X.prog X.w) X.A (comprehension (.ListComp elt [⟨tg,iter,ifs,0⟩] scope pos) scope X.env pos' (newList []) false (eval iter X.env) use) Qv X.xe s:=by
 have ok':=ok
 simp only[compOk,Bool.and_eq_true,beq_iff_eq,List.all_eq_true,Bool.or_eq_true,bne_iff_ne] at ok'
 obtain⟨⟨⟨⟨hk,hloc⟩,hfree⟩,hcell⟩,hcap⟩:=ok'
 obtain⟨cl,hcl1,hcl2,hcl3⟩:=Zes (scope:=scope) (env:=X.env) (fun y hy e=>I.ok.has y.1 (by
  show X.env.scope.names.lookup y.1=_∨X.env.scope.names.lookup y.1=_
  rw[hs0]
  rcases hfree y hy with z|z
  ·exact absurd e z
  ·exact z))
 refine wpAny_comprehension_free rfl hfs hcl1 hk (fun y hy e=>by
  rcases hloc y hy with z|z
  ·exact absurd e z
  ·exact z) (wpAny_mono (hi pins s σ H _ I h) (fun v s1 h1=>wpAny_mono h1 (fun itv s2 h2=>?_) fun _ _ e=>e) fun _ _ e=>e)
 obtain⟨it,fp,tn,J,H2,e,I2,T,st2,f2,q2⟩:=h2
 subst e
 refine wpAny_newObj_type (newEnvC ?_)
 have I3:=Zk0 I2 f2 (T.obj _ _ st2) hs0 hN ok hcl2 hcl3
 have eC:(s2.heap.push { cls:=.type "list",data:=.seq ([]:List Value).toArray }).objs.size=s2.heap.objs.size+1:=Heap.size_push ..
 show codeAny _ _ (.compStart (.ListComp elt [⟨tg,iter,ifs,0⟩] scope pos) 0 (.ref it) (.ref s2.heap.objs.size)
  (compEnvC scope (cellsFrom ((s2.heap.push { cls:=.type "list",data:=.seq ([]:List Value).toArray }).objs.size+1) scope.names cl) ((s2.heap.push { cls:=.type "list",data:=.seq ([]:List Value).toArray }).objs.size) X.env))
  (compPost _ _ _ use Qv (.ref s2.heap.objs.size) ((s2.heap.push { cls:=.type "list",data:=.seq ([]:List Value).toArray }).objs.size)) _
 rw[eC]
 have fpk:∀ H',(∀ b∈fp,H' b=none)→∀ b∈fp,FpOk (cxC X scope cl N s2 H2 fp) [] H' b:=fun H' hn b hb =>
  ⟨hn b hb,(I3.ok.exf b hb).1,I3.ok.exfs b hb,.inl hb,(I3.ok.exf b hb).2,fun p hp=>absurd (show p∈([]:List (Addr×Obj)) from hp) (by simp)⟩
 have fpLt:∀ b∈fp,b<s2.heap.objs.size:=fun b hb=>by
  obtain⟨o,e,_⟩:=T.obj _ _ st2 b hb
  exact Heap.lt_size e
 have k1:∀ b o,s2.heap.get? b=some o→(pushCells ((s2.heap.push { cls:=.type "list",data:=.seq ([]:List Value).toArray }).push { cls:=.type "dict",data:=.dict #[] }) scope.names).get? b=some o :=
  fun b o e=>pushCells_keeps _ _ b o (Heap.get?_push_of_some _ (Heap.get?_push_of_some _ e))
 have st3:=T.keep 0 s2.heap (pushCells ((s2.heap.push { cls:=.type "list",data:=.seq ([]:List Value).toArray }).push { cls:=.type "dict",data:=.dict #[] }) scope.names) st2 fun b _ o e=>k1 b o e
 have loop:=Zhj (X:=cxC X scope cl N s2 H2 fp) (iter:=iter) (scope:=scope) (pos:=pos) (it:=it) (D:=s2.heap.objs.size) (R:=compPost (model X.prog X.w) X.A X.xe use Qv (.ref s2.heap.objs.size) (s2.heap.objs.size+1)) hc (fun _ _ f=>f) (hg cl s2 H2 fp) (ht cl s2 H2 fp) (he cl s2 H2 fp) T fpk I3 st3
  (fun b hb=>by rw[Zaf (Nat.ne_of_lt (fpLt b hb))];exact (f2 b hb).1) (q2 _ (I2.hok.fresh (Nat.le_refl _))) (fun σ' H' s' J' q=>by
   obtain⟨m,hm,_⟩:=id J'.loc
   refine hend _ _ m H' s' (Zjw I2 f2 J') hm J'.free ?_ ?_ ?_ ?_ q
   ·exact Nat.ne_of_gt (Nat.lt_succ_of_lt I2.lt)
   ·exact Nat.le_succ_of_le I2.sz
   ·intro x c e
    obtain⟨v,q⟩:=I2.cell x c e
    exact Nat.ne_of_lt (Nat.lt_succ_of_lt q.lt)
   ·intro p hp
    exact Nat.ne_of_lt (Nat.lt_succ_of_lt (Heap.lt_size (I2.pin p hp).1)))
 exact codeAny_compStart_list loop (T.self X.A 0 _ _ _ st3 loop)
theorem Zbc{X:Cx}{sc0 scope:Scope}{N0 N:List Str}{cap:List (Option Nat)}{tg iter elt:Expr}{ifs:List Expr}{pos:Pos}{wi:TI}{g:TG}{tt:TT}{te:TE}
  (hc:X.calm=true) (hs0:X.env.scope=sc0) (hN:X.N=N0) (ok:compOk N0 sc0 scope N cap=true) (hi:PI X tg iter wi)
  (hg:∀ cl s H fp,PG (cxC X scope cl N s H fp) tg g) (ht:∀ cl s H fp,PIfs (cxC X scope cl N s H fp) ifs tt) (he:∀ cl s H fp,PE (cxC X scope cl N s H fp) elt te) (hfs:∀ x,foldedSetIterable iter X.env x=pure x:=by intro _;rfl) :
  PE X (.ListComp elt [⟨tg,iter,ifs,0⟩] scope pos) (tComp cap wi g tt te):=by
 intro pins s σ H Q I h
 rw[eval_ListComp]
 refine Zfq hc hs0 hN ok hi hg ht he hfs I h fun D C m H' s' J hm hC1 hC2 hC3 hC4 hC5 q=>⟨m,hm,fun h' hs=>?_⟩
 exact⟨.ref D,H',J.turned (t':=s'.toks) (fun b o hb e=>(hs.2 b hb).trans e) hC1 hC2 (.inr hC3) hC4 hC5,rfl,q⟩
theorem ZhR{X:Cx}{sc0 scope:Scope}{N0 N:List Str}{cap:List (Option Nat)}{tg iter elt:Expr}{ifs:List Expr}{pos spos pos':Pos}{wi:TI}{g:TG}{tt:TT}{te:TE}{i:Nat}{x:Str}
  (hNd:X.N.Nodup) (hix:X.N[i]?=some x) (hx:X.env.scope.names.lookup x=some .local)
  (hc:X.calm=true) (hs0:X.env.scope=sc0) (hN:X.N=N0) (ok:compOk N0 sc0 scope N cap=true) (hi:PI X tg iter wi)
  (hg:∀ cl s H fp,PG (cxC X scope cl N s H fp) tg g) (ht:∀ cl s H fp,PIfs (cxC X scope cl N s H fp) ifs tt) (he:∀ cl s H fp,PE (cxC X scope cl N s H fp) elt te) (hfs:∀ x,foldedSetIterable iter X.env x=pure x:=by intro _;rfl)
  (hsw:swapsWith (.ListComp elt [⟨tg,iter,ifs,0⟩] scope pos) (some (.Name x pos')) spos.line X.env=pure true:=by rfl) :
  PS X (.Assign [.Name x pos'] (.ListComp elt [⟨tg,iter,ifs,0⟩] scope pos) spos) (tAsg (tComp cap wi g tt te) (gName i)):=by
 intro pins s σ H D I h
 rw[exec_Assign_Name_used _ _ _ _ hsw]
 refine wpAny_bind (wpAny_standAt (wpAny_bind ?_))
 show wpAny _ X.A (do let _ ← comprehension (.ListComp elt [⟨tg,iter,ifs,0⟩] scope pos) scope X.env _ (newList []) false (eval iter X.env) (some (assign (.Name x pos') X.env))) _ _ s
 refine wpAny_bind (wpAny_mono (Zfq (use:=some (assign (.Name x pos') X.env)) (Qv:=fun _ s'=>SP X pins D .next s') hc hs0 hN ok hi hg ht he hfs I h fun A C m H' s' J hm hC1 hC2 hC3 hC4 hC5 q=>?_) (fun _ s' hq=>wpAny_pure (wpAny_pure hq)) fun _ _ e=>e)
 show wpAny _ X.A (assign (.Name x pos') X.env (.ref A)) _ _ s'
 refine wpAny_assign_Name (Zcd (v:=.ref A) J hNd hix (.inl hx) rfl (fun s2 J2 hs2=>?_) (.inr hx))
 obtain⟨a,hs2,ha⟩:=hs2
 have hCa:C≠a:=by
  rcases ha with z|z
  ·rw[z];exact hC2
  ·exact fun e=>hC4 _ _ z e.symm
 refine⟨m,hm.sameBut hs2 hCa,fun h' hs=>?_⟩
 exact⟨_,H',J2.turned (t':=s2.toks) (fun b o hb e=>(hs.2 b hb).trans e) hC1 hC2 (.inr hC3) hC4 hC5,q⟩
end L2
end
section
namespace L2
open PySem PySem.Spec PyProof.Rows
structure FunD(K:W.Frag)(x qual:Str)(st:Stmt)(dV:Value)(f:Addr)(fd:FuncData):Prop where
 ex:∃ (oc:Value) (od:Option Addr) (kV doc pm:Value) (an:Option Addr) (cdv ct:Value) (osl:Array (Option Value)),
  fd=PySem.W.fnOf x qual (defArgs st) (defBody st) (defScope st) dV kV doc pm an cdv ct∧K.lookup f=some ⟨oc,od,.func fd,osl⟩∧PySem.W.codeIn K cdv qual=true
 kp:PySem.W.keepIn K (.ref f)=true
section
variable{P:Program}{w:World}{K:W.Frag}{mg:Str→Option Value}{base:Heap}{CX:CXT}
theorem FunD.ok{x qual:Str}{st:Stmt}{dV:Value}{f:Addr}{fd:FuncData}{N ps:List Str}{k:Nat}{sp:Sp}(F:FunD K x qual st dV f fd)(S:FnScope N ps (defScope st))(len:∀ vs H Q E,sp vs H Q E→vs.length=ps.length)
  (hbody:∀ (cdv:Value) (A:Around) (outer:List Env) (s:Shared) (H:Hp) (vs:List V) (Q:VK) (E:XK),Room k (A.deeper (envOfC qual (defScope st) s.heap.objs.size f cdv))→sp vs H Q E →
   ∃ t,PSs (cxOf CX P w K mg base N qual (defScope st) f cdv A outer s H E).nox (defBody st) t∧t { nx:=fun _ H'=>Q .non H',rt:=Q } (start N vs) H):FnOk P w K mg base CX (k+1) f fd ps sp:=by
 obtain⟨oc,od,kV,doc,pm,an,cdv,ct,osl,rfl,lk,hcd⟩:=F.ex
 refine Zju lk hcd S len fun A outer s H vs Q E hr hsp=>?_
 obtain⟨t,h,q⟩:=hbody cdv A outer s H vs Q E hr hsp
 exact⟨t,h.nox,q⟩
end
structure Cal(P:Program)(w:World)(K:W.Frag)(mg:Str→Option Value)(base:Heap)(CX:CXT)(k:Nat)(x:Str)(ps:List Str)(dvs:List V)(sp:Sp):Prop where
 ex:∃ (f:Addr) (fd:FuncData) (ds:List Value),FnOk P w K mg base CX k f fd ps sp∧mg x=some (.ref f)∧PySem.W.keepIn K (.ref f)=true∧Binds K fd ps ds∧Vals dvs ds
structure Tx(K:W.Frag)(mg:Str→Option Value)(x:Str)(st:Stmt)(ps:List Str)(dvss:List (List V)):Prop where
 ex:∃ (dV:Value) (f:Addr) (fd:FuncData),FunD K x x st dV f fd∧mg x=some (.ref f)∧∀ dvs∈dvss,∃ ds,Binds K fd ps ds∧Vals dvs ds
theorem Cal.mono{P:Program}{w:World}{K:W.Frag}{mg:Str→Option Value}{base:Heap}{CX:CXT}{j k:Nat}{x:Str}{ps:List Str}{dvs:List V}{sp:Sp}(c:Cal P w K mg base CX j x ps dvs sp)(h:j≤k):Cal P w K mg base CX k x ps dvs sp :=
 let ⟨f,fd,ds,h1,h2⟩:=c.ex
 ⟨f,fd,ds,h1.mono h,h2⟩
theorem Tx.cal{P:Program}{w:World}{K:W.Frag}{mg:Str→Option Value}{base:Heap}{CX:CXT}{x:Str}{st:Stmt}{N ps:List Str}{dvss:List (List V)}{k:Nat}{sp:Sp}(T:Tx K mg x st ps dvss)(S:FnScope N ps (defScope st))
  (len:∀ vs H Q E,sp vs H Q E→vs.length=ps.length)
  (hbody:∀ (f:Addr) (cdv:Value) (A:Around) (outer:List Env) (s:Shared) (H:Hp) (vs:List V) (Q:VK) (E:XK),Room k (A.deeper (envOfC x (defScope st) s.heap.objs.size f cdv))→sp vs H Q E →
   ∃ t,PSs (cxOf CX P w K mg base N x (defScope st) f cdv A outer s H E).nox (defBody st) t∧t { nx:=fun _ H'=>Q .non H',rt:=Q } (start N vs) H) :
  ∀ dvs∈dvss,Cal P w K mg base CX (k+1) x ps dvs sp:=by
 obtain⟨dV,f,fd,F,m,b⟩:=T.ex
 intro dvs hd
 obtain⟨ds,b1,b2⟩:=b dvs hd
 exact⟨f,fd,ds,F.ok S len (fun cdv A outer s H vs Q E hr h=>hbody f cdv A outer s H vs Q E hr h),m,F.kp,b1,b2⟩
section
variable{X:Cx}{CX:CXT}{k:Nat}{ps:List Str}{sp:Sp}{dvs:List V}{E:XK}{x:Str}{p pos:Pos}{e:Expr}{es:List Expr}{t:TA}
theorem ZaC(c:Cal X.prog X.w X.K X.mg X.base CX k x ps dvs sp)(hr:Room k X.A)(hg:Gl X x)(hx:Passes CX X E)(ha:PA X (e::es) t)(hdb:(x == ("__debug__" : Str))=false:=by decide)
  (he:starEach (e::es) X.env=(false,eval e X.env)::starEach es X.env:=by rfl) (hpl:(backTo pos (starEach es X.env)).any (·.1)=false:=by rfl) :
  PE X (.Call (.Name x p) (e::es) [] pos) (tCall sp dvs E t):=by
 obtain⟨f,fd,ds,h1,h2,h3,h4,h5⟩:=c.ex
 exact ZkR h1 hr hg h2 h3 h4 h5 hx ha hdb he hpl
end
section
variable{X:Cx}
noncomputable def clsV:V→Option Value
 | .ty n=>some (.type n)
 | .ref a=>some (.ref a)
 | _=>none
theorem ZdJ{c:V}{cv u:Value}(h:clsV c=some cv)(r:RelV c u):u=cv:=by
 cases c<;>simp[clsV] at h
 ·subst h;exact r
 ·subst h;exact r
noncomputable def rIsi(K:W.Frag):List V→Hp→VK→Prop:=fun xs H Q=>∃ x c t cv b,xs=[x,c]∧clsV c=some cv∧TyOf K H x t∧PySem.W.kitOne K t cv=some b∧Q (.bl b) H
noncomputable def rLen(K:W.Frag):List V→Hp→VK→Prop:=fun xs H Q=>∃ p ys,xs=[.ref p]∧(SqL K H p ys∨SqT K H p ys)∧Q (.int ys.length) H
noncomputable def rLst(K:W.Frag):List V→Hp→VK→Prop:=fun xs H Q=>∃ p ys,xs=[.ref p]∧(SqL K H p ys∨SqT K H p ys)∧∀ l,H l=none→Q (.ref l) (upd H l (.lst ys))
noncomputable def rTpl(K:W.Frag):List V→Hp→VK→Prop:=fun xs H Q=>∃ p ys,xs=[.ref p]∧((SqL K H p ys∧∀ l,H l=none→Q (.ref l) (upd H l (.tup ys)))∨(SqT K H p ys∧Q (.ref p) H))
theorem ZhS:CallR X (.builtin "len") (rLen X.K):=Zfk
theorem Zhk:CallR X (.type "list") (rLst X.K):=Zfm
theorem ZhT:CallR X (.type "tuple") (rTpl X.K):=ZeK
theorem ZhU:CallR X (.builtin "isinstance") (rIsi X.K):=by
 intro pins s σ H xs us Q I r h
 obtain⟨x,c,t,cv,b,rfl,hc,ty,e,q⟩:=h
 obtain⟨u,w',rfl,r1,r2⟩:=vals2 r
 rw[ZdJ hc r2]
 exact ZhL I r1 ty e fun tk=>⟨.bl b,H,I.tok tk,rfl,q⟩
end
section
variable{X:Cx}
end
noncomputable def XObj(ea:Addr)(c:Value)(d:Option Addr):Heap→Prop:=fun h=>∃ o vs,h.get? ea=some o∧o.cls=c∧o.dict=d∧o.data=.fields vs
noncomputable def hX(ea:Addr)(c:Value)(d:Option Addr):HO:=.ext (XObj ea c d)
noncomputable def XDct(d:Addr)(fs:List (Str×V)):Heap→Prop:=fun h=>∃ mA,h.Ns1 d mA∧(∀ f,RelO (fs.lookup f) (mA f))∧PySem.Within mA (fs.map (·.1))
noncomputable def hXD(d:Addr)(fs:List (Str×V)):HO:=.ext (XDct d fs)
noncomputable def keyD:Key→PyData
 | .inl i=>.int i
 | .inr x=>.str x
noncomputable abbrev dJ:PyData:=.dict [(.none,.none)]
mutual
inductive Rep(K:W.Frag)(H:Hp):V→PyData→Prop
 | non:Rep K H .non .none
 | bl (b:Bool):Rep K H (.bl b) (.bool b)
 | int (i:Int):Rep K H (.int i) (.int i)
 | str (x:Str):Rep K H (.str x) (.str x)
 | lst {a:Addr} {xs:List V} {ds:List PyData}:SqL K H a xs→Reps K H xs ds→Rep K H (.ref a) (.list ds)
 | tup {a:Addr} {xs:List V} {ds:List PyData}:H a=some (.tup xs)→Reps K H xs ds→Rep K H (.ref a) (.tuple ds)
 | exc {ea C:Addr} {kvs:List (PyData×PyData)}:H ea=some (hX ea (.ref C) none)→kvs=[(.none,.int C)]→Rep K H (.ref ea) (.dict kvs)
 | excF {ea C a:Addr} {vs:List (Str×V)} {ds:List PyData} {kvs:List (PyData×PyData)}:H ea=some (hX ea (.ref C) (some a))→H a=some (hXD a vs)→Reps K H (vs.map Prod.snd) ds→kvs=(.none,.int C)::(vs.map fun p=>PyData.str p.1).zip ds→Rep K H (.ref ea) (.dict kvs)
 | dK {a:Addr} {ks:List (Key×V)} {ds:List PyData} {kvs:List (PyData×PyData)}:Rd H a (.dK ks)→Reps K H (ks.map Prod.snd) ds→kvs=(ks.map fun p=>keyD p.1).zip ds→Rep K H (.ref a) (.dict kvs)
 | dT {a:Addr} {ks:List (List Key×V)} {ds:List PyData} {kvs:List (PyData×PyData)}:Rd H a (.dT ks)→Reps K H (ks.map Prod.snd) ds→kvs=(ks.map fun p=>PyData.tuple (p.1.map keyD)).zip ds→Rep K H (.ref a) (.dict kvs)
 | dN {a:Addr} {ks:List ((Key×List Key)×V)} {ds:List PyData} {kvs:List (PyData×PyData)}:ks≠[]→Rd H a (.dN ks)→Reps K H (ks.map Prod.snd) ds→kvs=(ks.map fun p=>PyData.tuple [keyD p.1.1,.tuple (p.1.2.map keyD)]).zip ds→Rep K H (.ref a) (.dict kvs)
 | junk {v:V}:Rep K H v dJ
inductive Reps(K:W.Frag)(H:Hp):List V→List PyData→Prop
 | nil:Reps K H [] []
 | cons {x:V} {d:PyData} {xs:List V} {ds:List PyData}:Rep K H x d→Reps K H xs ds→Reps K H (x::xs) (d::ds)
end
theorem Zk1{ks:List (Key×V)}{ds:List PyData}{y:PyData}{r:List (PyData×PyData)}:(.none,y)::r≠(ks.map fun p=>keyD p.1).zip ds:=by
 cases ks with
 | nil=>simp
 | cons k ks=>cases ds with
  | nil=>simp
  | cons d ds =>
   intro z
   have:=congrArg Prod.fst (List.cons.inj z).1
   obtain⟨k|k,v⟩:=k<;>cases this
theorem Zk2{ks:List (List Key×V)}{ds:List PyData}{y:PyData}{r:List (PyData×PyData)}:(.none,y)::r≠(ks.map fun p=>PyData.tuple (p.1.map keyD)).zip ds:=by
 cases ks with
 | nil=>simp
 | cons k ks=>cases ds with
  | nil=>simp
  | cons d ds =>
   intro z
   have:=congrArg Prod.fst (List.cons.inj z).1
   cases this
theorem Zk3{ks:List ((Key×List Key)×V)}{ds:List PyData}{y:PyData}{r:List (PyData×PyData)}:(.none,y)::r≠(ks.map fun p=>PyData.tuple [keyD p.1.1,.tuple (p.1.2.map keyD)]).zip ds:=by
 cases ks with
 | nil=>simp
 | cons k ks=>cases ds with
  | nil=>simp
  | cons d ds =>
   intro z
   have:=congrArg Prod.fst (List.cons.inj z).1
   cases this
section
variable{X:Cx}{pins:List (Addr×Obj)}{σ:St}{H H':Hp}{s:Shared}{K:W.Frag}
theorem Rep.indF{K:W.Frag}{H:Hp}{M:V→PyData→Prop}{N:List V→List PyData→Prop}(h1:M .non .none)(h2:∀ b,M (.bl b) (.bool b))(h3:∀ i,M (.int i) (.int i))(h4:∀ x,M (.str x) (.str x))
  (h5:∀ {a xs ds},SqL K H a xs→N xs ds→M (.ref a) (.list ds)) (h6:∀ {a xs ds},H a=some (.tup xs)→N xs ds→M (.ref a) (.tuple ds)) (h7:∀ v l,M v (.dict l)) (n:N [] []) (c:∀ {x d xs ds},M x d→N xs ds→N (x::xs) (d::ds)):(∀ {v d},Rep K H v d→M v d)∧∀ {vs ds},Reps K H vs ds→N vs ds :=
 ⟨fun h=>Rep.rec (motive_1:=fun v d _=>M v d) (motive_2:=fun v d _=>N v d) h1 h2 h3 h4 (fun h _=>h5 h) (fun h _=>h6 h) (fun _ _=>h7 _ _) (fun _ _ _ _ _=>h7 _ _) (fun _ _ _ _=>h7 _ _) (fun _ _ _ _=>h7 _ _) (fun _ _ _ _ _=>h7 _ _) (h7 _ _) n (fun _ _=>c) h,
  fun h=>Reps.rec (motive_1:=fun v d _=>M v d) (motive_2:=fun v d _=>N v d) h1 h2 h3 h4 (fun h _=>h5 h) (fun h _=>h6 h) (fun _ _=>h7 _ _) (fun _ _ _ _ _=>h7 _ _) (fun _ _ _ _=>h7 _ _) (fun _ _ _ _=>h7 _ _) (fun _ _ _ _ _=>h7 _ _) (h7 _ _) n (fun _ _=>c) h⟩
theorem Rep.reads(I:Inv X pins σ H s){v:V}{d:PyData}{u:Value}(hn:d.canLay0=true)(h:Rep X.K H v d)(r:RelV v u):∃ as,Reads s.heap u d as:=by
 refine (Rep.indF (M:=fun v d=>∀ u,d.canLay0=true→RelV v u→∃ as,Reads s.heap u d as) (N:=fun vs ds=>∀ us,PyData.canLayAll0 ds=true→Vals vs us→∃ as,ReadsAll s.heap us ds as) ?_ ?_ ?_ ?_ ?_ ?_ ?_ ?_ ?_).1 h u hn r
 ·intro u _ r;cases (show u=Value.none from r);exact⟨_,Reads.none⟩
 ·intro b u _ r;cases (show u=Value.bool b from r);exact⟨_,Reads.bool b⟩
 ·intro i u _ r;obtain⟨t,q⟩:=(show ∃ t,u=Value.int i t from r);cases q;exact⟨_,Reads.int i t⟩
 ·intro x u _ r;obtain⟨t,q⟩:=(show ∃ t,u=Value.str x t from r);cases q;exact⟨_,Reads.str x t⟩
 ·intro a xs ds h ih u hn r
  cases (show u=Value.ref a from r)
  obtain⟨its,rv,p,_⟩:=I.list h
  obtain⟨as,q⟩:=ih _ (by simpa [PyData.canLay0] using hn) rv
  obtain⟨o,h1,h2,n,h3⟩:=p.isList
  exact⟨_,Reads.list h1 h2 h3 (by simpa using q)⟩
 ·intro a xs ds h ih u hn r
  cases (show u=Value.ref a from r)
  obtain⟨its,rv,p,_⟩:=I.tuple (SqT.of h)
  obtain⟨as,q⟩:=ih _ (by simpa [PyData.canLay0] using hn) rv
  obtain⟨o,h1,h2,n,h3⟩:=p
  exact⟨_,Reads.tuple h1 h2 h3 (by simpa using q)⟩
 ·intro v l u hn;simp[PyData.canLay0] at hn
 ·intro us _ q;cases q;exact⟨_,ReadsAll.nil⟩
 ·intro x d xs ds i1 i2 us hn q
  simp only[PyData.canLayAll0,Bool.and_eq_true] at hn
  cases q with
  | cons q qs =>
   obtain⟨as,h1⟩:=i1 _ hn.1 q
   obtain⟨bs,h2⟩:=i2 _ hn.2 qs
   exact⟨_,ReadsAll.cons h1 h2⟩
theorem Same.rd(e:Same H H'){a:Addr}{u:HO}(h:Rd H a u):Rd H' a u:=h.imp (fun h=>e _ _ h) fun⟨o,h⟩=>⟨o,e _ _ h⟩
theorem Same.tupS(e:Same H H'){a:Addr}{xs:List V}(h:SqT K H a xs):SqT K H' a xs:=by
 rcases h with (h|⟨o,h⟩)|h
 ·exact .inl (.inl (e _ _ h))
 ·exact .inl (.inr ⟨o,e _ _ h⟩)
 ·exact .inr h
noncomputable def Low(G G':Hp):Prop:=∀ b o,G b=some o→(∀ ob c,o≠.frz ob (.own c))→G' b=some o
theorem Low.rd(e:Low H H'){a:Addr}{u:HO}(n:∀ ob c,u≠.frz ob (.own c))(n2:∀ c,u≠.own c)(h:Rd H a u):Rd H' a u:=h.imp (fun h=>e _ _ h n) fun⟨o,h⟩=>⟨o,e _ _ h fun ob c z=>by cases z;exact n2 _ rfl⟩
theorem Low.seq(e:Low H H'){a:Addr}{xs:List V}(h:SqL K H a xs):SqL K H' a xs:=by
 rcases h with (h|⟨o,h⟩)|h
 ·exact .inl (.inl (e _ _ h fun _ _ z=>by cases z))
 ·exact .inl (.inr ⟨o,e _ _ h fun _ _ z=>by cases z⟩)
 ·exact .inr h
theorem Rep.low(e:Low H H'){v:V}{d:PyData}(h:Rep K H v d):Rep K H' v d :=
 Rep.rec (motive_1:=fun v d _=>Rep K H' v d) (motive_2:=fun v d _=>Reps K H' v d) .non .bl .int .str (fun h _ i=>.lst (e.seq h) i) (fun h _ i=>.tup (e _ _ h (by intro _ _ z;cases z)) i) (fun h z=>.exc (e _ _ h (by intro _ _ z;cases z)) z) (fun h k _ z i=>.excF (e _ _ h (by intro _ _ z;cases z)) (e _ _ k (by intro _ _ z;cases z)) i z)
  (fun h _ z i=>.dK (e.rd (by intro _ _ z;cases z) (by intro _ z;cases z) h) i z) (fun h _ z i=>.dT (e.rd (by intro _ _ z;cases z) (by intro _ z;cases z) h) i z) (fun n h _ z i=>.dN n (e.rd (by intro _ _ z;cases z) (by intro _ z;cases z) h) i z) .junk .nil (fun _ _=>.cons) h
theorem Reps.imp(f:∀ {v d},Rep K H v d→Rep K H' v d):∀ {vs:List V} {ds:List PyData},Reps K H vs ds→Reps K H' vs ds
 | _,_,.nil=>.nil
 | _,_,.cons r rs=>.cons (f r) (Reps.imp f rs)
theorem Reps.low(e:Low H H'){vs:List V}{ds:List PyData}(h:Reps K H vs ds):Reps K H' vs ds:=Reps.imp (fun r=>r.low e) h
theorem Rep.same(e:Same H H'){v:V}{d:PyData}(h:Rep K H v d):Rep K H' v d:=h.low fun b o z _=>e b o z
theorem Reps.same(e:Same H H'){vs:List V}{ds:List PyData}(h:Reps K H vs ds):Reps K H' vs ds:=Reps.imp (fun r=>r.same e) h
theorem Reps.length:∀ {vs:List V} {ds:List PyData},Reps K H vs ds→vs.length=ds.length
 | _,_,.nil=>rfl
 | _,_,.cons _ rs=>by rw[List.length_cons,List.length_cons,Reps.length rs]
theorem Reps.get:∀ {vs:List V} {ds:List PyData} {i:Nat} {d:PyData},Reps K H vs ds→ds[i]?=some d→∃ v,vs[i]?=some v∧Rep K H v d
 | _,_,i,d,.nil,e=>by simp at e
 | _,_,0,d,.cons r _,e=>by simp at e;subst e;exact⟨_,rfl,r⟩
 | _,_,i+1,d,.cons _ rs,e=>by
  obtain⟨v,h1,h2⟩:=Reps.get (i:=i) rs (by simpa using e)
  exact⟨v,by simpa using h1,h2⟩
theorem Reps.append:∀ {vs ws:List V} {ds es:List PyData},Reps K H vs ds→Reps K H ws es→Reps K H (vs++ws) (ds++es)
 | _,_,_,_,.nil,h=>h
 | _,_,_,_,.cons r rs,h=>.cons r (Reps.append rs h)
theorem Reps.ints(ns:List Int):Reps K H (ns.map V.int) (ns.map PyData.int):=by
 induction ns with
 | nil=>exact .nil
 | cons n ns ih=>exact .cons (.int n) ih
theorem Za0{p:Addr}{o:HO}(h:H p=none):Same H (upd H p o):=fun b u e=>by rw[Zaf (Zam e h)];exact e
noncomputable def dOk(d:PyData):Prop:=SeqAt.shaped d=true
noncomputable def rEqD(K:W.Frag):R2:=fun x y H Q=>∃ d e,Rep K H x d∧Rep K H y e∧dOk d∧dOk e∧Q (.bl (PyData.eqv d e)) H
noncomputable def rNeD(K:W.Frag):R2:=fun x y H Q=>∃ d e,Rep K H x d∧Rep K H y e∧dOk d∧dOk e∧Q (.bl (!PyData.eqv d e)) H
theorem Zmr(hu:X.A.units+64<cLine):OpR X (compareOp .Eq) (rEqD X.K):=by
 intro pins s σ H x y v u Q I rx ry h
 obtain⟨d,e,h1,h2,h3,h4,q⟩:=h
 obtain⟨as,k1⟩:=Rep.reads I (SeqAt.canLay_of_shaped h3) h1 rx
 obtain⟨bs,k2⟩:=Rep.reads I (SeqAt.canLay_of_shaped h4) h2 ry
 exact eq_dataH k1 k2 h3 h4 hu ⟨.bl _,H,I,rfl,q⟩
theorem Zms(hu:X.A.units+64<cLine):OpR X (compareOp .NotEq) (rNeD X.K):=by
 intro pins s σ H x y v u Q I rx ry h
 obtain⟨d,e,h1,h2,h3,h4,q⟩:=h
 obtain⟨as,k1⟩:=Rep.reads I (SeqAt.canLay_of_shaped h3) h1 rx
 obtain⟨bs,k2⟩:=Rep.reads I (SeqAt.canLay_of_shaped h4) h2 ry
 exact ne_dataH k1 k2 h3 h4 hu ⟨.bl _,H,I,rfl,q⟩
end
structure Enc{α:Type}(f:α→PyData)(n:Nat):Prop where
 eqv:∀ a b,PyData.eqv (f a) (f b)=true↔a=b
 lay:∀ a,(f a).canLay0=true
 dep:∀ a,(f a).depth≤n
theorem Enc.ok{α:Type}{f:α→PyData}{n:Nat}(E:Enc f n)(hn:n≤32)(a:α):dOk (f a):=by
 unfold dOk SeqAt.shaped
 rw[E.lay a,Bool.true_and]
 exact decide_eq_true (Nat.le_trans (E.dep a) (Nat.le_trans hn (by decide)))
theorem Enc.int:Enc PyData.int 0:=⟨fun a b=>by simp[PyData.eqv],fun _=>by simp[PyData.canLay0],fun _=>by simp[PyData.depth]⟩
theorem Zeu{α:Type}{f:α→PyData}(h:∀ a b,PyData.eqv (f a) (f b)=true↔a=b):∀ xs ys:List α,PyData.eqvAll (xs.map f) (ys.map f)=true↔xs=ys
 | [],[]=>by simp[PyData.eqvAll]
 | [],_::_=>by simp[PyData.eqvAll]
 | _::_,[]=>by simp[PyData.eqvAll]
 | x::xs,y::ys=>by simp[PyData.eqvAll,h x y,Zeu h xs ys]
theorem Zev{α:Type}{f:α→PyData}(h:∀ a,(f a).canLay0=true):∀ xs:List α,PyData.canLayAll0 (xs.map f)=true
 | []=>rfl
 | x::xs=>by simp[PyData.canLayAll0,h x,Zev h xs]
theorem Zew{α:Type}{f:α→PyData}{n:Nat}(h:∀ a,(f a).depth≤n):∀ xs:List α,PyData.depthAll (xs.map f)≤n
 | []=>Nat.zero_le _
 | x::xs=>by
  have h1:=h x
  have h2:=Zew h xs
  simp only[List.map_cons,PyData.depthAll]
  omega
theorem Enc.tuple{α:Type}{f:α→PyData}{n:Nat}(E:Enc f n):Enc (fun xs:List α=>PyData.tuple (xs.map f)) (n+1) :=
 ⟨fun a b=>by simp only[PyData.eqv];exact Zeu E.eqv a b,fun a=>by simp only[PyData.canLay0];exact Zev E.lay a,fun a=>by simp only[PyData.depth];have:=Zew E.dep a;omega⟩
theorem Enc.pair{α β:Type}{f:α→PyData}{g:β→PyData}{n:Nat}(E:Enc f n)(G:Enc g n):Enc (fun p:α×β=>PyData.tuple [f p.1,g p.2]) (n+1) :=
 ⟨fun a b=>by
  obtain⟨a1,a2⟩:=a
  obtain⟨b1,b2⟩:=b
  simp[PyData.eqv,PyData.eqvAll,E.eqv,G.eqv],fun a=>by simp[PyData.canLay0,PyData.canLayAll0,E.lay,G.lay],fun a=>by
  have h1:=E.dep a.1
  have h2:=G.dep a.2
  simp only[PyData.depth,PyData.depthAll]
  omega⟩
theorem Enc.dec{α:Type}{f:α→PyData}{n:Nat}[DecidableEq α](E:Enc f n)(a b:α):PyData.eqv (f a) (f b)=decide (a=b):=by
 by_cases h:a=b
 ·rw[decide_eq_true h];exact (E.eqv a b).mpr h
 ·rw[decide_eq_false h];exact Bool.eq_false_iff.mpr fun z=>h ((E.eqv a b).mp z)
end L2
end
section
namespace L2
open PySem PySem.Spec PyProof.Rows
theorem ZdR{X:Cx}{x:Str}{i:Int}{pos:Pos}(hm:∃ t,X.mg x=some (.int i t))(hg:Gl X x)(hd:(x == ("__debug__" : Str))=false:=by decide):PE X (.Name x pos) (tC (.int i)):=by
 obtain⟨t,h⟩:=hm
 exact ZdM hg h ⟨t,rfl⟩ hd
section
variable{σ:St}{H:Hp}{Q:VK}{v:V}{ta tb te:TE}{nx bk ct:St→Hp→Prop}{rt:VK}{t u:TS}{i j:Int}
theorem Zmt(h:Q (.bl (decide (i=j))) H):rEq (.int i) (.int j) H Q:=⟨rfl,by have e:decide (V.int i=V.int j)=decide (i=j):=by { by_cases z:i=j<;>simp[z] };rw[e];exact h⟩
theorem Zmu(h:Q (.bl (!decide (i=j))) H):rNe (.int i) (.int j) H Q:=⟨rfl,by have e:decide (V.int i=V.int j)=decide (i=j):=by { by_cases z:i=j<;>simp[z] };rw[e];exact h⟩
theorem ZhV{K:W.Frag}{a:Addr}{xs:List V}{P:Prop}(h:H a=some (.lst xs))(q:P):tyV K "list" (.ref a) H∧P:=⟨.inl ⟨rfl,xs,SqL.of h⟩,q⟩
end
end L2
end
section
namespace L2
open PySem PySem.Spec PyProof.Rows
section
variable{K:W.Frag}{h:Heap}{mg:Str→Option Value}
theorem ZbV{x:Str}{st:Stmt}{ps:List Str}{f:Addr}{oc kV doc pm cd ct:Value}{od an:Option Addr}{sl:Array (Option Value)}(X:K.In h)(G:h.Ns mainGlobals mg)
  (a:PySem.W.nsIn K mainGlobals x=some (some (.ref f))) (l:K.lookup f=some ⟨oc,od,.func (PySem.W.fnOf x x (defArgs st) (defBody st) (defScope st) .none kV doc pm an cd ct),sl⟩)
  (c:PySem.W.codeIn K cd x=true) (k:PySem.W.keepIn K (.ref f)=true)
  (hb:∀ (us:List Value),us.length=ps.length→bindArgs (PySem.W.fnOf x x (defArgs st) (defBody st) (defScope st) .none kV doc pm an cd ct) ⟨us,[]⟩=pure (ps.zip us)):Tx K mg x st ps [[]] :=
 ⟨.none,f,_,⟨⟨oc,od,kV,doc,pm,an,cd,ct,sl,rfl,l,c⟩,k⟩,PySem.W.mg_of X G a,fun dvs hd=>by
  have e:dvs=[]:=by simpa using hd
  subst e
  exact⟨[],.all hb,.nil⟩⟩
theorem Zmv{x:Str}{st:Stmt}{ps:List Str}{f Tt:Addr}{oc kV doc pm cd ct oc':Value}{od an od':Option Addr}{sl sl':Array (Option Value)}{i:Int}{tk:Tok}{n:Nat}(X:K.In h)(G:h.Ns mainGlobals mg)
  (a:PySem.W.nsIn K mainGlobals x=some (some (.ref f))) (l:K.lookup f=some ⟨oc,od,.func (PySem.W.fnOf x x (defArgs st) (defBody st) (defScope st) (.ref Tt) kV doc pm an cd ct),sl⟩)
  (d:K.lookup Tt=some ⟨oc',od',.seq #[.int i tk] n,sl'⟩) (c:PySem.W.codeIn K cd x=true) (k:PySem.W.keepIn K (.ref f)=true)
  (hb:∀ (s:Shared) (us:List Value),K.In s.heap→us.length=ps.length→BindsTo s (PySem.W.fnOf x x (defArgs st) (defBody st) (defScope st) (.ref Tt) kV doc pm an cd ct) ⟨us,[]⟩ (ps.zip us))
  (hb2:∀ (s:Shared) (us:List Value),K.In s.heap→us.length+1=ps.length→BindsTo s (PySem.W.fnOf x x (defArgs st) (defBody st) (defScope st) (.ref Tt) kV doc pm an cd ct) ⟨us,[]⟩ (ps.zip (us++[.int i tk]))):Tx K mg x st ps [[],[.int i]] :=
 ⟨.ref Tt,f,_,⟨⟨oc,od,kV,doc,pm,an,cd,ct,sl,rfl,l,c⟩,k⟩,PySem.W.mg_of X G a,fun dvs hd=>by
  rcases List.mem_cons.mp hd with e|hd
  ·subst e
   exact⟨[],fun s us KX hl=>by rw[List.append_nil] at hl ⊢;exact hb s us KX hl,.nil⟩
  ·have e:dvs=[.int i]:=by simpa using hd
   subst e
   exact⟨[.int i tk],fun s us KX hl=>hb2 s us KX (by simpa using hl),.cons ⟨tk,rfl⟩ .nil⟩⟩
theorem Zfr{x:Str}{i:Int}{t:Tok}(X:K.In h)(G:h.Ns mainGlobals mg)(a:PySem.W.nsIn K mainGlobals x=some (some (.int i t))):∃ t,mg x=some (.int i t):=⟨t,PySem.W.mg_of X G a⟩
end
end L2
end
section
namespace L2
open PySem PySem.Spec PyProof.Rows
theorem Zfs{K:W.Frag}:PySem.W.kitOne K (.type "int") (.type "bool")=some false :=
 (by decide +kernel:(if (Value.type "int" == Value.type "bool")=true then some true else if PySem.W.kitMeta "bool" = true then (fastBuiltinMro "int").map (·.contains (Value.type "bool")) else none)=some false)
theorem Zmw{α:Type}[DecidableEq α]{f:α→PyData}{n:Nat}{K:W.Frag}{H:Hp}{x y:V}{a b:α}{Q:VK}(E:Enc f n)(h1:Rep K H x (f a))(h2:Rep K H y (f b))(q:Q (.bl (decide (a=b))) H)(hn:n≤32:=by decide):rEqD K x y H Q :=
 ⟨_,_,h1,h2,E.ok hn a,E.ok hn b,by rw[E.dec];exact q⟩
theorem iteN{c A B:Prop}[Decidable c](hc:¬ c)(h:B):if decide c=true then A else B:=by
 rw[decide_eq_false hc]
 exact iteF h
theorem Rep.ints{K:W.Frag}{H:Hp}{a:Addr}{ns:List Int}(h:SqL K H a (ns.map V.int)):Rep K H (.ref a) (PyData.list (ns.map PyData.int)):=.lst h (Reps.ints ns)
end L2
end
section
namespace L2
open PySem PySem.Spec PyProof.Rows
section
variable{K:W.Frag}{H H':Hp}{v x:V}{Q:VK}{k i:Int}{d:PyData}{ds:List PyData}
theorem Rep.int_inv(h:Rep K H v (.int i)):v=.int i:=by cases h;rfl
theorem Rep.list_inv(h:Rep K H v (.list ds)):∃ a xs,v=.ref a∧SqL K H a xs∧Reps K H xs ds:=by
 cases h with
 | lst h r=>exact⟨_,_,rfl,h,r⟩
theorem Rep.tuple_inv(h:Rep K H v (.tuple ds)):∃ a xs,v=.ref a∧SqT K H a xs∧Reps K H xs ds:=by
 cases h with
 | tup h r=>exact⟨_,_,rfl,SqT.of h,r⟩
theorem Rep.tuple_at(h:Rep K H v (.tuple ds)):∃ a xs,v=.ref a∧H a=some (.tup xs)∧Reps K H xs ds:=by
 cases h with
 | tup h r=>exact⟨_,_,rfl,h,r⟩
theorem Zgy{α:Type}{xs:List α}{y:α}(h0:0≤k)(h:xs[k.toNat]?=some y):atI xs k=some y:=by
 obtain⟨j,rfl⟩:∃ j:Nat,k=j:=⟨k.toNat,by omega⟩
 exact ZkU (by simpa using h)
theorem Zjx(h:Rep K H x (.list ds))(q:Q (.int ds.length) H):rLen K [x] H Q:=by
 obtain⟨a,xs,rfl,h1,h2⟩:=h.list_inv
 exact⟨a,xs,rfl,.inl h1,by rw[h2.length];exact q⟩
theorem Zjy(h:Rep K H x (.tuple ds))(q:Q (.int ds.length) H):rLen K [x] H Q:=by
 obtain⟨a,xs,rfl,h1,h2⟩:=h.tuple_inv
 exact⟨a,xs,rfl,.inr h1,by rw[h2.length];exact q⟩
mutual
noncomputable def noLst:PyData→Bool
 | .none=>true
 | .bool _=>true
 | .int _=>true
 | .str _=>true
 | .list _=>false
 | .tuple ds=>noLsts ds
 | .dict _=>false
noncomputable def noLsts:List PyData→Bool
 | []=>true
 | d::ds=>noLst d && noLsts ds
end
theorem Zaq:∀ ns:List Int,noLsts (ns.map PyData.int)=true
 | []=>rfl
 | n::ns=>by simp[noLsts,noLst,Zaq ns]
theorem Zct{α:Type}{f:α→PyData}(h:∀ a,noLst (f a)=true):∀ xs:List α,noLsts (xs.map f)=true
 | []=>rfl
 | x::xs=>by simp[noLsts,h x,Zct h xs]
theorem Same.updF{D:Addr}{o:HO}(s:Same H H')(hD:H D=none):Same H (upd H' D o):=fun b u e=>by rw[Zaf (Zam e hD)];exact s b u e
noncomputable def dI(ns:List Int):PyData:=.list (ns.map .int)
noncomputable def tI(ns:List Int):PyData:=.tuple (ns.map .int)
noncomputable def dRows(rows:List (List Int)):PyData:=.list (rows.map dI)
end
end L2
end
section
namespace L2
open PySem PySem.Spec PyProof.Rows
noncomputable def lig(b:Int):Nat→Int→List Int
 | 0,_=>[]
 | f+1,n=>if 0<n then (n%b)::lig b f (n / b) else []
theorem Zgz{b n:Int}(hb:2≤b)(hb':b≤5)(hn:0<n):0≤n / b∧n / b<n∧2*(n / b)≤n:=by
 have:b=2∨b=3∨b=4∨b=5:=by omega
 rcases this with rfl|rfl|rfl|rfl<;>omega
theorem Zkp{b:Int}(hb:2≤b)(hb':b≤5):∀ (f g:Nat) (n:Int),n.toNat≤f→n.toNat≤g→lig b f n=lig b g n
 | 0,0,_,_,_=>rfl
 | 0,g+1,n,h,_=>by
  have:¬ 0<n:=by omega
  simp only[lig,if_neg this]
 | f+1,0,n,_,h=>by
  have:¬ 0<n:=by omega
  simp only[lig,if_neg this]
 | f+1,g+1,n,h1,h2=>by
  by_cases h:0<n
  ·simp only[lig,if_pos h]
   have:=Zgz hb hb' h
   rw[Zkp hb hb' f g (n / b) (by omega) (by omega)]
  ·simp only[lig,if_neg h]
noncomputable def dig(b n:Int):List Int:=lig b n.toNat n
theorem ZeL{b n:Int}(hb:2≤b)(hb':b≤5)(h:0<n):dig b n=n%b::dig b (n / b):=by
 unfold dig
 obtain⟨k,hk⟩:∃ k,n.toNat=k+1:=⟨n.toNat-1,by omega⟩
 have:=Zgz hb hb' h
 rw[hk,lig,if_pos h,Zkp hb hb' k (n / b).toNat (n / b) (by omega) (Nat.le_refl _)]
theorem ZcZ{b n:Int}(h:¬ 0<n):dig b n=[]:=by
 unfold dig
 have:n.toNat=0:=by omega
 rw[this,lig]
noncomputable def figs(b n:Int):List Int:=(dig b n).reverse
noncomputable def num(b:Int)(ds:List Int):Int:=ds.foldl (fun a d=>a*b+d) 0
theorem ZeM(b:Int)(ds:List Int)(d:Int):num b (ds++[d])=num b ds*b+d:=by
 unfold num
 rw[List.foldl_append]
 rfl
theorem ZhW{b:Int}(hb:2≤b)(hb':b≤5):∀ (f:Nat) (n:Int),0≤n→n.toNat≤f→num b (figs b n)=n
 | f,n,h0,hf=>by
  by_cases h:0<n
  ·match f,hf with
   | 0,hf=>omega
   | f+1,hf =>
    have:=Zgz hb hb' h
    unfold figs
    rw[ZeL hb hb' h,List.reverse_cons,ZeM]
    have ih:=ZhW hb hb' f (n / b) (by omega) (by omega)
    unfold figs at ih
    rw[ih]
    exact Int.mul_comm (n / b) b▸Int.mul_ediv_add_emod n b
  ·unfold figs
   rw[ZcZ h]
   show (0:Int)=n
   omega
theorem ZgA{b n:Int}(hb:2≤b)(hb':b≤5)(h0:0≤n):num b (figs b n)=n:=ZhW hb hb' _ n h0 (Nat.le_refl _)
noncomputable def Lig(b n:Int)(ds:List Int)(r:Int):Prop:=0≤r∧ds++dig b r=dig b n∧∃ k,r.toNat<2 ^ k∧ds.length+k=900
theorem Lig.start{b n:Int}(h0:0≤n)(h1:n.toNat<2 ^ 900):Lig b n [] n:=⟨h0,rfl,900,h1,rfl⟩
theorem Lig.step{b n r:Int}{ds:List Int}(hb:2≤b)(hb':b≤5)(L:Lig b n ds r)(h:0<r):Lig b n (ds++[r%b]) (r / b)∧ds.length<900∧(r / b).toNat<r.toNat:=by
 obtain⟨h0,h1,k,h2,h3⟩:=L
 have hd:=Zgz hb hb' h
 match k,h2,h3 with
 | 0,h2,_=>simp at h2;omega
 | k+1,h2,h3 =>
  rw[Nat.pow_succ] at h2
  refine⟨⟨hd.1,?_,k,by omega,by simp;omega⟩,by omega,by omega⟩
  rw[List.append_assoc,← h1,ZeL hb hb' h]
  rfl
theorem Lig.done{b n r:Int}{ds:List Int}(L:Lig b n ds r)(h:¬ 0<r):ds=dig b n∧ds.length≤900:=by
 obtain⟨h0,h1,k,h2,h3⟩:=L
 rw[ZcZ h,List.append_nil] at h1
 exact⟨h1,by omega⟩
end L2
end
section
namespace L2
open PySem PySem.Spec PyProof.Rows
section
variable{X:Cx}{K:W.Frag}
theorem Zhl(h:X.K=K):CallR X (.type "list") (rLst K):=h▸Zhk
theorem ZaG(h:X.K=K):CallR X (.type "tuple") (rTpl K):=h▸ZhT
theorem Zjz(h:X.K=K):OpR X (binaryOp .Add) (rCatT K):=h▸ZkT
theorem Zk4(h:X.K=K)(hu:X.A.units+64<cLine):OpR X (compareOp .Eq) (rEqD K):=h▸Zmr hu
theorem Zk5(h:X.K=K)(hu:X.A.units+64<cLine):OpR X (compareOp .NotEq) (rNeD K):=h▸Zms hu
theorem Zdp{es:List Expr}{k:Nat}{t:TGs}{n:Nat}{pos:Pos}(h:X.K=K)(hc:X.calm=true)(hg:PGs X es t)(hn:(assignEach es X.env).length=n:=by rfl)(hst:(assignEach es X.env).findIdx? (·.1)=none:=by rfl):PG X (.Tuple es k pos) (gTup K n t):=h▸Zmg hc hg hn hst
variable{o e:Expr}{es:List Expr}{to:TE}{t:TA}{name:Str}{apos cpos:Pos}{T id:String}{r:V→List V→Hp→VK→Prop}
theorem Zk6(h:X.K=K)(pa:PlainAttrs T)(slot:Slot T name id)(hty:typeOf (.builtin id)=pure (.type "method_descriptor"))(hm:MtR X id r)(ho:PE X o to)
  (hbase:attributeBase o name X.env (eval o X.env)=eval o X.env:=by rfl) (hline:(apos.endLine == cpos.line)=true:=by rfl):PE X (.Call (.Attribute o name apos) [] [] cpos) (tBM0 K T r to):=h▸Zmo pa slot hty hm ho hbase hline
theorem ZbW(h:X.K=K)(pa:PlainAttrs T)(slot:Slot T name id)(hty:typeOf (.builtin id)=pure (.type "method_descriptor"))(hm:MtR X id r)(ho:PE X o to)(ha:PA X (e::es) t)
  (hbase:attributeBase o name X.env (eval o X.env)=eval o X.env:=by rfl)
  (hfew:((backTo cpos (starEach (e::es) X.env)).all (fun x=>!x.1) && (backToKw cpos (keywordEach [] X.env)).all (fun x=>x.1.isSome)
   && decide ((e::es).length+([]:List Keyword).length+(if ([]:List Keyword).isEmpty then 0 else 1)<30))=true:=by rfl)
  (hline:(apos.endLine == cpos.line)=true:=by rfl) (hs:starEach (e::es) X.env=(false,eval e X.env)::starEach es X.env:=by rfl) (hplain:(backTo cpos (starEach es X.env)).any (·.1)=false:=by rfl) :
  PE X (.Call (.Attribute o name apos) (e::es) [] cpos) (tBM K T r to t):=h▸Zn1 pa slot hty hm ho ha hbase hfew hline hs hplain
end
end L2
end
section
namespace L2
open PySem PySem.Spec PyProof.Rows
noncomputable def Ite(K:W.Frag)(a:Addr):It :=
  ⟨fun i H=>∃ xs x,SqL K H a xs∧xs[i]?=some x,
   fun i H v H'=>∃ p x,H p=none∧v=.ref p∧H'=upd H p (.tup [.int i,x])∧∀ xs,SqL K H a xs→xs[i]?=some x,
   fun i H=>∃ xs,SqL K H a xs∧xs.length≤i⟩
theorem Inv.enumed{X:Cx}{pins:List (Addr×Obj)}{σ:St}{H:Hp}{s:Shared}{h':Heap}{t':Nat}{e it:Addr}{xs:List V}{us:List Value}(I:Inv X pins σ H s)
  (fe:FpOk X pins H e) (fi:FpOk X pins H it) (k:∀ b o,b≠e→b≠it→s.heap.get? b=some o→h'.get? b=some o)
  (ht:h'.get? s.heap.objs.size=some { cls:=.type "tuple",data:=.seq us.toArray }) (hv:Vals xs us) (hz:xs.length≤sizeLine) :
  Inv X pins σ (upd H s.heap.objs.size (.tup xs)) { s with heap:=h',toks:=t' }:=by
 have hp:H s.heap.objs.size=none:=I.hok.fresh (Nat.le_refl _)
 have ne:∀ b o,s.heap.get? b=some o→b≠s.heap.objs.size:=fun b o q=>Nat.ne_of_lt (Heap.lt_size q)
 have nt:∀ b u,H b=some u→b≠e∧b≠it:=fun b u q=>⟨(Zam q fe.1),(Zam q fi.1)⟩
 have np:∀ b u,H b=some u→b≠s.heap.objs.size:=fun b u q=>Zam q hp
 refine I.step (g':=s.gens) (d':=s.drawn) (ch:=[e,it]) (fun b hb=>?_) (fun b o _ _ hc q _=>k b o (fun z=>hc (by simp[z])) (fun z=>hc (by simp[z])) q)
  (fun b o _ _ hc q _=>⟨o.slots,k b o (fun z=>hc (by simp[z])) (fun z=>hc (by simp[z])) q⟩) (fun b o _ q n=>by rw[Zaf (ne b o q)];exact n)
  (fun b o hc q=>⟨o,k b o (fun z=>hc (by simp[z])) (fun z=>hc (by simp[z])) q⟩) (fun b ys q=>by rw[Zaf (np b _ q)];exact q) (fun b o u q=>by rw[Zaf (np b _ q)];exact q)
  (fun b ps q=>⟨#[],by rw[Zaf (np b _ q),q];simp⟩) (fun m hm=>?_) (fun b u q=>?_) I.bare
 ·have hb:b=e∨b=it:=by simpa using hb
  rcases hb with rfl|rfl
  ·exact⟨fe.2.2.2.1,fe.2.1,fe.2.2.2.2.1,fe.2.2.2.2.2⟩
  ·exact⟨fi.2.2.2.1,fi.2.1,fi.2.2.2.2.1,fi.2.2.2.2.2⟩
 ·obtain⟨o,es,ep,ho,r⟩:=hm
  exact⟨o,es,ep,k _ o (Ne.symm fe.2.1) (Ne.symm fi.2.1) ho,r⟩
 ·by_cases hb:b=s.heap.objs.size
  ·subst hb
   rw[Zak] at q
   cases q
   exact⟨hz,us,hv,⟨_,ht,rfl,_,rfl⟩⟩
  ·rw[Zaf hb] at q
   refine (I.hok b u q).stay (fun c v hc r=>?_) (fun c r=>by rw[Zaf (np c _ r)];exact r) fun c ys r=>by rw[Zaf (np c _ r)];exact r
   rcases hc with z|z
   ·rw[z] at r ⊢;exact k _ _ (nt b u q).1 (nt b u q).2 r
   ·exact k _ _ (nt c _ z).1 (nt c _ z).2 r
theorem ZhX{P:Program}{w:World}{K:W.Frag}{es:List Expr}{x1}{tp:Pos}(a e it:Addr)(hne:e≠it):Turn P w K (.Tuple es x1 tp) (Ite K a) [e,it] e (fun i h=>(∃ old,IsEnum h e it i old)∧h.IsListIter it a i) where
 mem:=by simp
 obj:=fun i h st b hb=>by
  obtain⟨⟨old,he⟩,o,hi,hc,hd⟩:=st
  have hb:b=e∨b=it:=by simpa using hb
  rcases hb with rfl|rfl
  ·exact⟨_,he,fun v z=>by cases (show Data.fields _=Data.cell v from z)⟩
  ·exact⟨o,hi,fun v z=>by rw[hd] at z;cases z⟩
 keep:=fun i h h' st k=>by
  obtain⟨⟨old,he⟩,hi⟩:=st
  exact⟨⟨old,k e (by simp) _ he⟩,hi.at fun o q=>k it (by simp) o q⟩
 item:=by
  intro X hP hw hK hc i pins s σ H E I hf st hg
  subst hP hw hK
  obtain⟨xs,x,hq,hx⟩:=hg
  obtain⟨⟨old,he⟩,hi⟩:=st
  obtain⟨its,rv,p,hz⟩:=I.list hq
  obtain⟨u,hu,ru⟩:=rv.get hx
  refine wpAny_pyNext_enum_item he hi p.isList (x:=u) (by simpa using hu) hne fun h' ho hi' ht hsz k=>?_
  refine⟨_,rfl,wpAny_letOwnedTupleGo_enum ho fun h2 he2 hs2=>?_⟩
  have fe:=hf e (by simp)
  have fi:=hf it (by simp)
  have I1:Inv X pins σ (upd H s.heap.objs.size (.tup [.int i,x])) { s with heap:=h',toks:=s.toks+1 }:=I.enumed fe fi k ht (.cons ⟨_,rfl⟩ (.cons ru .nil)) (by show 2≤sizeLine;decide)
  have he1:e≠s.heap.objs.size:=Nat.ne_of_lt (Heap.lt_size he)
  have hi1:it≠s.heap.objs.size:=by obtain⟨_,q,_⟩:=hi;exact Nat.ne_of_lt (Heap.lt_size q)
  have I2:=I1.turned (h':=h2) (t':=s.toks+1) (it:=e) (fun b o hb q=>(hs2.2 b hb).trans q) (by rw[Zaf he1];exact fe.1) fe.2.1 fe.2.2.2.1 fe.2.2.2.2.1 fe.2.2.2.2.2
  refine⟨.ref s.heap.objs.size,_,I2,rfl,⟨s.heap.objs.size,x,I.hok.fresh (Nat.le_refl _),rfl,rfl,fun ys hy=>by rw[I.list_inj hy hq];exact hx⟩,⟨⟨u,by simpa using he2⟩,hi'.at fun o q=>(hs2.2 it hne.symm).trans q⟩,fun b hb=>?_⟩
  have hb:b=e∨b=it:=by simpa using hb
  rcases hb with rfl|rfl
  ·rw[Zaf he1];exact fe.1
  ·rw[Zaf hi1];exact fi.1
 done:=by
  intro X hP hw hK hc i pins s σ H E I hf st hg
  subst hP hw hK
  obtain⟨xs,hq,hx⟩:=hg
  obtain⟨⟨old,he⟩,hi⟩:=st
  obtain⟨its,rv,p,hz⟩:=I.list hq
  obtain⟨f0,f1,f2,f3,f4,f5⟩:=hf it (by simp)
  have hl:=rv.length
  exact wpAny_pyNext_enum_end (I.ok.hd hc) he hi p.isList (by simp;omega) fun h' eb=>⟨rfl,I.turned (t':=s.toks) (fun b o hb e=>eb b o hb e) f0 f1 f3 f4 f5⟩
 self:=fun _ _ _ _ _ st h=>by
  obtain⟨⟨old,he⟩,_⟩:=st
  exact wpAny_pyIter_enum he h
noncomputable def iEnum(K:W.Frag)(ta:TA):TI:=fun σ H R=>ta σ H fun vs H1=>∃ a,vs=[.ref a]∧(∃ xs,SqL K H1 a xs)∧R (Ite K a) H1
theorem ZjA{X:Cx}{K:W.Frag}{a:Expr}{ta:TA}{es:List Expr}{x1}{tp p pos:Pos}(hK:X.K=K)(hg:Gl X "enumerate")(hm:X.mg "enumerate" = none)(ha:PA X [a] ta)(hs:starEach [a] X.env=[(false,eval a X.env)]:=by rfl) :
  PI X (.Tuple es x1 tp) (.Call (.Name "enumerate" p) [a] [] pos) (iEnum K ta):=by
 subst hK
 intro pins s σ H R I h
 refine Call_ (ZcD I hg hm PyProof.Rows.boot_enumerate (PyProof.Rows.callWith_type1 (thn (ha pos pins s σ H _ I h) fun us s1 h1=>?_) hs rfl))
 obtain⟨vs,H1,I1,r1,a,e,⟨xs,hq⟩,q⟩:=h1
 subst e
 cases r1 with
 | cons r rr =>
  cases rr
  cases (show _=Value.ref a from r)
  obtain⟨its,rv,p,hz⟩:=I1.list hq
  refine call_enumerate_list p.isList fun h' he hi hsz k=>?_
  refine wpAny_pyIter_enum he ?_
  have I2:Inv X pins σ H1 { s1 with heap:=h' }:=I1.kept (t':=s1.toks) k
  refine⟨_,[s1.heap.objs.size+1,s1.heap.objs.size],_,Ite X.K a,H1,rfl,I2,ZhX a _ _ (Nat.ne_of_gt (Nat.lt_succ_self _)),⟨⟨_,he⟩,hi⟩,fun b hb=>?_,q⟩
  have hb:b=s1.heap.objs.size+1∨b=s1.heap.objs.size:=by simpa using hb
  rcases hb with rfl|rfl
  ·exact I1.fpOk (Nat.le_succ _) (I1.hok.fresh (Nat.le_succ _))
  ·exact I1.fpOk (Nat.le_refl _) (I1.hok.fresh (Nat.le_refl _))
end L2
end
section
namespace L2
open PySem PySem.Spec PyProof.Rows
noncomputable def tyD:PyData→String
 | .none => "NoneType"
 | .bool _ => "bool"
 | .int _ => "int"
 | .str _ => "str"
 | .list _ => "list"
 | .tuple _ => "tuple"
 | .dict _ => "dict"
noncomputable def isD:PyData→Bool
 | .dict _=>true
 | _=>false
noncomputable def rIsiD(K:W.Frag):List V→Hp→VK→Prop:=fun xs H Q=>∃ x c d cv b,xs=[x,c]∧clsV c=some cv∧isD d=false∧Rep K H x d∧PySem.W.kitOne K (.type (tyD d)) cv=some b∧Q (.bl b) H
theorem ZhY{X:Cx}:CallR X (.builtin "isinstance") (rIsiD X.K):=by
 intro pins s σ H xs us Q I r h
 obtain⟨x,c,d,cv,b,rfl,hc,nd,hd,e,q⟩:=h
 obtain⟨u,w',rfl,rx,r2⟩:=vals2 r
 rw[ZdJ hc r2]
 have fin:∀ tk,EP X pins σ Q (.bool b) { s with toks:=tk }:=fun tk=>⟨.bl b,H,I.tok tk,rfl,q⟩
 cases hd with
 | non=>cases (show u=Value.none from rx);exact PySem.W.kia_one PySem.W.kitx_none I.kIn True.intro e (fun z=>nomatch z) fin
 | bl y=>cases (show u=Value.bool y from rx);exact PySem.W.kia_one PySem.W.kitx_bool I.kIn True.intro e (fun z=>nomatch z) fin
 | int i=>obtain⟨t,q'⟩:=(show ∃ t,u=Value.int i t from rx);cases q';exact PySem.W.kia_one PySem.W.kitx_int I.kIn True.intro e (fun z=>nomatch z) fin
 | str y=>obtain⟨t,q'⟩:=(show ∃ t,u=Value.str y t from rx);cases q';exact PySem.W.kia_one PySem.W.kitx_str I.kIn True.intro e (fun z=>nomatch z) fin
 | @lst a ys ds h1 h2 =>
  cases (show u=Value.ref a from rx)
  obtain⟨its,rv,p,_⟩:=I.list h1
  obtain⟨o,k1,k2,_⟩:=p.isList
  exact PySem.W.kia_one PySem.W.kitx_list I.kIn ⟨o,k1,k2⟩ e (fun z=>nomatch z) fin
 | @tup a ys ds h1 h2 =>
  cases (show u=Value.ref a from rx)
  obtain⟨its,rv,p,_⟩:=I.tuple (SqT.of h1)
  obtain⟨o,k1,k2,_⟩:=p
  exact PySem.W.kia_one PySem.W.kitx_tuple I.kIn ⟨o,k1,k2⟩ e (fun z=>nomatch z) fin
 | exc _ _=>cases nd
 | excF _ _ _ _=>cases nd
 | dK _ _ _=>cases nd
 | dT _ _ _=>cases nd
 | dN _ _ _ _=>cases nd
 | junk=>cases nd
noncomputable def rIsi2(K:W.Frag):List V→Hp→VK→Prop:=fun xs H Q=>rIsi K xs H Q∨rIsiD K xs H Q
theorem Zbm{X:Cx}{K:W.Frag}(h:X.K=K):CallR X (.builtin "isinstance") (rIsi2 K):=h▸CallR.or ZhU ZhY
theorem Zk7{K:W.Frag}{H:Hp}{Q:VK}{x c:V}{d:PyData}{cv:Value}{b:Bool}(hd:Rep K H x d)(nd:isD d=false)(hc:clsV c=some cv)(e:PySem.W.kitOne K (.type (tyD d)) cv=some b)(q:Q (.bl b) H):rIsi2 K [x,c] H Q:=.inr ⟨x,c,d,cv,b,rfl,hc,nd,hd,e,q⟩
theorem Enc.mono{α:Type}{f:α→PyData}{n m:Nat}(E:Enc f n)(h:n≤m):Enc f m:=⟨E.eqv,E.lay,fun a=>Nat.le_trans (E.dep a) h⟩
noncomputable abbrev FK:=Value→Option Addr→St→Hp→Prop
noncomputable def toF(E:XK):FK:=fun c d _ H=>E c d H
end L2
end
section
namespace L2
open PySem PySem.Spec PyProof.Rows
theorem d_KT{P:Program}{w:World}{h:Heap}{a:Addr}(x:h.DictOf (mixKind P w) a []):h.DictOfH (tupleKind (mixKind P w)) a []:=by
 obtain⟨o,es,ep,h3,h4,h5,h6,h7,h8⟩:=x
 refine⟨o,es,ep,h3,h4,h5,?_,⟨fun x z=>absurd z (by simp),List.nodup_nil⟩⟩
 generalize es.toList=l at h7
 cases h7
 rfl
theorem d_TK{P:Program}{w:World}{h:Heap}{a:Addr}(x:h.DictOfH (tupleKind (mixKind P w)) a []):h.DictOf (mixKind P w) a []:=by
 obtain⟨o,es,ep,h3,h4,h5,h6,h7,h8⟩:=x
 have e:es.toList=[]:=by simpa using h6
 refine⟨o,es,ep,h3,h4,h5,fun k hk=>?_,by rw[e];exact .nil,List.nodup_nil⟩
 have:k∈es.toList:=by simpa using hk
 rw[e] at this
 exact nomatch this
theorem Zk8{P:Program}{w:World}{H H':Hp}{h:Heap}{a:Addr}(x:ObjOk P w H h a (.dK [])):ObjOk P w H' h a (.dT []):=by
 obtain⟨h1,h2,vs,rel,dd⟩:=x
 cases rel
 obtain⟨o,es,ep,h3,h4,h5,h6,_,h7⟩:=d_KT dd
 exact⟨h1,h2,[],.nil,o,es,ep,h3,h4,h5,h6,h7⟩
theorem ZjB{P:Program}{w:World}{H H':Hp}{h:Heap}{a:Addr}(x:ObjOk P w H h a (.dT [])):ObjOk P w H' h a (.dK []):=by
 obtain⟨h1,h2,xs,rel,o,es,ep,h3,h4,h5,h6,h7⟩:=x
 cases rel
 exact⟨h1,h2,[],.nil,d_TK ⟨o,es,ep,h3,h4,h5,h6,⟨fun x z=>absurd z (by simp),h7⟩⟩⟩
noncomputable def KeyN(H:Hp)(b:Addr)(k:Key×List Key):Prop:=∃ c,H b=some (.tup [kV k.1,.ref c])∧H c=some (.tup (k.2.map kV))
theorem Zdq{P:Program}{w:World}{H:Hp}{h:Heap}{b:Addr}{k:Key×List Key}(ok:HOk P w H h)(e:KeyN H b k):(pairKind (mixKind P w)).is h k b:=by
 obtain⟨c,e1,e2⟩:=e
 obtain⟨_,its,r,o,h1,h2,n,h3⟩:=(show ObjOk P w H h b (.tup [kV k.1,.ref c]) from ok b _ e1)
 cases r with
 | cons r1 r =>
  cases r with
  | cons r2 r =>
   cases r
   have r2:_=Value.ref c:=r2
   subst r2
   exact⟨o,_,n,_,c,h1,h2,h3,rfl,Zf0 r1,Zdy ok e2⟩
noncomputable abbrev KN(H:Hp):List ((Key×List Key)×V)→List ((Key×List Key)×Addr×Value)→Prop:=Paired fun p q=>p.1=q.1∧(∃ b,H q.2.1=some (.tup [kV p.1.1,.ref b])∧H b=some (.tup (p.1.2.map kV)))∧RelV p.2 q.2.2
theorem KN.val{H:Hp}{kvs:List ((Key×List Key)×V)}{xs:List ((Key×List Key)×Addr×Value)}(r:KN H kvs xs)(k:Key×List Key):RelO (valV kvs k) ((atKey xs k).map (·.2)):=by
 induction r with
 | nil=>exact True.intro
 | @cons p q ps qs h t ih =>
  by_cases e:p.1=k
  ·have b:atKey (q::qs) k=some q.2:=by simp[atKey,List.find?_cons,h.1.symm.trans e]
   rw[ZcX e,b];exact h.2.2
  ·have e':¬ q.1=k:=fun z=>e (h.1.trans z)
   have b:atKey (q::qs) k=atKey qs k:=by simp[atKey,List.find?_cons,e']
   rw[ZcY e,b];exact ih
theorem KN.put{H:Hp}{kvs:List ((Key×List Key)×V)}{xs:List ((Key×List Key)×Addr×Value)}(r:KN H kvs xs)(k:Key×List Key){b:Addr}{y:V}{u:Value}(hb:KeyN H b k)(ry:RelV y u):KN H (putK kvs k y) (storedH xs k b u):=by
 have e:(kvs.any fun kv=>decide (kv.1=k))=(atKey xs k).isSome:=by
  rw[ZdG,(r.val k).isSome_eq,Option.isSome_map]
 unfold putK storedH
 rw[e]
 by_cases q:(atKey xs k).isSome=true
 ·rw[if_pos q,if_pos q]
  clear e q
  induction r with
  | nil=>exact .nil
  | @cons p q ps qs h t ih =>
   rw[List.map_cons,List.map_cons]
   refine .cons ?_ ih
   unfold putAt
   by_cases e:p.1=k
   ·rw[if_pos e,if_pos (h.1.symm.trans e)];exact⟨h.1,h.2.1,ry⟩
   ·rw[if_neg e,if_neg (fun z=>e (h.1.trans z))];exact h
 ·rw[if_neg q,if_neg q]
  exact Paired.snoc r ⟨rfl,hb,ry⟩
theorem KN.keeps{H H':Hp}{kvs:List ((Key×List Key)×V)}{xs:List ((Key×List Key)×Addr×Value)}(r:KN H kvs xs)(ht:∀ b ys,H b=some (.tup ys)→H' b=some (.tup ys)):KN H' kvs xs :=
 Paired.mapP r fun _ _ z=>⟨z.1,let ⟨b,z1,z2⟩:=z.2.1;⟨b,ht _ _ z1,ht _ _ z2⟩,z.2.2⟩
theorem ZhZ{P:Program}{w:World}{H:Hp}{h:Heap}{a:Addr}{kvs:List ((Key×List Key)×V)}(ok:HOk P w H h)(e:Rd H a (.dN kvs)):kvs.length≤sizeLine∧(a == sysModules)=false∧∃ xs,KN H kvs xs∧h.DictOfH (pairKind (mixKind P w)) a xs:=by
 obtain⟨z,y,xs,r,o,es,ep,h1,h2,h3,h4,h5⟩:=(show ObjOk P w H h a (.dN kvs) from ZkX ok e)
 refine⟨z,y,xs,r,o,es,ep,h1,h2,h3,h4,fun x hx=>?_,h5⟩
 have all:∀ {l:List ((Key×List Key)×V)} {m:List ((Key×List Key)×Addr×Value)},KN H l m→∀ x∈m,(pairKind (mixKind P w)).is h x.1 x.2.1:=by
  intro l m q
  induction q with
  | nil=>intro x hx;exact nomatch hx
  | @cons p q ps qs hq t ih =>
   intro x hx
   rcases List.mem_cons.mp hx with e|hx
   ·subst e
    exact Zdq ok (by rw[← hq.1];exact hq.2.1)
   ·exact ih x hx
 exact all r x hx
theorem d_KN{P:Program}{w:World}{h:Heap}{a:Addr}(x:h.DictOf (mixKind P w) a []):h.DictOfH (pairKind (mixKind P w)) a []:=by
 obtain⟨o,es,ep,h3,h4,h5,h6,h7,h8⟩:=x
 refine⟨o,es,ep,h3,h4,h5,?_,⟨fun x z=>absurd z (by simp),List.nodup_nil⟩⟩
 generalize es.toList=l at h7
 cases h7
 rfl
theorem Zmx{P:Program}{w:World}{H H':Hp}{h:Heap}{a:Addr}(x:ObjOk P w H h a (.dK [])):ObjOk P w H' h a (.dN []):=by
 obtain⟨h1,h2,vs,rel,dd⟩:=x
 cases rel
 obtain⟨o,es,ep,h3,h4,h5,h6,_,h7⟩:=d_KN dd
 exact⟨h1,h2,[],.nil,o,es,ep,h3,h4,h5,h6,h7⟩
theorem Zmy{P:Program}{w:World}{H:Hp}{h:Heap}{a:Addr}(ok:HOk P w H h)(e:Rd H a (.dK [])∨Rd H a (.dT [])):(a == sysModules)=false∧h.DictOf (mixKind P w) a []:=by
 rcases e with e|e
 ·obtain⟨z,hd,vs,rel,dd⟩:=Zf1 ok e
  cases rel
  exact⟨hd,dd⟩
 ·obtain⟨z,hd,vs,rel,dd⟩:=Zf2 ok e
  cases rel
  exact⟨hd,d_TK dd⟩
theorem Zc0{P:Program}{w:World}{A:Around}(hu:A.units+2<cLine):(pairKind (mixKind P w)).room A.in1:=⟨by show A.units+1<cLine;omega,by show A.units+1+1<cLine;omega⟩
noncomputable def DGetN(H:Hp)(a:Addr)(y:V)(r:Option V):Prop:=∃ kvs k b,Rd H a (.dN kvs)∧y=.ref b∧KeyN H b k∧r=valV kvs k
noncomputable def DGetA(H:Hp)(a:Addr)(y:V)(r:Option V):Prop:=DGet H a y r∨DGetN H a y r
noncomputable def DGet0(H:Hp)(a:Addr)(y:V)(r:Option V):Prop:=DGet H a y r∨(r=none∧(∃ k,y=kV k)∧Rd H a (.dT []))∨(r=none∧(∃ (k:List Key) (b:Addr),y=.ref b∧H b=some (.tup (k.map kV)))∧Rd H a (.dK []))∨DGetN H a y r∨(r=none∧(∃ (k:Key×List Key) (b:Addr),y=.ref b∧KeyN H b k)∧(Rd H a (.dK [])∨Rd H a (.dT [])))
noncomputable def DPut0(H:Hp)(a:Addr)(y v:V)(H':Hp):Prop:=DPut H a y v H'∨(∃ k,y=kV k∧H a=some (.dT [])∧H'=upd H a (.dK [(k,v)]))∨(∃ (k:List Key) (b:Addr),y=.ref b∧H b=some (.tup (k.map kV))∧H a=some (.dK [])∧H'=upd H a (.dT [(k,v)]))∨(∃ kvs k b,H a=some (.dN kvs)∧y=.ref b∧KeyN H b k∧kvs.length<sizeLine∧H'=upd H a (.dN (putK kvs k v)))∨(∃ (k:Key×List Key) (b:Addr),y=.ref b∧KeyN H b k∧(H a=some (.dK [])∨H a=some (.dT []))∧H'=upd H a (.dN [(k,v)]))
section
variable{X:Cx}{pins:List (Addr×Obj)}{σ:St}{H:Hp}{s:Shared}{a:Addr}{y v:V}{u r:Value}{o:Option V}{A:Around}{E:Value→Shared→Prop}
theorem Zkq{kvs:List ((Key×List Key)×V)}{k:Key×List Key}{b:Addr}{Q:Unit→Shared→Prop}(hu:A.units+2<cLine)(I:Inv X pins σ H s)(e:H a=some (.dN kvs))(eb:KeyN H b k)(l:kvs.length<sizeLine)(ry:RelV (.ref b) u)(rv:RelV v r)(h:∀ s',Inv X pins σ (upd H a (.dN (putK kvs k v))) s'→Q () s') :
  wpAny (model X.prog X.w) A (setItem (.ref a) u r) Q E s:=by
 cases (show u=Value.ref b from ry)
 obtain⟨z,hd,xs,rel,dd⟩:=ZhZ I.hok (.inl e)
 have hz:xs.length≤sizeLine:=by rw[← Paired.length rel];exact z
 have hl:(putK kvs k v).length≤sizeLine:=by have:=Za8 kvs k v;omega
 refine wpAny_setItem_heap (hsz:=hz) (Zc0 hu) (Zdq I.hok eb) dd fun h' dd' hs=>h _ ?_
 obtain⟨q,es,ep,hq,h2,h3,h4,_,h5⟩:=dd'
 refine Zbb I (by rw[e];exact True.intro) hs ⟨q,hq⟩ ⟨hl,hd,_,(rel.put k eb rv).keeps fun c ys ec=>?_,q,es,ep,hq,h2,h3,h4,h5⟩
 rw[Zaf (Zej ec e (fun z=>nomatch z))]
 exact ec
theorem Zmz{k:Key×List Key}{b:Addr}{kvs:List ((Key×List Key)×V)}{Q:Value→Shared→Prop}(hu:A.units+2<cLine)(I:Inv X pins σ H s)(e:Rd H a (.dN kvs))(eb:KeyN H b k)(l:some v=valV kvs k)(ry:RelV (.ref b) u)(h:∀ w' s',Inv X pins σ H s'→RelV v w'→Q w' s') :
  wpAny (model X.prog X.w) A (getItem (.ref a) u) Q E s:=by
 cases (show u=Value.ref b from ry)
 obtain⟨z,hd,xs,rel,dd⟩:=ZhZ I.hok e
 obtain⟨w',hw,rw'⟩:=RelO.some_of (v:=v) (o:=(atKey xs k).map (·.2)) (by rw[l];exact rel.val k)
 obtain⟨p,hp,hp2⟩:=Option.map_eq_some_iff.mp hw
 refine wpAny_getItem_heap (Zc0 hu) (Zdq I.hok eb) dd hp ?_
 rw[hp2]
 exact h w' _ (I.tok _) rw'
theorem ZjC{Q:Value→Shared→Prop}(hu:A.units+2<cLine)(I:Inv X pins σ H s)(g:DGet0 H a y o)(ry:RelV y u)(h:∀ s',Inv X pins σ H s'→Q (.bool (!o.isSome)) s') :
  wpAny (model X.prog X.w) A (compareOp .NotIn u (.ref a)) Q E s:=by
 rcases g with g|⟨rfl,⟨k,rfl⟩,e⟩|⟨rfl,⟨k,b,rfl,eb⟩,e⟩|⟨kvs,k,b,e,rfl,eb,rfl⟩|⟨rfl,⟨k,b,rfl,eb⟩,e⟩
 ·exact ZkZ (by omega) I g ry h
 ·obtain⟨z,hd,vs,rel,dd⟩:=Zf2 I.hok e
  cases rel
  exact wpAny_notIn_of (Zf0 ry) hd (d_TK dd).mapOf (h _ (I.tok _))
 ·obtain⟨z,hd,vs,rel,dd⟩:=Zf1 I.hok e
  cases rel
  cases (show u=Value.ref b from ry)
  exact wpAny_notIn_heap (tupleKind_room_in1 (by omega)) (Zdy I.hok eb) hd (d_KT dd) (h _ (I.tok _))
 ·obtain⟨z,hd,xs,rel,dd⟩:=ZhZ I.hok e
  cases (show u=Value.ref b from ry)
  refine wpAny_notIn_heap (Zc0 hu) (Zdq I.hok eb) hd dd ?_
  have q:=(rel.val k).isSome_eq
  rw[Option.isSome_map] at q
  rw[← q]
  exact h _ (I.tok _)
 ·obtain⟨hd,dd⟩:=Zmy I.hok e
  cases (show u=Value.ref b from ry)
  exact wpAny_notIn_heap (Zc0 hu) (Zdq I.hok eb) hd (d_KN dd) (h _ (I.tok _))
theorem Zhm{H':Hp}{Q:Unit→Shared→Prop}(hu:A.units+2<cLine)(I:Inv X pins σ H s)(g:DPut0 H a y v H')(ry:RelV y u)(rv:RelV v r)(h:∀ s',Inv X pins σ H' s'→Q () s') :
  wpAny (model X.prog X.w) A (setItem (.ref a) u r) Q E s:=by
 have big:([]:List (Key×V)).length<sizeLine:=by decide
 have big':([]:List (List Key×V)).length<sizeLine:=by decide
 rcases g with g|⟨k,rfl,e,rfl⟩|⟨k,b,rfl,eb,e,rfl⟩|⟨kvs,k,b,e,rfl,eb,l,rfl⟩|⟨k,b,rfl,eb,e,rfl⟩
 ·exact ZdQ (by omega) I g ry rv h
 ·have x:=I.hok a _ e
  obtain⟨q,hq⟩:∃ q,s.heap.get? a=some q:=by obtain⟨_,_,_,_,q,_,_,hq,_⟩:=x;exact⟨q,hq⟩
  have J:Inv X pins σ (upd H a (.dK [])) s:=Zbb (t':=s.toks) I (by rw[e];exact True.intro) (Heap.SameBut.refl a s.heap) ⟨q,hq⟩ (ZjB x)
  refine ZdQ (by omega) J (DPut.k (k:=k) (v:=v) Zak big) ry rv fun s' J'=>h s' ?_
  rw[ZcI] at J'
  exact J'
 ·have x:=I.hok a _ e
  obtain⟨q,hq⟩:∃ q,s.heap.get? a=some q:=by obtain⟨_,_,_,_,q,_,_,hq,_⟩:=x;exact⟨q,hq⟩
  have J:Inv X pins σ (upd H a (.dT [])) s:=Zbb (t':=s.toks) I (by rw[e];exact True.intro) (Heap.SameBut.refl a s.heap) ⟨q,hq⟩ (Zk8 x)
  refine ZdQ (by omega) J (DPut.t (k:=k) (v:=v) Zak (by rw[Zaf (Zej eb e (fun z=>nomatch z))];exact eb) big') ry rv fun s' J'=>h s' ?_
  rw[ZcI] at J'
  exact J'
 ·exact Zkq hu I e eb l ry rv h
 ·have x:ObjOk X.prog X.w H s.heap a (.dK []):=by
   rcases e with e|e
   ·exact I.hok a _ e
   ·exact ZjB (I.hok a _ e)
  obtain⟨q,hq⟩:∃ q,s.heap.get? a=some q:=by obtain⟨_,_,_,_,q,_,_,hq,_⟩:=x;exact⟨q,hq⟩
  have mu:Mut (H a):=by rcases e with e|e<;>rw[e]<;>exact True.intro
  have J:Inv X pins σ (upd H a (.dN [])) s:=Zbb (t':=s.toks) I mu (Heap.SameBut.refl a s.heap) ⟨q,hq⟩ (Zmx x)
  have nt:∀ c ys,H c=some (.tup ys)→upd H a (.dN []) c=some (.tup ys):=fun c ys ec=>by
   rw[Zaf (by rcases e with e|e<;>exact Zej ec e (fun z=>nomatch z))];exact ec
  refine Zkq hu J Zak (let ⟨c,e1,e2⟩:=eb;⟨c,nt _ _ e1,nt _ _ e2⟩) (by decide) ry rv fun s' J'=>h s' ?_
  rw[ZcI] at J'
  exact J'
end
section
variable{X:Cx}
noncomputable def rInDc(neg:Bool):R2:=fun x y H Q=>∃ a r,y=.ref a∧DGet0 H a x r∧Q (.bl (if neg then !r.isSome else r.isSome)) H
theorem Zhn(hu:X.A.units+64<cLine):OpR X (compareOp .NotIn) (rInDc true):=by
 intro pins s σ H x y v u Q I rx ry h
 obtain⟨a,r,rfl,g,q⟩:=h
 cases ry
 exact ZjC (by omega) I g rx fun s' J=>⟨.bl _,H,J,rfl,q⟩
noncomputable def rIxDc:R2:=fun x y H Q=>∃ a v,x=.ref a∧DGetA H a y (some v)∧Q v H
theorem ZmA(hu:X.A.units+64<cLine):IxR X rIxDc:=by
 intro value slice pins s σ H x y v u Q I rx ry h hs
 obtain⟨a,w',rfl,g,q⟩:=h
 cases rx
 have hT:s.TypeIs (.ref a) "dict" := by
  rcases g with g|⟨kvs,k,b,e,_⟩
  ·exact Zf3 I g
  ·obtain⟨_,_,xs,_,o,es,ep,h1,h2,_⟩:=ZhZ I.hok e
   exact⟨o,h1,h2.1⟩
 unfold subscriptTail
 refine wpAny_bind ?_
 rw[getitemInPython_of_ne hT.not_modules]
 refine wpAny_bind (wpAny_specialOf hT PySem.F.slot_dict_getitem.lookup ?_)
 have fin:wpAny (model X.prog X.w) X.A (subscripted slice false (.ref a) u) (fun r s₃=>wpAny (model X.prog X.w) X.A (letTemporaryGo value (.ref a) r >>= fun _=>pure r) (EP X pins σ Q) X.xe s₃) X.xe s:=by
  rw[hs]
  rcases g with g|⟨kvs,k,b,e,rfl,eb,l⟩
  ·exact wpAny_operating (ZhQ (by omega) I g ry fun r s' J rr=>wpAny_bind (wpAny_letTemporaryGo (wpAny_pure ⟨w',H,J,rr,q⟩)))
  ·exact wpAny_operating (Zmz (by omega) I e eb l ry fun r s' J rr=>wpAny_bind (wpAny_letTemporaryGo (wpAny_pure ⟨w',H,J,rr,q⟩)))
 first
  | exact wpAny_pure (wpAny_bind fin)
  | exact wpAny_bind (wpAny_pure (wpAny_bind fin))
  | exact wpAny_bind fin
noncomputable def rSetDc:TSet:=fun o i v H Q=>∃ a H',o=.ref a∧DPut0 H a i v H'∧Q H'
noncomputable def rSetA:TSet:=fun o i v H Q=>rSetL o i v H Q∨rSetDc o i v H Q
theorem ZdS(hu:X.A.units+64<cLine):PSet X rSetA:=by
 intro pins s σ H o i v ov iv u Q I ro ri rv h
 rcases h with h|⟨a,H',rfl,g,q⟩
 ·exact Zjv pins s σ H o i v ov iv u Q I ro ri rv h
 ·cases ro
  exact Zhm (by omega) I g ri rv fun s' J=>⟨H',J,q⟩
end
section
variable{κ:Type}[DecidableEq κ]{α:Type}[DecidableEq α]
noncomputable def getA{β:Type}(kvs:List (α×β))(k:α):Option β:=(kvs.find? fun kv=>decide (kv.1=k)).map (·.2)
noncomputable def putA{β:Type}(kvs:List (α×β))(k:α)(v:β):List (α×β):=if (getA kvs k).isSome then kvs.map fun kv=>if kv.1=k then (kv.1,v) else kv else kvs++[(k,v)]
end
section
variable{X:Cx}{K:W.Frag}
noncomputable def anyD(d:PyData)(es:List PyData):Bool:=es.any fun e=>PyData.eqv e d
noncomputable def rInD(K:W.Frag)(neg:Bool):R2:=fun x y H Q=>∃ d es,Rep K H x d∧(Rep K H y (.list es)∨Rep K H y (.tuple es))∧d.canLay0=true∧PyData.canLayAll0 es=true∧d.depth≤32∧Q (.bl (if neg then !anyD d es else anyD d es)) H
theorem Zh0(hK:X.K=K)(hu:X.A.units+64<cLine):OpR X (compareOp .NotIn) (rInD K true):=by
 subst hK
 intro pins s σ H x y v u Q I rx ry h
 obtain⟨d,es,h1,h2,h3,h4,h5,q⟩:=h
 obtain⟨as,k1⟩:=Rep.reads I h3 h1 rx
 rcases h2 with h2|h2
 ·obtain⟨bs,k2⟩:=Rep.reads I (by simpa [PyData.canLay0] using h4) h2 ry
  exact SeqAt.notIn_list_reads k2 k1 h4 h3 (by omega) ⟨.bl _,H,I,rfl,q⟩
 ·obtain⟨bs,k2⟩:=Rep.reads I (by simpa [PyData.canLay0] using h4) h2 ry
  exact SeqAt.notIn_tuple_reads k2 k1 h4 h3 (by omega) ⟨.bl _,H,I,rfl,q⟩
end
theorem ZgB{α:Type}[DecidableEq α]{f:α→PyData}{m:Nat}(F:Enc f m)(c:α):∀ xs:List α,anyD (f c) (xs.map f)=decide (c∈xs)
 | []=>by simp[anyD]
 | x::xs=>by
  have ih:=ZgB F c xs
  unfold anyD at ih ⊢
  rw[List.map_cons,List.any_cons,ih,F.dec]
  by_cases e:x=c
  ·subst e;simp
  ·have e':¬ c=x:=fun z=>e z.symm
   simp[e,e']
theorem Zh1{α:Type}{f:α→PyData}{m:Nat}(F:Enc f m):∀ xs:List α,PyData.canLayAll0 (xs.map f)=true
 | []=>by simp[PyData.canLayAll0]
 | x::xs=>by simp[PyData.canLayAll0,F.lay x,Zh1 F xs]
noncomputable def rInS(neg:Bool):R2:=fun x y H Q=>∃ i j,x=.str i∧y=.str j∧Q (.bl (if neg then !(!(Builtin.Str.occurrences j i 0 j.length 1).isEmpty) else !(Builtin.Str.occurrences j i 0 j.length 1).isEmpty)) H
noncomputable def rInA(K:W.Frag)(neg:Bool):R2:=fun x y H Q=>rInD K neg x y H Q∨rInDc neg x y H Q∨rInS neg x y H Q
theorem Zc1{X:Cx}{K:W.Frag}(hK:X.K=K)(hu:X.A.units+64<cLine):OpR X (compareOp .NotIn) (rInA K true):=(Zh0 hK hu).or ((Zhn hu).or Zfj)
end L2
end
section
namespace VL
open PySem PySem.Spec L2
inductive AV where
 | d (x:PyData)
 | own (xs:List AV)
 | tup (xs:List AV)
 | dic (kvs:List (PyData×PyData))
 | obj (φ:V→Hp→Prop)
inductive TV where
 | av (a:AV)
 | bor (x:PyData)
 | raw (v:V)
noncomputable abbrev Sl:=List (Option AV)
noncomputable abbrev Fp:=Addr→Nat
mutual
noncomputable def AV.data:AV→PyData
 | .d x=>x
 | .own xs=>.list (AV.datas xs)
 | .tup xs=>.tuple (AV.datas xs)
 | .dic kvs=>.dict kvs
 | .obj _=>dJ
noncomputable def AV.datas:List AV→List PyData
 | []=>[]
 | x::xs=>x.data::AV.datas xs
end
theorem AV.datas_map:∀ xs:List AV,AV.datas xs=xs.map AV.data
 | []=>rfl
 | x::xs=>by rw[AV.datas,AV.datas_map xs];rfl
noncomputable def DicAt(K:W.Frag)(G:Hp)(o:HO)(kvs:List (PyData×PyData)):Prop :=
 (∃ (ks:List (Key×V)) (ds:List PyData),o=.dK ks∧Reps K G (ks.map Prod.snd) ds∧kvs=(ks.map fun p=>keyD p.1).zip ds) ∨
 (∃ (ks:List (List Key×V)) (ds:List PyData),o=.dT ks∧Reps K G (ks.map Prod.snd) ds∧kvs=(ks.map fun p=>PyData.tuple (p.1.map keyD)).zip ds) ∨
 ∃ (ks:List ((Key×List Key)×V)) (ds:List PyData),ks≠[]∧o=.dN ks∧Reps K G (ks.map Prod.snd) ds∧kvs=(ks.map fun p=>PyData.tuple [keyD p.1.1,.tuple (p.1.2.map keyD)]).zip ds
theorem DicAt.mono{K:W.Frag}{G G':Hp}{o:HO}{kvs:List (PyData×PyData)}(h:DicAt K G o kvs)(m:Same G G'):DicAt K G' o kvs:=by
 rcases h with⟨ks,ds,e,r,z⟩|⟨ks,ds,e,r,z⟩|⟨ks,ds,n,e,r,z⟩
 ·exact .inl ⟨ks,ds,e,r.same m,z⟩
 ·exact .inr (.inl ⟨ks,ds,e,r.same m,z⟩)
 ·exact .inr (.inr ⟨ks,ds,n,e,r.same m,z⟩)
theorem DicAt.rep{K:W.Frag}{G:Hp}{o:HO}{kvs:List (PyData×PyData)}{a:Addr}(h:DicAt K G o kvs)(e:G a=some o):Rep K G (.ref a) (.dict kvs):=by
 rcases h with⟨ks,ds,rfl,r,z⟩|⟨ks,ds,rfl,r,z⟩|⟨ks,ds,n,rfl,r,z⟩
 ·exact .dK (.inl e) r z
 ·exact .dT (.inl e) r z
 ·exact .dN n (.inl e) r z
noncomputable def Mu:HO→Prop
 | .lst _=>True
 | .dK _=>True
 | .dT _=>True
 | .dN _=>True
 | _=>False
theorem DicAt.mu{K:W.Frag}{G:Hp}{o:HO}{kvs:List (PyData×PyData)}(h:DicAt K G o kvs):Mu o:=by
 rcases h with⟨ks,ds,rfl,_⟩|⟨ks,ds,rfl,_⟩|⟨ks,ds,_,rfl,_⟩<;>trivial
mutual
inductive RA(K:W.Frag)(G H:Hp):V→AV→Fp→Prop
 | d {v:V} {x:PyData} {p:Fp}:Rep K G v x→(∀ b,p b=0)→RA K G H v (.d x) p
 | own {a:Addr} {vs:List V} {xs:List AV} {p q:Fp}:H a=some (.lst vs)→RAs K G H vs xs p→(∀ b,q b=(if b=a then 1 else 0)+p b)→RA K G H (.ref a) (.own xs) q
 | tup {a:Addr} {vs:List V} {xs:List AV} {p:Fp}:G a=some (.tup vs)→RAs K G H vs xs p→RA K G H (.ref a) (.tup xs) p
 | dic {a:Addr} {o:HO} {kvs:List (PyData×PyData)} {q:Fp}:H a=some o→DicAt K G o kvs→(∀ b,q b=if b=a then 1 else 0)→RA K G H (.ref a) (.dic kvs) q
 | obj {v:V} {φ:V→Hp→Prop} {p:Fp}:φ v G→(∀ G1 G2:Hp,Same G1 G2→φ v G1→φ v G2)→(∀ b,p b=0)→RA K G H v (.obj φ) p
inductive RAs(K:W.Frag)(G H:Hp):List V→List AV→Fp→Prop
 | nil {p:Fp}:(∀ b,p b=0)→RAs K G H [] [] p
 | cons {v:V} {x:AV} {vs:List V} {xs:List AV} {p q r:Fp}:RA K G H v x p→RAs K G H vs xs q→(∀ b,r b=p b+q b)→RAs K G H (v::vs) (x::xs) r
end
theorem RA.ind{K:W.Frag}{G H:Hp}{M:V→AV→Fp→Prop}{N:List V→List AV→Fp→Prop}(h1:∀ {v x p},Rep K G v x→(∀ b,p b=0)→M v (.d x) p)(h2:∀ {a vs xs p q},H a=some (.lst vs)→N vs xs p→(∀ b,q b=(if b=a then 1 else 0)+p b)→M (.ref a) (.own xs) q)
  (h3:∀ {a vs xs p},G a=some (.tup vs)→N vs xs p→M (.ref a) (.tup xs) p) (h4:∀ {a o kvs q},H a=some o→DicAt K G o kvs→(∀ b,q b=if b=a then 1 else 0)→M (.ref a) (.dic kvs) q) (h5:∀ {v φ p},φ v G→(∀ G1 G2:Hp,Same G1 G2→φ v G1→φ v G2)→(∀ b,p b=0)→M v (.obj φ) p)
  (n:∀ {p},(∀ b,p b=0)→N [] [] p) (c:∀ {v x vs xs p q r},M v x p→N vs xs q→(∀ b,r b=p b+q b)→N (v::vs) (x::xs) r):(∀ {v a p},RA K G H v a p→M v a p)∧∀ {vs xs p},RAs K G H vs xs p→N vs xs p :=
 ⟨fun h=>RA.rec (motive_1:=fun v a p _=>M v a p) (motive_2:=fun v a p _=>N v a p) h1 (fun h _ e i=>h2 h i e) (fun h _ i=>h3 h i) h4 h5 n (fun _ _ e i j=>c i j e) h,fun h=>RAs.rec (motive_1:=fun v a p _=>M v a p) (motive_2:=fun v a p _=>N v a p) h1 (fun h _ e i=>h2 h i e) (fun h _ i=>h3 h i) h4 h5 n (fun _ _ e i j=>c i j e) h⟩
inductive RSl(K:W.Frag)(G H:Hp):St→Sl→Fp→Prop
 | nil {p:Fp}:(∀ b,p b=0)→RSl K G H [] [] p
 | no {o:Option V} {σ:St} {ρ:Sl} {p:Fp}:RSl K G H σ ρ p→RSl K G H (o::σ) (none::ρ) p
 | so {v:V} {a:AV} {σ:St} {ρ:Sl} {p q r:Fp}:RA K G H v a p→RSl K G H σ ρ q→(∀ b,r b=p b+q b)→RSl K G H (some v::σ) (some a::ρ) r
inductive RT(K:W.Frag)(G H:Hp):V→TV→Fp→Prop
 | av {v:V} {a:AV} {p:Fp}:RA K G H v a p→RT K G H v (.av a) p
 | bor {v:V} {x:PyData} {p:Fp}:Rep K H v x→(∀ b,p b=0)→RT K G H v (.bor x) p
 | raw {v:V} {p:Fp}:(∀ b,p b=0)→RT K G H v (.raw v) p
inductive RTs(K:W.Frag)(G H:Hp):List V→List TV→Fp→Prop
 | nil {p:Fp}:(∀ b,p b=0)→RTs K G H [] [] p
 | cons {v:V} {x:TV} {vs:List V} {xs:List TV} {p q r:Fp}:RT K G H v x p→RTs K G H vs xs q→(∀ b,r b=p b+q b)→RTs K G H (v::vs) (x::xs) r
noncomputable def hid(H:Hp)(p q:Fp):Hp:=fun b=>if p b+q b=0 then H b else none
structure SR(K:W.Frag)(H0:Hp)(σ:St)(ρ:Sl)(ts:List V)(as:List TV)(H:Hp):Prop where
 ex:∃ p q,RSl K (hid H p q) H σ ρ p∧RTs K (hid H p q) H ts as q∧(∀ b,p b+q b≤1)∧∀ b,0<p b+q b→H0 b=none
 same:Same H0 H
section
variable{K:W.Frag}{G G' H H' H0:Hp}{σ:St}{ρ:Sl}{ts:List V}{as:List TV}
theorem RA.monoB(hG:Same G G'):(∀ {v:V} {a:AV} {p:Fp},RA K G H v a p→(∀ b o,0<p b→H b=some o→H' b=some o)→RA K G' H' v a p)∧∀ {vs:List V} {xs:List AV} {p:Fp},RAs K G H vs xs p→(∀ b o,0<p b→H b=some o→H' b=some o)→RAs K G' H' vs xs p :=
 RA.ind (M:=fun v a p=>(∀ b o,0<p b→H b=some o→H' b=some o)→RA K G' H' v a p) (N:=fun vs xs p=>(∀ b o,0<p b→H b=some o→H' b=some o)→RAs K G' H' vs xs p) (fun r e _=>.d (r.same hG) e) (fun {a _ _ _ _} h i e hH=>.own (hH a _ (by have:=e a;simp at this;omega) h) (i fun b o z=>hH b o (by have:=e b;omega)) e)
  (fun h i hH=>.tup (hG _ _ h) (i hH)) (fun {a _ _ _} h d e hH=>.dic (hH a _ (by have:=e a;simp at this;omega) h) (d.mono hG) e) (fun h m e _=>.obj (m _ _ hG h) m e) (fun e _=>.nil e) fun i j e hH=>.cons (i fun b o z=>hH b o (by have:=e b;omega)) (j fun b o z=>hH b o (by have:=e b;omega)) e
theorem RA.mono(hG:Same G G'){v:V}{a:AV}{p:Fp}(hH:∀ b o,0<p b→H b=some o→H' b=some o)(h:RA K G H v a p):RA K G' H' v a p:=(RA.monoB hG).1 h hH
theorem RAs.mono(hG:Same G G'){vs:List V}{xs:List AV}{p:Fp}(hH:∀ b o,0<p b→H b=some o→H' b=some o)(h:RAs K G H vs xs p):RAs K G' H' vs xs p:=(RA.monoB hG).2 h hH
theorem RA.lstB:(∀ {v:V} {a:AV} {p:Fp},RA K G H v a p→∀ b,0<p b→∃ o,H b=some o∧Mu o)∧∀ {vs:List V} {xs:List AV} {p:Fp},RAs K G H vs xs p→∀ b,0<p b→∃ o,H b=some o∧Mu o:=by
 refine RA.ind (M:=fun v a p=>∀ b,0<p b→∃ o,H b=some o∧Mu o) (N:=fun vs xs p=>∀ b,0<p b→∃ o,H b=some o∧Mu o) (fun r e b z=>absurd (e b) (Nat.ne_of_gt z)) (fun {a vs xs p q} h i e b z=>?_) (fun h i b z=>i b z) (fun {a o kvs q} h d e b z=>?_) (fun _ _ e b z=>absurd (e b) (Nat.ne_of_gt z)) (fun e b z=>absurd (e b) (Nat.ne_of_gt z)) fun {v x vs xs p q r} i j e b z=>?_
 ·by_cases hb:b=a
  ·subst hb;exact⟨_,h,trivial⟩
  ·exact i b (by have:=e b;simp[hb] at this;omega)
 ·by_cases hb:b=a
  ·subst hb;exact⟨_,h,d.mu⟩
  ·have:=e b;simp[hb] at this;omega
 ·have:=e b
  rcases Nat.eq_zero_or_pos (p b) with h|h
  ·exact j b (by omega)
  ·exact i b h
theorem RA.lst{v:V}{a:AV}{p:Fp}(h:RA K G H v a p):∀ b,0<p b→∃ o,H b=some o∧Mu o:=RA.lstB.1 h
theorem RAs.lst{vs:List V}{xs:List AV}{p:Fp}(h:RAs K G H vs xs p):∀ b,0<p b→∃ o,H b=some o∧Mu o:=RA.lstB.2 h
theorem RSl.mono(hG:Same G G'){p:Fp}(r:RSl K G H σ ρ p):(∀ b o,0<p b→H b=some o→H' b=some o)→RSl K G' H' σ ρ p:=by
 induction r with
 | nil e=>exact fun _=>.nil e
 | no _ ih=>exact fun h=>.no (ih h)
 | so r _ e ih=>exact fun h=>.so (r.mono hG (fun b o z=>h b o (by have:=e b;omega))) (ih fun b o z=>h b o (by have:=e b;omega)) e
theorem RSl.lst{p:Fp}(r:RSl K G H σ ρ p):∀ b,0<p b→∃ o,H b=some o∧Mu o:=by
 induction r with
 | nil e=>intro b z;have:=e b;omega
 | no _ ih=>exact ih
 | @so v a σ ρ p1 q1 r1 r _ e ih =>
  intro b z
  have:=e b
  rcases Nat.eq_zero_or_pos (p1 b) with h|h
  ·exact ih b (by omega)
  ·exact r.lst b h
theorem RT.mono{v:V}{a:TV}{p:Fp}(hG:Same G G')(hH:Same H H')(r:RT K G H v a p):RT K G' H' v a p:=by
 cases r with
 | av r=>exact .av (r.mono hG fun b o _=>hH b o)
 | bor r e=>exact .bor (r.same hH) e
 | raw e=>exact .raw e
theorem RT.lst{v:V}{a:TV}{p:Fp}(r:RT K G H v a p):∀ b,0<p b→∃ o,H b=some o∧Mu o:=by
 cases r with
 | av r=>exact r.lst
 | bor r e=>intro b z;have:=e b;omega
 | raw e=>intro b z;have:=e b;omega
theorem RTs.mono{p:Fp}(hG:Same G G')(hH:Same H H')(r:RTs K G H ts as p):RTs K G' H' ts as p:=by
 induction r with
 | nil e=>exact .nil e
 | cons r _ e ih=>exact .cons (r.mono hG hH) ih e
theorem RTs.lst{p:Fp}(r:RTs K G H ts as p):∀ b,0<p b→∃ o,H b=some o∧Mu o:=by
 induction r with
 | nil e=>intro b z;have:=e b;omega
 | @cons v x vs xs p1 q1 r1 r _ e ih =>
  intro b z
  have:=e b
  rcases Nat.eq_zero_or_pos (p1 b) with h|h
  ·exact ih b (by omega)
  ·exact r.lst b h
noncomputable def Stb(as:List TV):Prop:=∀ a∈as,∃ x,a=.av (.d x)
theorem Stb.nil:Stb []:=fun _ h=>nomatch h
theorem Stb.cons{x:PyData}(h:Stb as):Stb (.av (.d x)::as):=fun b hb=>by
 rcases List.mem_cons.mp hb with e|e
 ·exact⟨x,e⟩
 ·exact h b e
theorem RTs.monoS{p:Fp}(hG:Same G G')(r:RTs K G H ts as p):Stb as→(∀ b o,0<p b→H b=some o→H' b=some o)→RTs K G' H' ts as p:=by
 induction r with
 | nil e=>exact fun _ _=>.nil e
 | cons r _ e ih =>
  intro hS hH
  refine .cons ?_ (ih (fun a ha=>hS a (.tail _ ha)) fun b o z=>hH b o (by have:=e b;omega)) e
  cases r with
  | av r=>exact .av (r.mono hG fun b o z=>hH b o (by have:=e b;omega))
  | bor _ _=>obtain⟨x,e⟩:=hS _ (.head _);cases e
  | raw e=>exact .raw e
theorem Zc2{p q:Fp}(h:Same H H'):Same (hid H p q) (hid H' p q):=fun b o e=>by
 unfold hid at e ⊢
 split at e
 ·rename_i z;rw[if_pos z];exact h b o e
 ·cases e
theorem Zbu{p q:Fp}:Same (hid H p q) H:=fun b o e=>by
 unfold hid at e
 split at e
 ·exact e
 ·cases e
theorem hid_more{p q p' q':Fp}(h:∀ b,p b+q b=0→p' b+q' b=0):Same (hid H p q) (hid H p' q'):=fun b o e=>by
 unfold hid at e ⊢
 split at e
 ·rename_i z;rw[if_pos (h b z)];exact e
 ·cases e
theorem ZmB{p q p' q':Fp}(h:∀ b,p b+q b=p' b+q' b):hid H p q=hid H p' q':=by
 funext b;unfold hid;rw[h b]
theorem SR.ext(h:SR K H0 σ ρ ts as H)(e:Same H H'):SR K H0 σ ρ ts as H':=by
 obtain⟨⟨p,q,h1,h2,h3,h4⟩,s⟩:=h
 exact⟨⟨p,q,h1.mono (Zc2 e) (fun b o _=>e b o),h2.mono (Zc2 e) e,h3,h4⟩,s.trans e⟩
theorem Zh2{p q:Fp}{a:Addr}{xs:List V}(hl:∀ b,0<p b+q b→∃ o,H b=some o∧Mu o)(h:H a=some (.tup xs)):VL.hid H p q a=some (.tup xs):=by
 unfold VL.hid
 rw[if_pos]
 ·exact h
 ·rcases Nat.eq_zero_or_pos (p a+q a) with z|z
  ·exact z
  ·obtain⟨vs,e,mu⟩:=hl a z;rw[h] at e;cases e;exact mu.elim
theorem Rep.hidB{p q:Fp}(hl:∀ b,0<p b+q b→∃ o,H b=some o∧Mu o):(∀ {v:V} {x:PyData},Rep K H v x→noLst x=true→Rep K (VL.hid H p q) v x)∧∀ {vs:List V} {xs:List PyData},Reps K H vs xs→noLsts xs=true→Reps K (VL.hid H p q) vs xs :=
 Rep.indF (M:=fun v x=>noLst x=true→Rep K (VL.hid H p q) v x) (N:=fun vs xs=>noLsts xs=true→Reps K (VL.hid H p q) vs xs) (fun _=>.non) (fun b _=>.bl b) (fun i _=>.int i) (fun x _=>.str x) (fun _ _ hn=>by simp[noLst] at hn) (fun h i hn=>.tup (Zh2 hl h) (i (by simpa [noLst] using hn))) (fun _ _ hn=>by simp[noLst] at hn) (fun _=>.nil) fun i j hn=>by
  simp only[noLsts,Bool.and_eq_true] at hn
  exact .cons (i hn.1) (j hn.2)
theorem Rep.hid{p q:Fp}(hl:∀ b,0<p b+q b→∃ o,H b=some o∧Mu o){v:V}{x:PyData}(hn:noLst x=true)(h:Rep K H v x):Rep K (VL.hid H p q) v x:=(Rep.hidB hl).1 h hn
theorem Reps.hid{p q:Fp}(hl:∀ b,0<p b+q b→∃ o,H b=some o∧Mu o){vs:List V}{xs:List PyData}(hn:noLsts xs=true)(h:Reps K H vs xs):Reps K (VL.hid H p q) vs xs:=(Rep.hidB hl).2 h hn
theorem RA.frzB(hG:Same G G'):(∀ {v:V} {a:AV} {p:Fp},RA K G H v a p→(∀ b o,0<p b→H b=some o→G' b=some o)→Rep K G' v a.data)∧∀ {vs:List V} {xs:List AV} {p:Fp},RAs K G H vs xs p→(∀ b o,0<p b→H b=some o→G' b=some o)→Reps K G' vs (AV.datas xs) :=
 RA.ind (M:=fun v a p=>(∀ b o,0<p b→H b=some o→G' b=some o)→Rep K G' v a.data) (N:=fun vs xs p=>(∀ b o,0<p b→H b=some o→G' b=some o)→Reps K G' vs (AV.datas xs)) (fun r _ _=>r.same hG) (fun {a _ _ _ _} e i z h=>.lst (SqL.of (h a _ (by have:=z a;simp at this;omega) e)) (i fun b o y=>h b o (by have:=z b;omega)))
  (fun e i h=>.tup (hG _ _ e) (i h)) (fun {a _ _ _} e d z h=>(d.mono hG).rep (h a _ (by have:=z a;simp at this;omega) e)) (fun _ _ _ _=>.junk) (fun _ _=>.nil) fun i j z h=>.cons (i fun b o y=>h b o (by have:=z b;omega)) (j fun b o y=>h b o (by have:=z b;omega))
theorem RA.frz(hG:Same G G'){v:V}{a:AV}{p:Fp}(hH:∀ b o,0<p b→H b=some o→G' b=some o)(h:RA K G H v a p):Rep K G' v a.data:=(RA.frzB hG).1 h hH
theorem RAs.frz(hG:Same G G'){vs:List V}{xs:List AV}{p:Fp}(hH:∀ b o,0<p b→H b=some o→G' b=some o)(h:RAs K G H vs xs p):Reps K G' vs (AV.datas xs):=(RA.frzB hG).2 h hH
theorem RA.rep(hG:Same G H){v:V}{a:AV}{p:Fp}(h:RA K G H v a p):Rep K H v a.data:=h.frz hG fun _ _ _ z=>z
theorem RAs.rep(hG:Same G H){vs:List V}{xs:List AV}{p:Fp}(h:RAs K G H vs xs p):Reps K H vs (AV.datas xs):=h.frz hG fun _ _ _ z=>z
noncomputable def TV.data:TV→PyData
 | .av a=>a.data
 | .bor x=>x
 | .raw _=>.none
theorem RT.rep{v:V}{a:TV}{p:Fp}(hG:Same G H)(hr:∀ v,a≠.raw v)(r:RT K G H v a p):Rep K H v a.data:=by
 cases r with
 | av r=>exact r.rep hG
 | bor r _=>exact r
 | raw _=>exact absurd rfl (hr _)
end
end VL
end
section
namespace VL
open PySem PySem.Spec L2
structure Exc where
 cls:Addr
 fs:List (Str×PyData):=[]
noncomputable def XRep(K:W.Frag)(H:Hp)(e:Exc)(c:Value)(d:Option Addr):Prop :=
 c=.ref e.cls∧((e.fs=[]∧d=none)∨∃ a vs,d=some a∧H a=some (hXD a vs)∧vs.map Prod.fst=e.fs.map Prod.fst∧Reps K H (vs.map Prod.snd) (e.fs.map Prod.snd))
class Tabs where
 ts:List (Addr×(Nat→Nat→Str))
variable[Tabs]
noncomputable def TabsIn(H:Hp):Prop:=∀ p∈Tabs.ts,H p.1=some (.tbq p.2)
theorem TabsIn.same{H H':Hp}(t:TabsIn H)(s:Same H H'):TabsIn H':=fun p hp=>s _ _ (t p hp)
structure XOk(K:W.Frag)(E:FK)(X:Exc→Sl→Prop)(H0:Hp):Prop where
 x:∀ e ρ,X e ρ→∀ c d σ H',SR K H0 σ ρ [] [] H'→XRep K H' e c d→E c d σ H'
 t:TabsIn H0
noncomputable def NE:Exc→Sl→Prop:=fun _ _=>False
theorem XOk.ne{K:W.Frag}{E:FK}{H0:Hp}(t:TabsIn H0):XOk K E NE H0:=⟨fun _ _ z=>z.elim,t⟩
structure VEnds where
 nx:Sl→Prop
 rt:TV→Prop
 bk:Sl→Prop:=fun _=>False
 ct:Sl→Prop:=fun _=>False
structure Fit(K:W.Frag)(H0:Hp)(ts:List V)(as:List TV)(DV:VEnds)(D:Ends):Prop where
 nx:∀ ρ,DV.nx ρ→∀ σ H,SR K H0 σ ρ ts as H→D.nx σ H
 bk:∀ ρ,DV.bk ρ→∀ σ H,SR K H0 σ ρ ts as H→D.bk σ H
 ct:∀ ρ,DV.ct ρ→∀ σ H,SR K H0 σ ρ ts as H→D.ct σ H
 rt:∀ a,DV.rt a→∀ v σ ρ H,SR K H0 σ ρ (v::ts) (a::as) H→D.rt v H
noncomputable def TV.sto:TV→Option AV
 | .av a=>some a
 | .bor x=>if noLst x=true then some (.d x) else none
 | .raw _=>none
section
variable(K:W.Frag)(E:FK)(X:Exc→Sl→Prop)
noncomputable def Ev(t:TE)(ρ:Sl)(Q:TV→Prop):Prop :=
 ∀ (H0:Hp) (σ:St) (ts:List V) (as:List TV) (H:Hp) (QV:VK),SR K H0 σ ρ ts as H→XOk K E X H0→(∀ a,Q a→∀ v H',SR K H0 σ ρ (v::ts) (a::as) H'→QV v H')→t σ H QV
noncomputable def Tv(t:TT)(ρ:Sl)(Q:Bool→Prop):Prop :=
 ∀ (H0:Hp) (σ:St) (ts:List V) (as:List TV) (H:Hp) (QV:Bool→Hp→Prop),SR K H0 σ ρ ts as H→XOk K E X H0→(∀ b,Q b→∀ H',SR K H0 σ ρ ts as H'→QV b H')→t σ H QV
noncomputable def Ea(t:TA)(ρ:Sl)(Q:List TV→Prop):Prop :=
 ∀ (H0:Hp) (σ:St) (ts:List V) (as:List TV) (H:Hp) (QV:List V→Hp→Prop),SR K H0 σ ρ ts as H→XOk K E X H0→(∀ bs,Q bs→∀ vs H',SR K H0 σ ρ (vs++ts) (bs++as) H'→vs.length=bs.length→QV vs H')→t σ H QV
noncomputable def Op(r:R2)(a b:TV)(Q:TV→Prop):Prop :=
 ∀ (H0:Hp) (σ:St) (ρ:Sl) (ts:List V) (as:List TV) (H:Hp) (x y:V) (QV:VK),SR K H0 σ ρ (y::x::ts) (b::a::as) H→XOk K E X H0→(∀ c,Q c→∀ v H',SR K H0 σ ρ (v::ts) (c::as) H'→QV v H')→r x y H QV
noncomputable def Bi(r:List V→Hp→VK→Prop)(bs:List TV)(Q:TV→Prop):Prop :=
 ∀ (H0:Hp) (σ:St) (ρ:Sl) (ts:List V) (as:List TV) (H:Hp) (vs:List V) (QV:VK),SR K H0 σ ρ (vs++ts) (bs++as) H→vs.length=bs.length→XOk K E X H0→(∀ c,Q c→∀ v H',SR K H0 σ ρ (v::ts) (c::as) H'→QV v H')→r vs H QV
noncomputable def Sv(t:TS)(ρ:Sl)(DV:VEnds):Prop :=
 ∀ (H0:Hp) (σ:St) (ts:List V) (as:List TV) (H:Hp) (D:Ends),Stb as→SR K H0 σ ρ ts as H→XOk K E X H0→Fit K H0 ts as DV D→t D σ H
end
section
variable{K:W.Frag}{G G' H H' H0:Hp}{σ:St}{ρ:Sl}{ts:List V}{as:List TV}{v x y:V}{a b:TV}
theorem SR.top(h:SR K H0 σ ρ (v::ts) (a::as) H)(hr:∀ v,a≠.raw v):Rep K H v a.data:=by
 obtain⟨⟨p,q,_,h2,_⟩,_⟩:=h
 cases h2 with
 | cons r _ _=>exact r.rep Zbu hr
theorem SR.top_d{x:PyData}(h:SR K H0 σ ρ (v::ts) (.av (.d x)::as) H):Rep K H v x:=h.top (a:=.av (.d x)) (fun _ z=>nomatch z)
theorem SR.raw{u:V}(h:SR K H0 σ ρ (v::ts) (.raw u::as) H):v=u:=by
 obtain⟨⟨p,q,_,h2,_⟩,_⟩:=h
 cases h2 with
 | cons r _ _=>cases r;rfl
theorem SR.pop(h:SR K H0 σ ρ (v::ts) (a::as) H):SR K H0 σ ρ ts as H:=by
 obtain⟨⟨p,q,h1,h2,h3,h4⟩,s⟩:=h
 cases h2 with
 | @cons _ _ _ _ p1 q1 _ r rs e =>
  refine⟨⟨p,q1,h1.mono (hid_more fun b z=>by have:=e b;omega) (fun _ _ _ z=>z),rs.mono (hid_more fun b z=>by have:=e b;omega) (fun _ _ z=>z),fun b=>by have:=e b;have:=h3 b;omega,fun b z=>h4 b (by have:=e b;omega)⟩,s⟩
theorem SR.push(h:SR K H0 σ ρ ts as H){x:PyData}(r:∀ G,Rep K G v x):SR K H0 σ ρ (v::ts) (.av (.d x)::as) H:=by
 obtain⟨⟨p,q,h1,h2,h3,h4⟩,s⟩:=h
 exact⟨⟨p,q,h1,.cons (.av (.d (p:=fun _=>0) (r _) fun _=>rfl)) h2 (fun b=>by simp),h3,h4⟩,s⟩
theorem SR.pushB(h:SR K H0 σ ρ ts as H){x:PyData}(r:Rep K H v x):SR K H0 σ ρ (v::ts) (.bor x::as) H:=by
 obtain⟨⟨p,q,h1,h2,h3,h4⟩,s⟩:=h
 exact⟨⟨p,q,h1,.cons (.bor (p:=fun _=>0) r fun _=>rfl) h2 (fun b=>by simp),h3,h4⟩,s⟩
theorem SR.pushR(h:SR K H0 σ ρ ts as H):SR K H0 σ ρ (v::ts) (.raw v::as) H:=by
 obtain⟨⟨p,q,h1,h2,h3,h4⟩,s⟩:=h
 exact⟨⟨p,q,h1,.cons (.raw (p:=fun _=>0) fun _=>rfl) h2 (fun b=>by simp),h3,h4⟩,s⟩
theorem SR.lsts{p q:Fp}(h1:RSl K G H σ ρ p)(h2:RTs K G H ts as q):∀ b,0<p b+q b→∃ o,H b=some o∧Mu o:=fun b z=>by
 rcases Nat.eq_zero_or_pos (p b) with e|e
 ·exact h2.lst b (by omega)
 ·exact h1.lst b e
theorem SR.pushF(h:SR K H0 σ ρ ts as H){x:PyData}(hx:noLst x=true)(r:Rep K H v x):SR K H0 σ ρ (v::ts) (.av (.d x)::as) H:=by
 obtain⟨⟨p,q,h1,h2,h3,h4⟩,s⟩:=h
 exact⟨⟨p,q,h1,.cons (.av (.d (p:=fun _=>0) (Rep.hid (SR.lsts h1 h2) hx r) fun _=>rfl)) h2 (fun b=>by simp),h3,h4⟩,s⟩
theorem SR.int(h:SR K H0 σ ρ ts as H)(i:Int):SR K H0 σ ρ (.int i::ts) (.av (.d (.int i))::as) H:=h.push fun _=>.int i
theorem SR.bl(h:SR K H0 σ ρ ts as H)(i:Bool):SR K H0 σ ρ (.bl i::ts) (.av (.d (.bool i))::as) H:=h.push fun _=>.bl i
theorem SR.sto{a':AV}(h:SR K H0 σ ρ (v::ts) (a::as) H)(e:a.sto=some a'):SR K H0 σ ρ (v::ts) (.av a'::as) H:=by
 cases a with
 | av a=>cases e;exact h
 | raw u=>cases e
 | bor x =>
  unfold TV.sto at e
  by_cases z:noLst x=true
  ·simp only[z,if_true,Option.some.injEq] at e
   subst e
   exact h.pop.pushF z (h.top (a:=.bor x) fun _ z=>nomatch z)
  ·simp[z] at e
theorem SR.frzT{a:AV}(h:SR K H0 σ ρ (v::ts) (.av a::as) H):SR K H0 σ ρ (v::ts) (.av (.d a.data)::as) H:=by
 obtain⟨⟨p,q,h1,h2,h3,h4⟩,s⟩:=h
 cases h2 with
 | @cons _ _ _ _ p1 q1 _ r rs e =>
  cases r with
  | av r =>
   have m:Same (hid H p q) (hid H p q1):=hid_more fun b z=>by have:=e b;omega
   refine⟨⟨p,q1,h1.mono m (fun _ _ _ z=>z),.cons (.av (.d (p:=fun _=>0) (r.frz m fun b o y z=>?_) fun _=>rfl)) (rs.mono m fun _ _ z=>z) (fun b=>by simp),fun b=>by have:=e b;have:=h3 b;omega,fun b z=>h4 b (by have:=e b;omega)⟩,s⟩
   unfold hid
   rw[if_pos (by have:=e b;have:=h3 b;omega)]
   exact z
theorem RSl.frz{i:Nat}{a:AV}{p:Fp}{ρ:Sl}{σ:St}(r:RSl K G H σ ρ p)(hi:ρ[i]?=some (some a))(hp:∀ b o,0<p b→H b=some o→True) :
  ∃ (p1 p2:Fp) (v:V),(∀ b,p b=p1 b+p2 b)∧σ[i]?=some (some v)∧RA K G H v a p1∧∀ (G' H':Hp) (v':V) (a':AV) (p1' r':Fp),Same G G'→(∀ b o,0<p2 b→H b=some o→H' b=some o)→RA K G' H' v' a' p1'→(∀ b,r' b=p1' b+p2 b)→RSl K G' H' (σ.set i (some v')) (ρ.set i (some a')) r':=by
 induction r generalizing i with
 | nil _=>simp at hi
 | @no o σ ρ p r ih =>
  cases i with
  | zero=>simp at hi
  | succ i =>
   obtain⟨p1,p2,v,e1,e2,e3,e4⟩:=ih (by simpa using hi) (fun _ _ _ _=>trivial)
   exact⟨p1,p2,v,e1,by simpa using e2,e3,fun G' H' v' a' p1' r' m n ra z=>.no (e4 G' H' v' a' p1' r' m n ra z)⟩
 | @so v a0 σ ρ pa pb pr ra r e ih =>
  cases i with
  | zero =>
   have:a0=a:=by simpa using hi
   subst this
   exact⟨pa,pb,v,e,rfl,ra,fun G' H' v' a' p1' r' m n ra' z=>.so ra' (r.mono m n) z⟩
  | succ i =>
   obtain⟨p1,p2,w,e1,e2,e3,e4⟩:=ih (by simpa using hi) (fun _ _ _ _=>trivial)
   refine⟨p1,fun b=>pa b+p2 b,w,fun b=>by have:=e b;have:=e1 b;dsimp only;omega,by simpa using e2,e3,fun G' H' v' a' p1' r' m n ra' z=>?_⟩
   exact .so (ra.mono m fun b o y=>n b o (by dsimp only;omega)) (e4 G' H' v' a' p1' (fun b=>p1' b+p2 b) m (fun b o y=>n b o (by dsimp only;omega)) ra' fun _=>rfl) (fun b=>by have:=z b;dsimp only at this ⊢;omega)
theorem Zcu{α:Type}:∀ {l:List α} {i:Nat} {x:α},l[i]?=some x→l.set i x=l
 | [],_,_,h=>by simp at h
 | y::l,0,x,h=>by simp at h;simp[h]
 | y::l,i+1,x,h=>by simp at h;simp[Zcu h]
theorem SR.frz{i:Nat}{a:AV}(h:SR K H0 σ ρ ts as H)(hi:ρ[i]?=some (some a)):SR K H0 σ (ρ.set i (some (.d a.data))) ts as H:=by
 obtain⟨⟨p,q,h1,h2,h3,h4⟩,s⟩:=h
 obtain⟨p1,p2,w,e1,e2,e3,e4⟩:=h1.frz hi fun _ _ _ _=>trivial
 have m:Same (hid H p q) (hid H p2 q):=hid_more fun b z=>by have:=e1 b;omega
 have z:=e4 (hid H p2 q) H w (.d a.data) (fun _=>0) p2 m (fun _ _ _ z=>z) (.d (e3.frz m fun b o y z=>by
  unfold hid
  rw[if_pos (by have:=e1 b;have:=h3 b;omega)]
  exact z) fun _=>rfl) (fun b=>by simp)
 rw[Zcu e2] at z
 exact⟨⟨p2,q,z,h2.mono m (fun _ _ z=>z),fun b=>by have:=e1 b;have:=h3 b;omega,fun b z=>h4 b (by have:=e1 b;omega)⟩,s⟩
theorem RSl.len{p:Fp}(r:RSl K G H σ ρ p):σ.length=ρ.length:=by
 induction r with
 | nil _=>rfl
 | no _ ih=>simp[ih]
 | so _ _ _ ih=>simp[ih]
theorem RSl.set{i:Nat}{w:V}{a:AV}{p p1:Fp}(r:RSl K G H σ ρ p)(hi:i<ρ.length)(ra:RA K G H w a p1):∃ p2:Fp,(∀ b,p2 b≤p b)∧RSl K G H (σ.set i (some w)) (ρ.set i (some a)) (fun b=>p1 b+p2 b):=by
 induction r generalizing i with
 | nil _=>simp at hi
 | @no o σ ρ p r ih =>
  cases i with
  | zero=>exact⟨p,fun _=>Nat.le_refl _,.so ra r fun _=>rfl⟩
  | succ i =>
   obtain⟨p2,e1,e2⟩:=ih (by simpa using hi)
   exact⟨p2,e1,.no e2⟩
 | @so v a0 σ ρ pa pb pr ra0 r e ih =>
  cases i with
  | zero=>exact⟨pb,fun b=>by have:=e b;omega,.so ra r fun _=>rfl⟩
  | succ i =>
   obtain⟨p2,e1,e2⟩:=ih (by simpa using hi)
   exact⟨fun b=>pa b+p2 b,fun b=>by have:=e b;have:=e1 b;dsimp only;omega,.so ra0 e2 fun b=>by dsimp only;omega⟩
theorem SR.of_le{p p' q q':Fp}(s:Same H0 H)(h3:∀ b,p b+q b≤1)(h4:∀ b,0<p b+q b→H0 b=none)(hp:∀ b,p' b+q' b≤p b+q b)(h1:RSl K (hid H p q) H σ ρ p')(h2:RTs K (hid H p q) H ts as q'):SR K H0 σ ρ ts as H :=
 ⟨⟨p',q',h1.mono (hid_more fun b z=>by have:=hp b;omega) (fun _ _ _ z=>z),h2.mono (hid_more fun b z=>by have:=hp b;omega) (fun _ _ z=>z),fun b=>by have:=hp b;have:=h3 b;omega,fun b z=>h4 b (by have:=hp b;omega)⟩,s⟩
theorem SR.store{i:Nat}{a:AV}(h:SR K H0 σ ρ (v::ts) (.av a::as) H)(hi:i<ρ.length):SR K H0 (σ.set i (some v)) (ρ.set i (some a)) ts as H:=by
 obtain⟨⟨p,q,h1,h2,h3,h4⟩,s⟩:=h
 cases h2 with
 | @cons _ _ _ _ p1 q1 _ r rs e =>
  cases r with
  | av r =>
   obtain⟨p2,e1,e2⟩:=h1.set hi r
   refine SR.of_le (p:=p) (q:=q) (p':=fun b=>p1 b+p2 b) (q':=q1) s h3 h4 (fun b=>?_) e2 rs
   have:=e b;have:=e1 b;omega
theorem RSl.drop{i:Nat}{o:Option V}{p:Fp}(r:RSl K G H σ ρ p):∃ p2:Fp,(∀ b,p2 b≤p b)∧RSl K G H (σ.set i o) (ρ.set i none) p2:=by
 induction r generalizing i with
 | nil e=>exact⟨_,fun _=>Nat.le_refl _,by simpa using .nil e⟩
 | @no o σ ρ p r ih =>
  cases i with
  | zero=>exact⟨p,fun _=>Nat.le_refl _,.no r⟩
  | succ i=>obtain⟨p2,e1,e2⟩:=ih (i:=i);exact⟨p2,e1,.no e2⟩
 | @so v a0 σ ρ pa pb pr ra0 r e ih =>
  cases i with
  | zero=>exact⟨pb,fun b=>by have:=e b;omega,.no r⟩
  | succ i =>
   obtain⟨p2,e1,e2⟩:=ih (i:=i)
   exact⟨fun b=>pa b+p2 b,fun b=>by have:=e b;have:=e1 b;dsimp only;omega,.so ra0 e2 fun b=>rfl⟩
theorem SR.drop{i:Nat}(h:SR K H0 σ ρ ts as H):SR K H0 σ (ρ.set i none) ts as H:=by
 obtain⟨⟨p,q,h1,h2,h3,h4⟩,s⟩:=h
 by_cases hi:i<σ.length
 ·obtain⟨p2,e1,e2⟩:=h1.drop (i:=i) (o:=σ[i])
  rw[Zcu (List.getElem?_eq_getElem hi)] at e2
  exact SR.of_le (p:=p) (q:=q) (p':=p2) (q':=q) s h3 h4 (fun b=>by have:=e1 b;omega) e2 h2
 ·have:ρ.set i none=ρ:=List.set_eq_of_length_le (by rw[← h1.len];omega)
  rw[this]
  exact⟨⟨p,q,h1,h2,h3,h4⟩,s⟩
theorem RTs.swap{u w:V}{p:Fp}(r:RTs K G H (u::w::ts) (a::b::as) p):RTs K G H (w::u::ts) (b::a::as) p:=by
 cases r with
 | cons r1 rs e1=>cases rs with
  | cons r2 rs e2=>exact .cons r2 (.cons r1 rs fun _=>rfl) (fun c=>by have:=e1 c;have:=e2 c;omega)
theorem RTs.rot{u:V}:∀ {vs:List V} {bs:List TV} {p:Fp},vs.length=bs.length→RTs K G H (vs++u::ts) (bs++a::as) p→RTs K G H (u::(vs++ts)) (a::(bs++as)) p
 | [],[],_,_,r=>r
 | w::vs,b::bs,p,e,r=>by
  cases r with
  | cons r1 rs e1=>exact RTs.swap (.cons r1 (RTs.rot (by simpa using e) rs) e1)
theorem SR.rot{u:V}{vs:List V}{bs:List TV}(e:vs.length=bs.length)(h:SR K H0 σ ρ (vs++u::ts) (bs++a::as) H):SR K H0 σ ρ (u::(vs++ts)) (a::(bs++as)) H :=
 let ⟨⟨p,q,h1,h2,h3,h4⟩,s⟩:=h
 ⟨⟨p,q,h1,h2.rot e,h3,h4⟩,s⟩
theorem SR.swap{u w:V}(h:SR K H0 σ ρ (u::w::ts) (a::b::as) H):SR K H0 σ ρ (w::u::ts) (b::a::as) H :=
 let ⟨⟨p,q,h1,h2,h3,h4⟩,s⟩:=h
 ⟨⟨p,q,h1,h2.swap,h3,h4⟩,s⟩
theorem RTs.back{u:V}:∀ {vs:List V} {bs:List TV} {p:Fp},vs.length=bs.length→RTs K G H (u::(vs++ts)) (a::(bs++as)) p→RTs K G H (vs++u::ts) (bs++a::as) p
 | [],[],_,_,r=>r
 | w::vs,b::bs,p,e,r=>by
  have r':=RTs.swap r
  cases r' with
  | cons r1 rs e1=>exact .cons r1 (RTs.back (by simpa using e) rs) e1
theorem SR.back{u:V}{vs:List V}{bs:List TV}(e:vs.length=bs.length)(h:SR K H0 σ ρ (u::(vs++ts)) (a::(bs++as)) H):SR K H0 σ ρ (vs++u::ts) (bs++a::as) H :=
 let ⟨⟨p,q,h1,h2,h3,h4⟩,s⟩:=h
 ⟨⟨p,q,h1,h2.back e,h3,h4⟩,s⟩
inductive Stos:List TV→List AV→Prop
 | nil:Stos [] []
 | cons {a:TV} {x:AV} {as:List TV} {xs:List AV}:a.sto=some x→Stos as xs→Stos (a::as) (x::xs)
theorem SR.stos:∀ {vs:List V} {bs:List TV} {xs:List AV},Stos bs xs→vs.length=bs.length→∀ {us:List V} {cs:List TV},us.length=cs.length→SR K H0 σ ρ (us++(vs++ts)) (cs++(bs++as)) H→SR K H0 σ ρ (us++(vs++ts)) (cs++(xs.map TV.av++as)) H
 | [],_,_,.nil,_,_,_,_,h=>h
 | [],_,_,.cons _ _,e,_,_,_,_=>by simp at e
 | w::vs,_,_,.nil,e,_,_,_,_=>by simp at e
 | w::vs,b::bs,x::xs,.cons e1 es,e,us,cs,e2,h=>by
  have h1:SR K H0 σ ρ (us++w::(vs++ts)) (cs++b::(bs++as)) H:=h
  have h2:=(h1.rot e2).sto e1
  have h3:SR K H0 σ ρ ((w::us)++(vs++ts)) ((.av x::cs)++(bs++as)) H:=h2
  have h4:=SR.stos (us:=w::us) (cs:=.av x::cs) es (by simpa using e) (by simp[e2]) h3
  exact SR.back e2 h4
theorem RTs.avs{xs:List AV}:∀ {vs:List V} {bs:List AV} {p:Fp},vs.length=bs.length→RTs K G H (vs++ts) (bs.map TV.av++as) p→∃ p1 p2:Fp,(∀ b,p b=p1 b+p2 b)∧RAs K G H vs bs p1∧RTs K G H ts as p2
 | [],[],p,_,r=>⟨fun _=>0,p,fun b=>by simp,.nil fun _=>rfl,r⟩
 | w::vs,b::bs,p,e,r=>by
  cases r with
  | @cons _ _ _ _ pa pb _ r1 rs e1 =>
   obtain⟨p1,p2,e2,e3,e4⟩:=RTs.avs (xs:=xs) (by simpa using e) rs
   cases r1 with
   | av r1=>exact⟨fun c=>pa c+p1 c,p2,fun c=>by have:=e1 c;have:=e2 c;dsimp only;omega,.cons r1 e3 (fun _=>rfl),e4⟩
theorem ZcL{l:Addr}{o:HO}{p q p' q':Fp}(h:∀ b u,p b+q b=0→H b=some u→p' b+q' b=0∧b≠l):Same (hid H p q) (hid (upd H l o) p' q'):=fun b u e=>by
 unfold hid at e ⊢
 split at e
 ·rename_i z
  obtain⟨h1,h2⟩:=h b u z e
  rw[if_pos h1,Zaf h2]
  exact e
 ·cases e
theorem SR.new{l:Addr}{vs:List V}{xs:List AV}(h:SR K H0 σ ρ (vs++ts) (xs.map TV.av++as) H)(e:vs.length=xs.length)(hl:H l=none):SR K H0 σ ρ (.ref l::ts) (.av (.own xs)::as) (upd H l (.lst vs)):=by
 obtain⟨⟨p,q,h1,h2,h3,h4⟩,s⟩:=h
 have hL:=SR.lsts h1 h2
 obtain⟨p1,p2,e2,e3,e4⟩:=RTs.avs (xs:=xs) e h2
 have z:∀ b u,H b=some u→b≠l:=fun b u y w=>by subst w;rw[hl] at y;cases y
 have zl:p l+q l=0:=by
  rcases Nat.eq_zero_or_pos (p l+q l) with w|w
  ·exact w
  ·obtain⟨_,w,_⟩:=hL l w;rw[hl] at w;cases w
 have m:Same (hid H p q) (hid (upd H l (.lst vs)) p (fun b=>((if b=l then 1 else 0)+p1 b)+p2 b)):=ZcL fun b u y w=>by
  have:=z b u w
  refine⟨?_,this⟩
  have:=e2 b
  simp[*] at *
  omega
 have mo:∀ b u,H b=some u→upd H l (.lst vs) b=some u:=fun b u y=>by rw[Zaf (z b u y)];exact y
 have s2:Same H (upd H l (.lst vs)):=Za0 hl
 refine⟨⟨p,fun b=>((if b=l then 1 else 0)+p1 b)+p2 b,h1.mono m (fun b o _=>mo b o),.cons (.av (.own Zak (e3.mono m fun b o _=>mo b o) fun _=>rfl)) (e4.mono m s2) (fun _=>rfl),fun b=>?_,fun b w=>?_⟩,s.trans s2⟩
 ·have:=e2 b;have:=h3 b
  by_cases hb:b=l
  ·subst hb;simp;omega
  ·simp[hb];omega
 ·by_cases hb:b=l
  ·subst hb;exact s.free hl
  ·refine h4 b ?_;have:=e2 b;simp[hb] at w;omega
end
end VL
end
section
namespace VL
open PySem PySem.Spec L2
variable[Tabs]
mutual
noncomputable def AV.clean:AV→Bool
 | .d x=>noLst x
 | .own xs=>AV.cleans xs
 | .tup xs=>AV.cleans xs
 | .dic kvs=>noLsts (kvs.map Prod.snd)
 | .obj _=>false
noncomputable def AV.cleans:List AV→Bool
 | []=>true
 | x::xs=>x.clean && AV.cleans xs
end
noncomputable def Rs(K:W.Frag)(H H':Hp)(v:V)(a:AV):Prop:=Same H H'∧∃ p:Fp,(∀ b,p b≤1)∧(∀ b,0<p b→H b=none)∧RA K (hid H' p fun _=>0) H' v a p
section
variable{K:W.Frag}{G G' H H' H0:Hp}{σ:St}{ρ:Sl}{ts:List V}{as:List TV}{v x y:V}{a b:TV}
theorem RA.clB{p q p' q':Fp}(hl:∀ b,0<p' b+q' b→∃ o,H b=some o∧Mu o):(∀ {v:V} {a:AV} {r:Fp},RA K (hid H p q) H v a r→a.clean=true→RA K (hid H p' q') H v a r)∧∀ {vs:List V} {xs:List AV} {r:Fp},RAs K (hid H p q) H vs xs r→AV.cleans xs=true→RAs K (hid H p' q') H vs xs r:=by
 refine RA.ind (M:=fun v a r=>a.clean=true→RA K (hid H p' q') H v a r) (N:=fun vs xs r=>AV.cleans xs=true→RAs K (hid H p' q') H vs xs r) (fun r e hc=>.d (Rep.hid hl (by simpa [AV.clean] using hc) (r.same Zbu)) e) (fun h i e hc=>.own h (i (by simpa [AV.clean] using hc)) e) (fun h i hc=>.tup (Zh2 hl (Zbu _ _ h)) (i (by simpa [AV.clean] using hc))) (fun {a o kvs qq} h d e hc=>.dic h ?_ e) (fun _ _ _ hc=>by simp[AV.clean] at hc) (fun e _=>.nil e) fun i j e hc=>?_
 ·have hn:noLsts (kvs.map Prod.snd)=true:=by simpa [AV.clean] using hc
  have key:∀ {κ:Type} {ks:List (κ×V)} {ds:List PyData} {en:κ→PyData},Reps K (hid H p q) (ks.map Prod.snd) ds→kvs=(ks.map fun p=>en p.1).zip ds→Reps K (hid H p' q') (ks.map Prod.snd) ds:=fun r z=>by
   rw[z,List.map_snd_zip (by rw[List.length_map,← r.length,List.length_map];exact Nat.le_refl _)] at hn
   exact Reps.hid hl hn (r.same Zbu)
  rcases d with⟨ks,ds,e1,r,z⟩|⟨ks,ds,e1,r,z⟩|⟨ks,ds,n,e1,r,z⟩
  ·exact .inl ⟨ks,ds,e1,key r z,z⟩
  ·exact .inr (.inl ⟨ks,ds,e1,key (en:=fun k=>PyData.tuple (k.map keyD)) r z,z⟩)
  ·exact .inr (.inr ⟨ks,ds,n,e1,key (en:=fun k=>PyData.tuple [keyD k.1,.tuple (k.2.map keyD)]) r z,z⟩)
 ·simp only[AV.cleans,Bool.and_eq_true] at hc
  exact .cons (i hc.1) (j hc.2) e
theorem RA.cl{p q p' q':Fp}(hl:∀ b,0<p' b+q' b→∃ o,H b=some o∧Mu o){v:V}{a:AV}{r:Fp}(hc:a.clean=true)(h:RA K (hid H p q) H v a r):RA K (hid H p' q') H v a r:=(RA.clB hl).1 h hc
theorem RAs.cl{p q p' q':Fp}(hl:∀ b,0<p' b+q' b→∃ o,H b=some o∧Mu o){vs:List V}{xs:List AV}{r:Fp}(hc:AV.cleans xs=true)(h:RAs K (hid H p q) H vs xs r):RAs K (hid H p' q') H vs xs r:=(RA.clB hl).2 h hc
theorem SR.got{c:AV}(h:SR K H0 σ ρ ts as H)(r:Rs K H H' v c)(hc:c.clean=true):SR K H0 σ ρ (v::ts) (.av c::as) H':=by
 obtain⟨e,p0,n1,n2,ra⟩:=r
 obtain⟨⟨p,q,h1,h2,h3,h4⟩,s⟩:=h
 have hL:=SR.lsts h1 h2
 have z:∀ b,0<p b+q b→p0 b=0:=fun b w=>by
  obtain⟨vs,y,_⟩:=hL b w
  rcases Nat.eq_zero_or_pos (p0 b) with u|u
  ·exact u
  ·rw[n2 b u] at y;cases y
 have m:Same (hid H p q) (hid H' p (fun b=>p0 b+q b)):=fun b o w=>by
  unfold hid at w ⊢
  split at w
  ·rename_i y
   have:p0 b=0:=by
    rcases Nat.eq_zero_or_pos (p0 b) with u|u
    ·exact u
    ·rw[n2 b u] at w;cases w
   rw[if_pos (show p b+(p0 b+q b)=0 by omega)]
   exact e b o w
  ·cases w
 refine⟨⟨p,fun b=>p0 b+q b,h1.mono m (fun b o _=>e b o),.cons (.av (RA.cl (p':=p) (q':=fun b=>p0 b+q b) (fun b w=>?_) hc ra)) (h2.mono m e) (fun _=>rfl),fun b=>?_,fun b w=>?_⟩,s.trans e⟩
 ·rcases Nat.eq_zero_or_pos (p0 b) with u|u
  ·have w':0<p b+(p0 b+q b):=w
   obtain⟨vs,y,mu⟩:=hL b (by omega);exact⟨vs,e _ _ y,mu⟩
  ·exact ra.lst b u
 ·have:=h3 b;have:=n1 b;have:=z b
  show p b+(p0 b+q b)≤1
  omega
 ·rcases Nat.eq_zero_or_pos (p0 b) with u|u
  ·have w':0<p b+(p0 b+q b):=w
   exact h4 b (by omega)
  ·exact s.free (n2 b u)
theorem SR.gotB{c:AV}(h:SR K H0 σ ρ ts as H)(r:Rs K H H' v c):SR K H0 σ ρ (v::ts) (.bor c.data::as) H':=by
 obtain⟨e,p0,_,_,ra⟩:=r
 exact (h.ext e).pushB (ra.rep Zbu)
noncomputable def NoOwn(ρ:Sl):Prop:=∀ a∈ρ,∀ x,a=some x→(∃ d,x=.d d)∨∃ φ,x=.obj φ
theorem NoOwn.nil:NoOwn []:=fun _ h=>nomatch h
theorem NoOwn.no(h:NoOwn ρ):NoOwn (none::ρ):=fun b hb x z=>by
 rcases List.mem_cons.mp hb with e|e
 ·subst e;cases z
 ·exact h b e x z
theorem NoOwn.d{d:PyData}(h:NoOwn ρ):NoOwn (some (.d d)::ρ):=fun b hb x z=>by
 rcases List.mem_cons.mp hb with e|e
 ·subst e;cases z;exact .inl ⟨d,rfl⟩
 ·exact h b e x z
theorem NoOwn.o{φ:V→Hp→Prop}(h:NoOwn ρ):NoOwn (some (.obj φ)::ρ):=fun b hb x z=>by
 rcases List.mem_cons.mp hb with e|e
 ·subst e;cases z;exact .inr ⟨φ,rfl⟩
 ·exact h b e x z
theorem RSl.noOwn{p:Fp}(r:RSl K G H σ ρ p)(h:NoOwn ρ):∀ b,p b=0:=by
 induction r with
 | nil e=>exact e
 | no _ ih=>exact ih fun a ha=>h a (.tail _ ha)
 | so ra _ e ih =>
  rcases h _ (.head _) _ rfl with⟨d,rfl⟩|⟨φ,rfl⟩
  ·intro b
   have:=ih (fun a ha=>h a (.tail _ ha)) b
   cases ra with
   | d _ e2=>have:=e b;have:=e2 b;omega
  ·intro b
   have:=ih (fun a ha=>h a (.tail _ ha)) b
   cases ra with
   | obj _ _ e2=>have:=e b;have:=e2 b;omega
theorem RTs.stb{p:Fp}(r:RTs K G H ts as p)(h:Stb as):∀ b,p b=0:=by
 induction r with
 | nil e=>exact e
 | cons r _ e ih =>
  obtain⟨d,rfl⟩:=h _ (.head _)
  intro b
  have:=ih (fun a ha=>h a (.tail _ ha)) b
  cases r with
  | av ra=>cases ra with
   | d _ e2=>have:=e b;have:=e2 b;omega
noncomputable def Sto(ρ:Sl)(a:TV)(a':AV):Prop:=a.sto=some a'∨(∃ c,a=.av c∧a'=.d c.data)∨(NoOwn ρ∧(∃ x,a=.bor x)∧a'=.d a.data)
theorem SR.stoS{a':AV}(h:SR K H0 σ ρ (v::ts) (a::as) H)(hS:Stb as)(e:Sto ρ a a'):SR K H0 σ ρ (v::ts) (.av a'::as) H:=by
 rcases e with e|⟨c,rfl,rfl⟩|⟨n,⟨x,rfl⟩,rfl⟩
 ·exact h.sto e
 ·exact h.frzT
 ·have t:=h.top (a:=.bor x) fun _ z=>nomatch z
  obtain⟨⟨p,q,h1,h2,h3,h4⟩,s⟩:=h.pop
  have z1:=h1.noOwn n
  have z2:=h2.stb hS
  refine⟨⟨p,q,h1,.cons (.av (.d (p:=fun _=>0) (t.same fun b o w=>?_) fun _=>rfl)) h2 (fun b=>by simp),h3,h4⟩,s⟩
  unfold hid
  rw[if_pos (by have:=z1 b;have:=z2 b;omega)]
  exact w
end
noncomputable def ItOk(K:W.Frag)(J:It)(u:V)(z:PyData)(n:Nat)(f:Nat→PyData):Prop :=
 ∀ G H,Same G H→Rep K G u z→(∀ i,i<n→J.go i H∧∀ x H',J.yld i H x H'→Same H H'∧∀ G',Same G G'→(∀ b o,H' b=some o→H b=none→G' b=some o)→Rep K G' x (f i))∧∀ i,n≤i→J.stop i H
noncomputable def TV.frz:TV→TV
 | .av a=>.av (.d a.data)
 | .bor x=>.bor x
 | .raw v=>.raw v
section
variable(K:W.Frag)(E:FK)(X:Exc→Sl→Prop)
noncomputable def Iv(wi:TI)(ρ:Sl)(Q:Nat→(Nat→PyData)→TV→Prop):Prop :=
 ∀ (H0:Hp) (σ:St) (ts:List V) (as:List TV) (H:Hp) (R:It→Hp→Prop),SR K H0 σ ρ ts as H→XOk K E X H0 →
  (∀ n f h,Q n f h→∀ u J H',(∀ v,h≠.raw v)→SR K H0 σ ρ (u::ts) (h::as) H'→ItOk K J u h.data n f→R J H')→wi σ H R
noncomputable def Gv(g:TG)(x:PyData)(ρ:Sl)(P:Sl→Prop):Prop :=
 ∀ (H0:Hp) (σ:St) (ts:List V) (as:List TV) (H:Hp) (v:V) (Qg:St→Hp→Prop),SR K H0 σ ρ (v::ts) (.av (.d x)::as) H→(∀ ρ',P ρ'→∀ σ' H',SR K H0 σ' ρ' ts as H'→Qg σ' H')→g v σ H Qg
end
noncomputable def Wk(ρ ρ':Sl):Prop:=∀ (K:W.Frag) (H0:Hp) (σ:St) (ts:List V) (as:List TV) (H:Hp),SR K H0 σ ρ ts as H→SR K H0 σ ρ' ts as H
section
variable{K:W.Frag}{E:FK}{X:Exc→Sl→Prop}{ρ:Sl}{Q:TV→Prop}{DV:VEnds}{ta tb te:TE}{i j:Int}{n:Nat}{r:R2}{t u:TS}{a b:TV}
theorem Zex{Q':TV→Prop}(h:Ev K E X te ρ Q)(m:∀ a,Q a→Q' a):Ev K E X te ρ Q':=fun H0 σ ts as H QV s x q=>h H0 σ ts as H QV s x fun a qa=>q a (m a qa)
theorem SR.var{K:W.Frag}{H0 H:Hp}{σ:St}{ρ:Sl}{ts:List V}{as:List TV}{i:Nat}{a:AV}(s:SR K H0 σ ρ ts as H)(h:ρ[i]?=some (some a)):∃ v,σ[i]?=some (some v)∧(∀ x,a=.d x→SR K H0 σ ρ (v::ts) (.av (.d x)::as) H)∧SR K H0 σ ρ (v::ts) (.bor a.data::as) H:=by
 obtain⟨⟨p,q,h1,h2,h3,h4⟩,e⟩:=s
 obtain⟨p1,p2,v,e1,e2,e3,e4⟩:=h1.frz h fun _ _ _ _=>trivial
 refine⟨v,e2,fun x z=>?_,SR.pushB ⟨⟨p,q,h1,h2,h3,h4⟩,e⟩ (e3.rep Zbu)⟩
 subst z
 cases e3 with
 | d rp z=>exact⟨⟨p,q,h1,.cons (.av (.d (p:=fun _=>0) rp fun _=>rfl)) h2 (fun b=>by simp),h3,h4⟩,e⟩
theorem ZbD{x:PyData}(h:ρ[n]?=some (some (.d x)))(q:Q (.av (.d x))):Ev K E X (tVar n) ρ Q:=fun H0 σ ts as H QV s _ k=>by
 obtain⟨v,e1,e2,_⟩:=s.var h
 exact⟨v,e1,k _ q v H (e2 x rfl)⟩
theorem ZbS{a:AV}(h:ρ[n]?=some (some a))(q:Q (.bor a.data)):Ev K E X (tVar n) ρ Q:=fun H0 σ ts as H QV s _ k=>by
 obtain⟨v,e1,_,e2⟩:=s.var h
 exact⟨v,e1,k _ q v H e2⟩
theorem ZmC(q:Q (.av (.d (.int i)))):Ev K E X (tC (.int i)) ρ Q:=fun H0 σ ts as H QV s _ k=>k _ q _ H (s.int i)
theorem Zn3{c:Bool}(q:Q (.av (.d (.bool c)))):Ev K E X (tC (.bl c)) ρ Q:=fun H0 σ ts as H QV s _ k=>k _ q _ H (s.bl c)
theorem ZmD(q:Q (.av (.d .none))):Ev K E X (tC .non) ρ Q:=fun H0 σ ts as H QV s _ k=>k _ q _ H (s.push fun _=>.non)
theorem Zn4{c:String}(q:Q (.raw (.ty c))):Ev K E X (tC (.ty c)) ρ Q:=fun H0 σ ts as H QV s _ k=>k _ q _ H s.pushR
theorem ZmE{c:Addr}(q:Q (.raw (.ref c))):Ev K E X (tC (.ref c)) ρ Q:=fun H0 σ ts as H QV s _ k=>k _ q _ H s.pushR
theorem Zn5(h:Ev K E X ta ρ fun a=>Ev K E X tb ρ fun b=>Op K E X r a b Q):Ev K E X (tOp r ta tb) ρ Q:=fun H0 σ ts as H QV s x k =>
 h H0 σ ts as H _ s x fun a qa v H' s'=>qa H0 σ _ _ H' _ s' x fun b qb w H2 s2=>qb H0 σ ρ ts as H2 v w QV s2 x k
theorem ints2{H0 H:Hp}{σ:St}{ρ:Sl}{ts:List V}{as:List TV}{x y:V}(s:SR K H0 σ ρ (y::x::ts) (.av (.d (.int j))::.av (.d (.int i))::as) H):x=.int i∧y=.int j∧SR K H0 σ ρ ts as H :=
 ⟨s.pop.top_d.int_inv,s.top_d.int_inv,s.pop.pop⟩
theorem ZmF{g:Int→Int→Int}(q:Q (.av (.d (.int (g i j))))):Op K E X (rI0 fun i j=>.int (g i j)) (.av (.d (.int i))) (.av (.d (.int j))) Q:=fun H0 σ ρ ts as H x y QV s _ k=>by
 obtain⟨rfl,rfl,s'⟩:=ints2 s
 exact⟨i,j,rfl,rfl,k _ q _ H (s'.int _)⟩
theorem Zn6{g:Int→Int→Bool}(q:Q (.av (.d (.bool (g i j))))):Op K E X (rI0 fun i j=>.bl (g i j)) (.av (.d (.int i))) (.av (.d (.int j))) Q:=fun H0 σ ρ ts as H x y QV s _ k=>by
 obtain⟨rfl,rfl,s'⟩:=ints2 s
 exact⟨i,j,rfl,rfl,k _ q _ H (s'.bl _)⟩
theorem op_i{C:Int→Int→Prop}{g:Int→Int→Int}(c:C i j)(q:Q (.av (.d (.int (g i j))))):Op K E X (rI C fun i j=>.int (g i j)) (.av (.d (.int i))) (.av (.d (.int j))) Q:=fun H0 σ ρ ts as H x y QV s _ k=>by
 obtain⟨rfl,rfl,s'⟩:=ints2 s
 exact⟨i,j,rfl,rfl,c,k _ q _ H (s'.int _)⟩
theorem ZmG(q:Q (.av (.d (.bool (decide (i=j)))))):Op K E X rEq (.av (.d (.int i))) (.av (.d (.int j))) Q:=fun H0 σ ρ ts as H x y QV s _ k=>by
 obtain⟨rfl,rfl,s'⟩:=ints2 s
 exact Zmt (k _ q _ H (s'.bl _))
theorem ZmH(q:Q (.av (.d (.bool (!decide (i=j)))))):Op K E X rNe (.av (.d (.int i))) (.av (.d (.int j))) Q:=fun H0 σ ρ ts as H x y QV s _ k=>by
 obtain⟨rfl,rfl,s'⟩:=ints2 s
 exact Zmu (k _ q _ H (s'.bl _))
theorem Rep.bl_inv{H:Hp}{v:V}{c:Bool}(h:Rep K H v (.bool c)):v=.bl c:=by cases h;rfl
noncomputable def NR(a:TV):Prop:=∀ v,a≠.raw v
theorem NR.av{c:AV}:NR (.av c):=fun _ z=>nomatch z
theorem NR.bor{c:PyData}:NR (.bor c):=fun _ z=>nomatch z
theorem ZmI{α:Type}[DecidableEq α]{f:α→PyData}{m:Nat}{c d:α}(F:Enc f m)(ha:a.data=f c)(hb:b.data=f d)(q:Q (.av (.d (.bool (decide (c=d))))))(na:NR a:=by first|exact NR.av|exact NR.bor)(nb:NR b:=by first|exact NR.av|exact NR.bor)(hm:m≤32:=by decide):Op K E X (rEqD K) a b Q:=fun H0 σ ρ ts as H x y QV s _ k =>
 Zmw F (ha▸s.pop.top na) (hb▸s.top nb) (k _ q _ H (s.pop.pop.bl _)) hm
theorem Reps.atI{H:Hp}{vs:List V}{ds:List PyData}{k:Int}{y:PyData}(h:Reps K H vs ds)(e:atI ds k=some y):∃ v,L2.atI vs k=some v∧Rep K H v y:=by
 unfold L2.atI at e ⊢
 rw[h.length]
 cases z:ixN ds.length k with
 | none=>rw[z] at e;cases e
 | some j =>
  rw[z] at e
  obtain⟨v,e1,e2⟩:=h.get (i:=j) (d:=y) e
  exact⟨v,e1,e2⟩
noncomputable def Item(a:TV)(y:PyData)(c:TV):Prop:=(a=.av (.d a.data)∧c=.av (.d y))∨(noLst y=true∧c=.av (.d y))∨c=.bor y
theorem SR.item{H0 H:Hp}{σ:St}{ρ:Sl}{ts:List V}{as:List TV}{x:V}{a c:TV}{y:PyData}(s:SR K H0 σ ρ (x::ts) (a::as) H)(na:NR a)(it:Item a y c)(P:V→Prop)(h:∀ G,Rep K G x a.data→Same G H→∃ v,P v∧Rep K G v y):∃ v,P v∧SR K H0 σ ρ (v::ts) (c::as) H:=by
 rcases it with⟨e,rfl⟩|⟨hy,rfl⟩|rfl
 ·rw[e] at s
  obtain⟨⟨p,q,h1,h2,h3,h4⟩,e'⟩:=s
  cases h2 with
  | cons r rs z=>cases r with
   | av r=>cases r with
    | d rp w =>
     obtain⟨v,e1,e2⟩:=h _ rp Zbu
     exact⟨v,e1,⟨p,q,h1,.cons (.av (.d e2 w)) rs z,h3,h4⟩,e'⟩
 ·obtain⟨v,e1,e2⟩:=h _ (s.top na) (.refl H)
  exact⟨v,e1,s.pop.pushF hy e2⟩
 ·obtain⟨v,e1,e2⟩:=h _ (s.top na) (.refl H)
  exact⟨v,e1,s.pop.pushB e2⟩
theorem Item.d{x y:PyData}:Item (.av (.d x)) y (.av (.d y)):=.inl ⟨rfl,rfl⟩
theorem Item.flat{y:PyData}(h:noLst y=true):Item a y (.av (.d y)):=.inr (.inl ⟨h,rfl⟩)
theorem Item.br{y:PyData}:Item a y (.bor y):=.inr (.inr rfl)
theorem ZmJ{ds:List PyData}{y:PyData}{c:TV}{k:Int}(ha:a.data=.list ds)(e:atI ds k=some y)(it:Item a y c)(q:Q c)(na:NR a:=by first|exact NR.av|exact NR.bor):Op K E X (rIxL K) a (.av (.d (.int k))) Q:=fun H0 σ ρ ts as H x w QV s _ kk=>by
 have e2:=s.top_d.int_inv
 subst e2
 obtain⟨v,⟨p,xs,e3,e4,e5⟩,s'⟩:=s.pop.item na it (fun v=>∃ p xs,x=.ref p∧SqL K H p xs∧L2.atI xs k=some v) fun G rp sm=>by
  rw[ha] at rp
  obtain⟨p,xs,rfl,h1,h2⟩:=rp.list_inv
  obtain⟨v,h3,h4⟩:=Reps.atI h2 e
  exact⟨v,⟨p,xs,rfl,sm.seq h1,h3⟩,h4⟩
 exact⟨p,xs,k,v,e3,rfl,e4,e5,kk _ q _ H s'⟩
theorem ZmK{ds:List PyData}{y:PyData}{c:TV}{k:Int}(ha:a.data=.tuple ds)(e:atI ds k=some y)(it:Item a y c)(q:Q c)(na:NR a:=by first|exact NR.av|exact NR.bor):Op K E X (rIxT K) a (.av (.d (.int k))) Q:=fun H0 σ ρ ts as H x w QV s _ kk=>by
 have e2:=s.top_d.int_inv
 subst e2
 obtain⟨v,⟨p,xs,e3,e4,e5⟩,s'⟩:=s.pop.item na it (fun v=>∃ p xs,x=.ref p∧SqT K H p xs∧L2.atI xs k=some v) fun G rp sm=>by
  rw[ha] at rp
  obtain⟨p,xs,rfl,h1,h2⟩:=rp.tuple_inv
  obtain⟨v,h3,h4⟩:=Reps.atI h2 e
  exact⟨v,⟨p,xs,rfl,sm.tupS h1,h3⟩,h4⟩
 exact⟨p,xs,k,v,e3,rfl,e4,e5,kk _ q _ H s'⟩
theorem Zkr{P:List TV→Prop}(q:P []):Ea K E X tNil ρ P:=fun H0 σ ts as H QV s _ k=>k [] q [] H s rfl
theorem Zk9{A:TA}{P:List TV→Prop}(h:Ev K E X ta ρ fun a=>Ea K E X A ρ fun bs=>P (a::bs)):Ea K E X (tCons ta A) ρ P:=fun H0 σ ts as H QV s x k =>
 h H0 σ ts as H _ s x fun a qa v H' s'=>qa H0 σ _ _ H' _ s' x fun bs qb vs H2 s2 hl=>k (a::bs) qb (v::vs) H2 (s2.rot hl) (by simp[hl])
theorem Zn7{r:List V→Hp→VK→Prop}{A:TA}(h:Ea K E X A ρ fun bs=>Bi K E X r bs Q):Ev K E X (tCB r A) ρ Q:=fun H0 σ ts as H QV s x k =>
 h H0 σ ts as H _ s x fun bs qb vs H2 s2 hl=>qb H0 σ ρ ts as H2 vs QV s2 hl x k
theorem Stos.len{bs:List TV}{xs:List AV}(h:Stos bs xs):bs.length=xs.length:=by
 induction h with
 | nil=>rfl
 | cons _ _ ih=>simp[ih]
theorem Zft{A:TA}(h:Ea K E X A ρ fun bs=>∃ xs,Stos bs xs∧bs.length≤1000∧Q (.av (.own xs))):Ev K E X (tLst A) ρ Q:=fun H0 σ ts as H QV s x k =>
 h H0 σ ts as H _ s x fun bs ⟨xs,hs,hz,q⟩ vs H2 s2 hl=>⟨Nat.le_of_lt (small1000 (by omega)),fun p hp=>k _ q _ _ (SR.new (SR.stos (us:=[]) (cs:=[]) hs hl rfl s2) (by rw[hl,hs.len]) hp)⟩
theorem SR.newT{H0 H:Hp}{σ:St}{ρ:Sl}{ts:List V}{as:List TV}{l:Addr}{vs:List V}{xs:List AV}(h:SR K H0 σ ρ (vs++ts) (xs.map TV.av++as) H)(e:vs.length=xs.length)(hl:H l=none):SR K H0 σ ρ (.ref l::ts) (.av (.d (.tuple (AV.datas xs)))::as) (upd H l (.tup vs)):=by
 obtain⟨⟨p,q,h1,h2,h3,h4⟩,s⟩:=h
 have hL:=SR.lsts h1 h2
 obtain⟨p1,p2,e2,e3,e4⟩:=RTs.avs (xs:=xs) e h2
 have s2:Same H (upd H l (.tup vs)):=Za0 hl
 have zl:p l+q l=0:=by
  rcases Nat.eq_zero_or_pos (p l+q l) with w|w
  ·exact w
  ·obtain⟨_,w,_⟩:=hL l w;rw[hl] at w;cases w
 have m:Same (hid H p q) (hid (upd H l (.tup vs)) p p2):=(hid_more (p':=p) (q':=p2) fun b z=>by have:=e2 b;omega).trans (Zc2 s2)
 refine⟨⟨p,p2,h1.mono m (fun b o _=>s2 b o),.cons (.av (.d (p:=fun _=>0) (.tup ?_ (e3.frz m fun b o y z=>?_)) fun _=>rfl)) (e4.mono m s2) (fun b=>by simp),fun b=>by have:=e2 b;have:=h3 b;omega,fun b z=>h4 b (by have:=e2 b;omega)⟩,s.trans s2⟩
 ·unfold hid;rw[if_pos (by have:=e2 l;omega)];exact Zak
 ·unfold hid;rw[if_pos (by have:=e2 b;have:=h3 b;omega)];exact s2 b o z
theorem Zc3{A:TA}(h:Ea K E X A ρ fun bs=>∃ xs,Stos bs xs∧bs.length≤1000∧Q (.av (.d (.tuple (AV.datas xs))))):Ev K E X (tTup A) ρ Q:=fun H0 σ ts as H QV s x k =>
 h H0 σ ts as H _ s x fun bs ⟨xs,hs,hz,q⟩ vs H2 s2 hl=>⟨Nat.le_of_lt (small1000 (by omega)),fun p hp=>k _ q _ _ (SR.newT (SR.stos (us:=[]) (cs:=[]) hs hl rfl s2) (by rw[hl,hs.len]) hp)⟩
theorem Zh3{P:Bool→Prop}(h:Ev K E X te ρ fun a=>∃ c,a=.av (.d (.bool c))∧P c):Tv K E X (tTest te) ρ P:=fun H0 σ ts as H QV s x k =>
 h H0 σ ts as H _ s x fun a ⟨c,e,p⟩ v H' s'=>by subst e;exact⟨c,Rep.bl_inv s'.top_d,k c p H' s'.pop⟩
theorem tv_b{P:Bool→Prop}(h:Ev K E X te ρ fun a=>∃ c,a=.av (.d (.bool c))∧P c):Tv K E X (tB te) ρ P:=Zh3 h
theorem ZmL{ca cb:TT}{P:Bool→Prop}(h:Tv K E X ca ρ fun c=>if c=true then Tv K E X cb ρ P else P false):Tv K E X (tAnd ca cb) ρ P:=fun H0 σ ts as H QV s x k =>
 h H0 σ ts as H _ s x fun c qc H' s'=>by
  cases c with
  | true=>rw[if_pos rfl] at qc ⊢;exact qc H0 σ ts as H' QV s' x k
  | false=>rw[if_neg Bool.false_ne_true] at qc ⊢;exact k _ qc H' s'
theorem Zn8{ca cb:TT}{P:Bool→Prop}(h:Tv K E X ca ρ fun c=>if c=true then P true else Tv K E X cb ρ P):Tv K E X (tOr ca cb) ρ P:=fun H0 σ ts as H QV s x k =>
 h H0 σ ts as H _ s x fun c qc H' s'=>by
  cases c with
  | true=>rw[if_pos rfl] at qc ⊢;exact k _ qc H' s'
  | false=>rw[if_neg Bool.false_ne_true] at qc ⊢;exact qc H0 σ ts as H' QV s' x k
theorem ZmM{ca:TT}{P:Bool→Prop}(h:Tv K E X ca ρ fun c=>P (!c)):Tv K E X (tNot ca) ρ P:=fun H0 σ ts as H QV s x k =>
 h H0 σ ts as H _ s x fun c qc H' s'=>k _ qc H' s'
theorem ZgC{P:Bool→Prop}(q:P true):Tv K E X tAll ρ P:=fun H0 σ ts as H QV s x k=>k _ q H s
theorem ZmN(h:Ev K E X ta ρ fun a=>∃ c,a=.av (.d (.bool c))∧if c=true then Ev K E X tb ρ Q else Q (.av (.d (.bool false)))):Ev K E X (tAndV ta tb) ρ Q:=fun H0 σ ts as H QV s x k =>
 h H0 σ ts as H _ s x fun a ⟨c,e,p⟩ v H' s'=>by
  subst e
  refine⟨c,Rep.bl_inv s'.top_d,?_⟩
  cases c with
  | true=>rw[if_pos rfl] at p ⊢;exact p H0 σ ts as H' QV s'.pop x k
  | false=>rw[if_neg Bool.false_ne_true] at p ⊢;exact k _ p _ H' (s'.pop.bl false)
theorem ZmO(h:Ev K E X ta ρ fun a=>∃ c,a=.av (.d (.bool c))∧Q (.av (.d (.bool (!c))))):Ev K E X (tNotV ta) ρ Q:=fun H0 σ ts as H QV s x k =>
 h H0 σ ts as H _ s x fun a ⟨c,e,p⟩ v H' s'=>by
  subst e
  exact⟨c,Rep.bl_inv s'.top_d,k _ p _ H' (s'.pop.bl _)⟩
theorem Zn9{c:TT}(h:Tv K E X c ρ fun b=>if b=true then Ev K E X ta ρ Q else Ev K E X tb ρ Q):Ev K E X (tIf c ta tb) ρ Q:=fun H0 σ ts as H QV s x k =>
 h H0 σ ts as H _ s x fun c qc H' s'=>by
  cases c with
  | true=>rw[if_pos rfl] at qc ⊢;exact qc H0 σ ts as H' QV s' x k
  | false=>rw[if_neg Bool.false_ne_true] at qc ⊢;exact qc H0 σ ts as H' QV s' x k
theorem ZmP(h:Sv K E X t ρ { DV with nx:=fun ρ'=>Sv K E X u ρ' DV }):Sv K E X (tSeq t u) ρ DV:=fun H0 σ ts as H D st s x f =>
 h H0 σ ts as H { D with nx:=u D } st s x ⟨fun ρ' q σ' H' s'=>q H0 σ' ts as H' D st s' x f,f.bk,f.ct,f.rt⟩
theorem Zla(h:DV.nx ρ):Sv K E X tNext ρ DV:=fun H0 σ ts as H D st s x f=>f.nx ρ h σ H s
theorem Zlb(h:Ev K E X te ρ fun _=>DV.nx ρ):Sv K E X (tDrop te) ρ DV:=fun H0 σ ts as H D st s x f =>
 h H0 σ ts as H _ s x fun a q v H' s'=>f.nx ρ q σ H' s'.pop
theorem ZmQ(h:Ev K E X te ρ DV.rt):Sv K E X (tRet te) ρ DV:=fun H0 σ ts as H D st s x f =>
 h H0 σ ts as H _ s x fun a q v H' s'=>f.rt a q v σ ρ H' s'
theorem ZmR{c:TT}(h:Tv K E X c ρ fun b=>if b=true then Sv K E X t ρ DV else Sv K E X u ρ DV):Sv K E X (tIfS c t u) ρ DV:=fun H0 σ ts as H D st s x f =>
 h H0 σ ts as H _ s x fun c qc H' s'=>by
  cases c with
  | true=>rw[if_pos rfl] at qc ⊢;exact qc H0 σ ts as H' D st s' x f
  | false=>rw[if_neg Bool.false_ne_true] at qc ⊢;exact qc H0 σ ts as H' D st s' x f
theorem Zh4{a:AV}(i:Nat)(hi:ρ[i]?=some (some a))(h:Sv K E X t (ρ.set i (some (.d a.data))) DV):Sv K E X t ρ DV:=fun H0 σ ts as H D st s x f=>h H0 σ ts as H D st (s.frz hi) x f
theorem Zcc(h:Ev K E X te ρ fun a=>∃ a',Sto ρ a a'∧DV.nx (ρ.set n (some a')))(hn:n<ρ.length:=by simp):Sv K E X (tAsg te (gName n)) ρ DV:=fun H0 σ ts as H D st s x f =>
 h H0 σ ts as H _ s x fun a ⟨a',e,q⟩ v H' s'=>f.nx _ q _ H' ((s'.stoS st e).store hn)
theorem Zbn{x:PyData}{P:Sl→Prop}(h:P (ρ.set n (some (.d x))))(hn:n<ρ.length:=by simp):Gv K (gName n) x ρ P:=fun H0 σ ts as H v Qg s k=>k _ h _ H (s.store hn)
end
end VL
end
section
namespace VL
open PySem PySem.Spec L2
variable[Tabs]
theorem small6{n:Nat}(h:n≤1000000):n<sizeLine:=Nat.lt_of_le_of_lt h (by decide)
section
variable{K:W.Frag}{G G' H H' H0:Hp}{σ:St}{ρ:Sl}{ts:List V}{as:List TV}{v x y:V}{a b:TV}
theorem RAs.len:∀ {vs:List V} {xs:List AV} {p:Fp},RAs K G H vs xs p→vs.length=xs.length
 | _,_,_,.nil _=>rfl
 | _,_,_,.cons _ rs _=>by simp[RAs.len rs]
theorem RAs.snoc{w:V}{c:AV}{q:Fp}(r:RA K G H w c q):∀ {vs:List V} {xs:List AV} {p:Fp},RAs K G H vs xs p→RAs K G H (vs++[w]) (xs++[c]) (fun b=>p b+q b)
 | _,_,_,.nil e=>.cons r (.nil (p:=fun _=>0) fun _=>rfl) (fun b=>by have:=e b;simp;omega)
 | _,_,_,.cons (p:=p1) (q:=q1) r1 rs e=>.cons r1 (RAs.snoc r rs) (fun b=>by have:=e b;show _+q b=p1 b+(q1 b+q b);omega)
theorem RAs.set{w:V}{c:AV}{q:Fp}(r:RA K G H w c q):∀ {vs:List V} {xs:List AV} {p:Fp} (j:Nat),RAs K G H vs xs p→∃ p':Fp,(∀ b,p' b≤p b+q b)∧RAs K G H (vs.set j w) (xs.set j c) p'
 | _,_,p,j,.nil e=>⟨p,fun b=>by omega,.nil e⟩
 | _,_,_,0,.cons (q:=q1) r1 rs e=>⟨fun b=>q b+q1 b,fun b=>by have:=e b;dsimp only;omega,.cons r rs fun _=>rfl⟩
 | _,_,_,j+1,.cons (p:=p1) r1 rs e=>by
  obtain⟨p',h1,h2⟩:=RAs.set r j rs
  exact⟨fun b=>p1 b+p' b,fun b=>by have:=e b;have:=h1 b;dsimp only;omega,.cons r1 h2 fun _=>rfl⟩
theorem RAs.rev:∀ {vs:List V} {xs:List AV} {p:Fp},RAs K G H vs xs p→∃ p':Fp,(∀ b,p' b=p b)∧RAs K G H vs.reverse xs.reverse p'
 | _,_,p,.nil e=>⟨p,fun _=>rfl,.nil e⟩
 | _,_,_,.cons (p:=p1) r1 rs e=>by
  obtain⟨p',h1,h2⟩:=RAs.rev rs
  refine⟨fun b=>p' b+p1 b,fun b=>by have:=e b;have:=h1 b;dsimp only;omega,?_⟩
  rw[List.reverse_cons,List.reverse_cons]
  exact RAs.snoc r1 h2
theorem SR.writeE{i:Nat}{xs xs':List AV}{c:AV}(h:SR K H0 σ ρ (v::ts) (.av c::as) H)(hS:Stb as)(hi:ρ[i]?=some (some (.own xs))) :
  ∃ l vs,σ[i]?=some (some (.ref l))∧H l=some (.lst vs)∧vs.length=xs.length∧∀ vs',(∀ G H' p q,(∀ b o,0<q b→H b=some o→H' b=some o)→RAs K G H' vs xs p→RA K G H' v c q→∃ p':Fp,(∀ b,p' b≤p b+q b)∧RAs K G H' vs' xs' p')→SR K H0 σ (ρ.set i (some (.own xs'))) ts as (upd H l (.lst vs')):=by
 obtain⟨⟨p,q,h1,h2,h3,h4⟩,s⟩:=h
 obtain⟨p1,p2,w,e1,e2,e3,e4⟩:=h1.frz hi fun _ _ _ _=>trivial
 cases h2 with
 | @cons _ _ _ _ q1 q2 _ r rs eq =>
  cases r with
  | av r =>
  cases e3 with
  | @own l vs _ p3 _ hl hr ep =>
   refine⟨l,vs,e2,hl,hr.len,fun vs' hw=>?_⟩
   have hpl:p1 l=1+p3 l:=by have:=ep l;simpa using this
   have ne:∀ b u,p b+q b=0→H b=some u→b≠l:=fun b u z _ y=>by subst y;have:=e1 b;omega
   have m0:Same (hid H p q) (hid (upd H l (.lst vs')) p q):=ZcL fun b u z w=>⟨z,ne b u z w⟩
   have k1:∀ b o,0<p3 b→H b=some o→upd H l (.lst vs') b=some o:=fun b o z w=>by
    rw[Zaf (fun y=>by subst y;have:=h3 b;have:=e1 b;omega)];exact w
   have k2:∀ b o,0<q b→H b=some o→upd H l (.lst vs') b=some o:=fun b o z w=>by
    rw[Zaf (fun y=>by subst y;have:=h3 b;have:=e1 b;omega)];exact w
   have k3:∀ b o,0<p2 b→H b=some o→upd H l (.lst vs') b=some o:=fun b o z w=>by
    rw[Zaf (fun y=>by subst y;have:=h3 b;have:=e1 b;omega)];exact w
   obtain⟨p',l1,l2⟩:=hw _ _ _ _ (fun b o z=>k2 b o (by have:=eq b;omega)) (hr.mono m0 k1) (r.mono m0 fun b o z=>k2 b o (by have:=eq b;omega))
   have z:=e4 (hid (upd H l (.lst vs')) p q) (upd H l (.lst vs')) (.ref l) (.own xs') (fun b=>(if b=l then 1 else 0)+p' b) (fun b=>((if b=l then 1 else 0)+p' b)+p2 b) m0 k3 (.own Zak l2 fun _=>rfl) (fun _=>rfl)
   rw[Zcu e2] at z
   have s2:Same H0 (upd H l (.lst vs')):=s.updF (h4 l (by have:=e1 l;omega))
   refine SR.of_le (p:=p) (q:=q) (p':=fun b=>((if b=l then 1 else 0)+p' b)+p2 b) (q':=q2) s2 h3 h4 (fun b=>?_) z (rs.monoS m0 hS fun b o y=>k2 b o (by have:=eq b;omega))
   have:=l1 b;have:=ep b;have:=e1 b;have:=eq b
   show ((if b=l then 1 else 0)+p' b)+p2 b+q2 b≤p b+q b
   omega
theorem SR.write{i:Nat}{xs xs':List AV}{c:AV}(h:SR K H0 σ ρ (v::ts) (.av c::as) H)(hS:Stb as)(hi:ρ[i]?=some (some (.own xs))) :
  ∃ l vs,σ[i]?=some (some (.ref l))∧H l=some (.lst vs)∧vs.length=xs.length∧∀ vs',(∀ G H p q,RAs K G H vs xs p→RA K G H v c q→∃ p':Fp,(∀ b,p' b≤p b+q b)∧RAs K G H vs' xs' p')→SR K H0 σ (ρ.set i (some (.own xs'))) ts as (upd H l (.lst vs')):=by
 obtain⟨l,vs,e1,e2,e3,e4⟩:=h.writeE (xs':=xs') hS hi
 exact⟨l,vs,e1,e2,e3,fun vs' hw=>e4 vs' fun G H' p q _=>hw G H' p q⟩
theorem RSl.take{m:Nat}{c:AV}{p:Fp}(r:RSl K G H σ ρ p)(hm:ρ[m]?=some (some c)):∃ (p1 p2:Fp) (w:V),(∀ b,p b=p1 b+p2 b)∧σ[m]?=some (some w)∧RA K G H w c p1∧RSl K G H σ (ρ.set m none) p2:=by
 induction r generalizing m with
 | nil _=>simp at hm
 | @no o σ ρ p r ih =>
  cases m with
  | zero=>simp at hm
  | succ m =>
   obtain⟨p1,p2,w,e1,e2,e3,e4⟩:=ih (by simpa using hm)
   exact⟨p1,p2,w,e1,by simpa using e2,e3,.no e4⟩
 | @so v a0 σ ρ pa pb pr ra r e ih =>
  cases m with
  | zero =>
   have:a0=c:=by simpa using hm
   subst this
   exact⟨pa,pb,v,e,rfl,ra,.no r⟩
  | succ m =>
   obtain⟨p1,p2,w,e1,e2,e3,e4⟩:=ih (by simpa using hm)
   exact⟨p1,fun b=>pa b+p2 b,w,fun b=>by have:=e b;have:=e1 b;dsimp only;omega,by simpa using e2,e3,.so ra e4 fun _=>rfl⟩
theorem SR.take{m:Nat}{c:AV}(h:SR K H0 σ ρ ts as H)(hm:ρ[m]?=some (some c)):∃ w,σ[m]?=some (some w)∧SR K H0 σ (ρ.set m none) (w::ts) (.av c::as) H:=by
 obtain⟨⟨p,q,h1,h2,h3,h4⟩,s⟩:=h
 obtain⟨p1,p2,w,e1,e2,e3,e4⟩:=h1.take hm
 refine⟨w,e2,SR.of_le (p:=p) (q:=q) (p':=p2) (q':=fun b=>p1 b+q b) s h3 h4 (fun b=>?_) e4 (.cons (.av e3) h2 fun _=>rfl)⟩
 have:=e1 b
 show p2 b+(p1 b+q b)≤_
 omega
theorem SR.snocT{D:Addr}{ys:List AV}{c:AV}(h:SR K H0 σ ρ (v::.ref D::ts) (.av c::.av (.own ys)::as) H)(hS:Stb as):∃ vs,H D=some (.lst vs)∧vs.length=ys.length∧SR K H0 σ ρ (.ref D::ts) (.av (.own (ys++[c]))::as) (upd H D (.lst (vs++[v]))):=by
 obtain⟨⟨p,q,h1,h2,h3,h4⟩,s⟩:=h
 cases h2 with
 | @cons _ _ _ _ qa qb _ r rs eq =>
 cases r with
 | av r =>
 cases rs with
 | @cons _ _ _ _ qc qd _ r2 rs eq2 =>
 cases r2 with
 | av r2 =>
 cases r2 with
 | @own l vs _ p3 _ hl hr ep =>
  refine⟨vs,hl,hr.len,?_⟩
  have hpl:qc D=1+p3 D:=by have:=ep D;simpa using this
  have ne:∀ b u,p b+q b=0→H b=some u→b≠D:=fun b u z _ y=>by subst y;have:=eq b;have:=eq2 b;omega
  have m0:Same (hid H p q) (hid (upd H D (.lst (vs++[v]))) p q):=ZcL fun b u z w=>⟨z,ne b u z w⟩
  have k1:∀ b o,0<p b+qa b+qd b+p3 b→H b=some o→upd H D (.lst (vs++[v])) b=some o:=fun b o z w=>by
   rw[Zaf (fun y=>by subst y;have:=h3 b;have:=eq b;have:=eq2 b;omega)];exact w
  have s2:Same H0 (upd H D (.lst (vs++[v]))):=s.updF (h4 D (by have:=eq D;have:=eq2 D;omega))
  refine⟨⟨p,fun b=>((if b=D then 1 else 0)+(p3 b+qa b))+qd b,?_,.cons (.av (.own Zak (RAs.snoc (r.mono ?_ fun b o z=>k1 b o (by omega)) (hr.mono ?_ fun b o z=>k1 b o (by omega))) fun _=>rfl)) (rs.monoS ?_ hS fun b o z=>k1 b o (by omega)) (fun _=>rfl),?_,?_⟩,s2⟩
  all_goals first
   | (refine h1.mono (m0.trans (hid_more fun b z=>?_)) fun b o z=>k1 b o (by omega))
   | (refine m0.trans (hid_more fun b z=>?_))
   | intro b
  all_goals (try (intro z))
  all_goals (have e5:=eq b;have e6:=eq2 b;have e7:=ep b;have e8:=h3 b)
  all_goals first
   | (show p b+(((if b=D then 1 else 0)+(p3 b+qa b))+qd b)=0;omega)
   | (show p b+(((if b=D then 1 else 0)+(p3 b+qa b))+qd b)≤1;omega)
   | (refine h4 b ?_;have z':0<p b+(((if b=D then 1 else 0)+(p3 b+qa b))+qd b):=z;omega)
end
section
variable{K:W.Frag}{E:FK}{X:Exc→Sl→Prop}{ρ:Sl}{Q:TV→Prop}{DV:VEnds}{ta tb te:TE}{i j:Int}{n:Nat}{r:R2}{t u:TS}{a b:TV}
theorem Zbq{xs:List AV}(hi:ρ[n]?=some (some (.own xs)))(h:Ev K E X te ρ fun a=>∃ a',a.sto=some a'∧xs.length≤1000000∧DV.nx (ρ.set n (some (.own (xs++[a']))))):Sv K E X (tDrop (tBM K "list" rAppend (tVar n) (tCons te tNil))) ρ DV:=fun H0 σ ts as H D st s x f=>by
 obtain⟨l,vs,e1,e2,e3,_⟩:=(s.push (x:=.none) fun _=>.non).write (xs':=xs) st hi
 refine⟨.ref l,e1,ZhV e2 (h H0 σ ts as H _ s x fun a ⟨a',e,hz,q⟩ v H' s'=>?_)⟩
 obtain⟨l',vs',e1',e2',e3',e4'⟩:=(s'.sto e).write (xs':=xs++[a']) st hi
 rw[e1] at e1'
 cases e1'
 refine⟨l,vs',v,rfl,rfl,e2',small6 (by omega),f.nx _ q _ _ (e4' _ fun G H p q r1 r2=>⟨_,fun _=>Nat.le_refl _,RAs.snoc r2 r1⟩)⟩
theorem Zho{xs:List AV}(hi:ρ[n]?=some (some (.own xs)))(h:DV.nx (ρ.set n (some (.own xs.reverse)))):Sv K E X (tDrop (tBM0 K "list" rReverse (tVar n))) ρ DV:=fun H0 σ ts as H D st s x f=>by
 obtain⟨l,vs,e1,e2,e3,e4⟩:=(s.push (x:=.none) fun _=>.non).write (xs':=xs.reverse) st hi
 refine⟨.ref l,e1,ZhV e2 ⟨l,vs,rfl,rfl,e2,f.nx _ h _ _ (e4 _ fun G H p q r1 r2=>?_)⟩⟩
 obtain⟨p',h1,h2⟩:=r1.rev
 exact⟨p',fun b=>by have:=h1 b;omega,h2⟩
theorem Zlc{m:Nat}{xs ys:List AV}(hm:ρ[m]?=some (some (.own ys)))(hi:ρ[n]?=some (some (.own xs)))(hne:n≠m)(hz:xs.length≤1000000)(q:DV.nx ((ρ.set m none).set n (some (.own (xs++[.own ys]))))):Sv K E X (tDrop (tBM K "list" rAppend (tVar n) (tCons (tVar m) tNil))) ρ DV:=fun H0 σ ts as H D st s x f=>by
 obtain⟨w,g1,s'⟩:=s.take hm
 obtain⟨l,vs,e1,e2,e3,e4⟩:=s'.write (i:=n) (xs:=xs) (xs':=xs++[.own ys]) st (by rw[List.getElem?_set_ne (Ne.symm hne)];exact hi)
 exact⟨.ref l,e1,ZhV e2 ⟨w,g1,l,vs,w,rfl,rfl,e2,small6 (by omega),f.nx _ q _ _ (e4 _ fun G H p q r1 r2=>⟨_,fun _=>Nat.le_refl _,RAs.snoc r2 r1⟩)⟩⟩
theorem Zh5{xs:List AV}(hm:ρ[n]?=some (some (.own xs)))(q:DV.rt (.av (.own xs))):Sv K E X (tRet (tVar n)) ρ DV:=fun H0 σ ts as H D st s x f=>by
 obtain⟨w,g1,s'⟩:=s.take hm
 exact⟨w,g1,f.rt _ q _ _ _ _ s'⟩
end
end VL
end
section
namespace VL
open PySem PySem.Spec L2
variable[Tabs]
section
variable{K:W.Frag}{G G' H H' H0:Hp}{σ:St}{ρ:Sl}{ts:List V}{as:List TV}{v x y:V}{a b:TV}
theorem SR.turn{J:It}{u:V}{z:PyData}{n i:Nat}{f:Nat→PyData}(s:SR K H0 σ ρ (u::ts) (.av (.d z)::as) H)(ok:ItOk K J u z n f)(hi:i<n):J.go i H∧∀ x H',J.yld i H x H'→SR K H0 σ ρ (x::u::ts) (.av (.d (f i))::.av (.d z)::as) H':=by
 have s0:=s
 obtain⟨⟨p,q,h1,h2,h3,h4⟩,e⟩:=s
 have hL:=SR.lsts h1 h2
 cases h2 with
 | @cons _ _ _ _ q1 q2 _ r rs eq =>
 cases r with
 | av r =>
 cases r with
 | d rp w =>
  obtain⟨g1,_⟩:=ok _ H Zbu rp
  obtain⟨g2,g3⟩:=g1 i hi
  refine⟨g2,fun x H' y=>?_⟩
  obtain⟨e1,e2⟩:=g3 x H' y
  have s1:=s0.ext e1
  obtain⟨⟨p',q',k1,k2,k3,k4⟩,e'⟩:=s1
  have m:Same (hid H p q) (hid H' p q):=Zc2 e1
  refine⟨⟨p,q,h1.mono m (fun b o _=>e1 b o),.cons (.av (.d (p:=fun _=>0) (e2 (hid H' p q) m fun b o hb hn=>?_) fun _=>rfl)) (.cons (.av (.d (rp.same m) w)) (rs.mono m e1) eq) (fun b=>by simp),h3,h4⟩,e'⟩
  unfold hid
  rw[if_pos]
  ·exact hb
  ·rcases Nat.eq_zero_or_pos (p b+q b) with c|c
   ·exact c
   ·obtain⟨vs,y,mu⟩:=hL b c;rw[hn] at y;cases y
theorem SR.halt{J:It}{u:V}{z:PyData}{n i:Nat}{f:Nat→PyData}(s:SR K H0 σ ρ (u::ts) (a::as) H)(na:NR a)(ez:a.data=z)(ok:ItOk K J u z n f)(hi:n≤i):J.stop i H:=(ok H H (.refl H) (ez▸s.top na)).2 i hi
end
section
variable{K:W.Frag}{E:FK}{X:Exc→Sl→Prop}{ρ:Sl}{Q:TV→Prop}{DV:VEnds}{ta tb te:TE}{i j:Int}{n:Nat}{r:R2}{t u:TS}{a b:TV}
theorem SR.frzV{H0 H:Hp}{σ:St}{ts:List V}{as:List TV}{v:V}(s:SR K H0 σ ρ (v::ts) (a::as) H):SR K H0 σ ρ (v::ts) (a.frz::as) H:=by
 cases a with
 | av a=>exact s.frzT
 | bor x=>exact s
 | raw v=>exact s
theorem TV.frz_data(a:TV):a.frz.data=a.data:=by cases a<;>rfl
theorem TV.frz_nr(h:NR a):NR a.frz:=by
 cases a with
 | av a=>exact NR.av
 | bor x=>exact NR.bor
 | raw v=>exact absurd rfl (h v)
theorem ZgD{lo:Int}{m:Nat}:ItOk K (Itr lo m) .non .none m fun i=>.int (lo+i):=fun G H sm rp =>
 ⟨fun i hi=>⟨hi,fun x H' ⟨e1,e2⟩=>by subst e1 e2;exact⟨.refl _,fun _ _ _=>.int _⟩⟩,fun i hi=>hi⟩
theorem Zld{H0 H:Hp}{σ:St}{ts:List V}{as:List TV}{vs:List V}(s:SR K H0 σ ρ (vs++ts) ([.av (.d (.int i))]++as) H)(hl:vs.length=1):vs=[.int i]∧SR K H0 σ ρ ts as H:=by
 match vs,hl with
 | [v],_ =>
  have e:=SR.top_d (v:=v) s
  rw[e.int_inv]
  exact⟨rfl,SR.pop (v:=v) s⟩
theorem ZgE{H0 H:Hp}{σ:St}{ts:List V}{as:List TV}{vs:List V}(s:SR K H0 σ ρ (vs++ts) ([.av (.d (.int i)),.av (.d (.int j))]++as) H)(hl:vs.length=2):vs=[.int i,.int j]∧SR K H0 σ ρ ts as H:=by
 match vs,hl with
 | [v,w],_ =>
  have s':SR K H0 σ ρ (v::w::ts) (.av (.d (.int i))::.av (.d (.int j))::as) H:=s
  have e1:=s'.top_d.int_inv
  have e2:=s'.pop.top_d.int_inv
  subst e1 e2
  exact⟨rfl,s'.pop.pop⟩
theorem Zh6{A:TA}{P:Nat→(Nat→PyData)→TV→Prop}(h:Ea K E X A ρ fun bs=>∃ j,bs=[.av (.d (.int j))]∧(-(2 ^ 62)≤j∧j<2 ^ 62)∧P j.toNat (fun i=>.int (0+(i:Int))) (.av (.d .none))):Iv K E X (iRng1 A) ρ P:=fun H0 σ ts as H R s x k =>
 h H0 σ ts as H _ s x fun bs ⟨j,e,hj,q⟩ vs H' s' hl=>by
  subst e
  obtain⟨rfl,s2⟩:=Zld s' hl
  exact⟨j,rfl,hj.1,hj.2,k _ _ _ q .non _ H' (fun _ z=>nomatch z) (s2.push fun _=>.non) ZgD⟩
theorem Zle{A:TA}{P:Nat→(Nat→PyData)→TV→Prop}(h:Ea K E X A ρ fun bs=>∃ i j,bs=[.av (.d (.int i)),.av (.d (.int j))]∧(-(2 ^ 62)≤i∧i<2 ^ 62∧-(2 ^ 62)≤j∧j<2 ^ 62)∧P (j-i).toNat (fun k=>.int (i+(k:Int))) (.av (.d .none))):Iv K E X (iRng2 A) ρ P:=fun H0 σ ts as H R s x k =>
 h H0 σ ts as H _ s x fun bs ⟨i,j,e,hj,q⟩ vs H' s' hl=>by
  subst e
  obtain⟨rfl,s2⟩:=ZgE s' hl
  exact⟨i,j,rfl,hj,k _ _ _ q .non _ H' (fun _ z=>nomatch z) (s2.push fun _=>.non) ZgD⟩
theorem Zfu{wi:TI}{g:TG}{tb:TS}(h:Iv K E X wi ρ fun n f hd=>(∃ z,hd=.av (.d z))∧∃ Iv:Nat→Sl→Prop,Iv 0 ρ∧(∀ i ρ',i<n→Iv i ρ'→Gv K g (f i) ρ' fun ρ''=>Sv K E X tb ρ'' { nx:=Iv (i+1),ct:=Iv (i+1),bk:=DV.nx,rt:=DV.rt })∧∀ ρ',Iv n ρ'→DV.nx ρ'):Sv K E X (tFor wi g tb) ρ DV:=fun H0 σ ts as H D st s x f =>
 h H0 σ ts as H _ s x fun n ft hd ⟨⟨z,ez⟩,Iw,i0,turn,fin⟩ u J H' _ s' ok=>by
  subst ez
  refine⟨fun i m σ' H'=>m=n-i∧i≤n∧∃ ρ',Iw i ρ'∧SR K H0 σ' ρ' (u::ts) (.av (.d z)::as) H',⟨n,by simp,Nat.zero_le _,ρ,i0,s'⟩,?_⟩
  rintro i m σ1 H1 ⟨rfl,hi,ρ1,i1,s1⟩
  by_cases hlt:i<n
  ·obtain⟨g1,g2⟩:=s1.turn ok hlt
   refine .inr ⟨g1,fun σ2 H2=>∃ ρ',Iw (i+1) ρ'∧SR K H0 σ2 ρ' (u::ts) (.av (.d z)::as) H2,fun σ2 H2 p=>⟨n-(i+1),by omega,rfl,hlt,p⟩,fun y H2 hy=>?_⟩
   refine turn i ρ1 hlt i1 H0 σ1 _ _ H2 y _ (g2 y H2 hy) fun ρ2 sv σ3 H3 s3=>?_
   exact sv H0 σ3 _ _ H3 _ (Stb.cons st) s3 x ⟨fun ρ4 q σ4 H4 s4=>⟨ρ4,q,s4⟩,fun ρ4 q σ4 H4 s4=>f.nx ρ4 q σ4 H4 s4.pop,fun ρ4 q σ4 H4 s4=>⟨ρ4,q,s4⟩,fun a q v σ4 ρ4 H4 s4=>f.rt a q v σ4 ρ4 H4 s4.swap.pop⟩
  ·have e:i=n:=by omega
   subst e
   exact .inl ⟨s1.halt NR.av rfl ok (Nat.le_refl _),f.nx _ (fin _ i1) _ _ s1.pop⟩
theorem ZjD{tc:TT}{tb:TS}(Iv:Nat→Sl→Prop)(m0:Nat)(i0:Iv m0 ρ)
  (h:∀ m ρ',Iv m ρ'→Tv K E X tc ρ' fun b=>if b=true then Sv K E X tb ρ' { nx:=fun ρ2=>∃ m',m' < m∧Iv m' ρ2,ct:=fun ρ2=>∃ m',m' < m∧Iv m' ρ2,bk:=DV.nx,rt:=DV.rt } else DV.nx ρ'):Sv K E X (tWhile tc tb) ρ DV:=fun H0 σ ts as H D st s x f=>by
 refine⟨fun m σ' H'=>∃ ρ',Iv m ρ'∧SR K H0 σ' ρ' ts as H',⟨m0,ρ,i0,s⟩,?_⟩
 rintro m σ1 H1 ⟨ρ1,i1,s1⟩
 refine h m ρ1 i1 H0 σ1 ts as H1 _ s1 x fun b q H2 s2=>?_
 cases b with
 | true =>
  rw[if_pos rfl] at q ⊢
  exact⟨fun σ' H'=>∃ m',m' < m∧∃ ρ',Iv m' ρ'∧SR K H0 σ' ρ' ts as H',fun σ' H' ⟨m',l,z⟩=>⟨m',l,z⟩,q H0 σ1 ts as H2 _ st s2 x ⟨fun ρ4 ⟨m',l,z⟩ σ4 H4 s4=>⟨m',l,ρ4,z,s4⟩,fun ρ4 q σ4 H4 s4=>f.nx ρ4 q σ4 H4 s4,fun ρ4 ⟨m',l,z⟩ σ4 H4 s4=>⟨m',l,ρ4,z,s4⟩,f.rt⟩⟩
 | false =>
  rw[if_neg Bool.false_ne_true] at q ⊢
  exact f.nx _ q _ _ s2
noncomputable def AV.sh:AV→AV
 | .obj φ=>.obj φ
 | .d x=>.d x
 | .own xs=>.d (.list (AV.datas xs))
 | .tup xs=>.d (.tuple (AV.datas xs))
 | .dic kvs=>.d (.dict kvs)
noncomputable def capV(cap:List (Option Nat))(ρ:Sl):Sl:=cap.map fun o=>match o with
 | none=>none
 | some j=>(ρ[j]?).join.map AV.sh
theorem SR.at{H0 H:Hp}{σ:St}{ts:List V}{as:List TV}{j:Nat}{c:AV}(s:SR K H0 σ ρ ts as H)(h:ρ[j]?=some (some c)):∃ v,σ[j]?=some (some v)∧Rep K H v c.data:=by
 obtain⟨v,e,_,s'⟩:=s.var h
 exact⟨v,e,s'.top (a:=.bor c.data) NR.bor⟩
theorem SR.atO{H0 H:Hp}{σ:St}{ts:List V}{as:List TV}{j:Nat}{φ:V→Hp→Prop}(s:SR K H0 σ ρ ts as H)(h:ρ[j]?=some (some (.obj φ))):∃ v,σ[j]?=some (some v)∧φ v H∧∀ G1 G2:Hp,Same G1 G2→φ v G1→φ v G2:=by
 obtain⟨⟨p,q,h1,h2,h3,h4⟩,e⟩:=s
 obtain⟨p1,p2,v,e1,e2,e3,e4⟩:=h1.frz h fun _ _ _ _=>trivial
 cases e3 with
 | obj f m z=>exact⟨v,e2,m _ _ Zbu f,m⟩
theorem RSl.cap{H0 H G H2:Hp}{σ:St}{ts:List V}{as:List TV}(s:SR K H0 σ ρ ts as H)(m:Same H G):∀ cap:List (Option Nat),RSl K G H2 (capS cap σ) (capV cap ρ) fun _=>0
 | []=>.nil fun _=>rfl
 | none::cap=>.no (RSl.cap s m cap)
 | some j::cap=>by
  cases e:(ρ[j]?).join with
  | none =>
   have:capV (some j::cap) ρ=none::capV cap ρ:=by simp[capV,e]
   rw[this]
   exact .no (RSl.cap s m cap)
  | some c =>
   have ej:ρ[j]?=some (some c):=by
    cases z:ρ[j]? with
    | none=>rw[z] at e;cases e
    | some o=>rw[z] at e;cases o with
     | none=>cases e
     | some c'=>cases e;rfl
   have ec:capV (some j::cap) ρ=some c.sh::capV cap ρ:=by simp[capV,e]
   rw[ec]
   cases c with
   | obj φ =>
    obtain⟨v,e1,e2,e3⟩:=s.atO ej
    have:capS (some j::cap) σ=some v::capS cap σ:=by simp[capS,e1]
    rw[this]
    exact .so (.obj (e3 _ _ m e2) e3 fun _=>rfl) (RSl.cap s m cap) fun _=>rfl
   | _ =>
    obtain⟨v,e1,e2⟩:=s.at ej
    have:capS (some j::cap) σ=some v::capS cap σ:=by simp[capS,e1]
    rw[this]
    exact .so (.d (e2.same m) fun _=>rfl) (RSl.cap s m cap) fun _=>rfl
noncomputable def Got(c:AV)(a:TV):Prop:=(c.clean=true∧a=.av c)∨a=.bor c.data
theorem Got.own{c:AV}(h:c.clean=true):Got c (.av c):=.inl ⟨h,rfl⟩
theorem Got.br{c:AV}:Got c (.bor c.data):=.inr rfl
theorem SR.gotG{H0 H H':Hp}{σ:St}{ts:List V}{as:List TV}{v:V}{c:AV}(h:SR K H0 σ ρ ts as H)(r:Rs K H H' v c)(g:Got c a):SR K H0 σ ρ (v::ts) (a::as) H':=by
 rcases g with⟨hc,rfl⟩|rfl
 ·exact h.got r hc
 ·exact h.gotB r
theorem SR.rs{H0 H:Hp}{σ:St}{ts:List V}{as:List TV}{v:V}{c:AV}(h:SR K H0 σ ρ (v::ts) (.av c::as) H):Rs K H0 H v c:=by
 obtain⟨⟨p,q,h1,h2,h3,h4⟩,e⟩:=h
 cases h2 with
 | @cons _ _ _ _ q1 q2 _ r rs eq =>
 cases r with
 | av r=>exact⟨e,q1,fun b=>by have:=eq b;have:=h3 b;omega,fun b z=>h4 b (by have:=eq b;omega),r.mono (hid_more fun b z=>by have:=eq b;simp;omega) fun _ _ _ z=>z⟩
theorem Zh7{cap:List (Option Nat)}{wi:TI}{g:TG}{tt:TT}(h:Iv K E X wi ρ fun n f _=>n≤1000000∧∃ y:Nat→Option AV,(∀ i,i<n→Gv K g (f i) (capV cap ρ) fun ρ'=>Wk ρ' (capV cap ρ)∧Tv K E NE tt ρ' fun b=>if b=true then Ev K E NE te ρ' fun a=>∃ c,y i=some c∧a.sto=some c else y i=none) ∧
  ∃ a,Got (.own ((List.range n).filterMap y)) a∧Q a):Ev K E X (tComp cap wi g tt te) ρ Q:=fun H0 σ ts as H QV s x k =>
 h H0 σ ts as H _ s x fun n f hd ⟨hn,y,turn,a,hg,q⟩ u J H1 nr s1 ok D hD=>by
  have xo:XOk K E NE H1:=XOk.ne (x.t.same s1.same)
  have sD:Same H1 (upd H1 D (.lst [])):=Za0 hD
  have st:Stb [TV.av (.d hd.data)]:=Stb.cons Stb.nil
  have start:SR K H1 (capS cap σ) (capV cap ρ) [.ref D,u] [.av (.own []),.av (.d hd.data)] (upd H1 D (.lst [])):=by
   have m:Same H1 (hid (upd H1 D (.lst [])) (fun _=>0) fun b=>if b=D then 1 else 0):=fun b o e=>by
    have hb:b≠D:=Zam e hD
    unfold hid
    simp[hb]
    rw[Zaf hb]
    exact e
   refine⟨⟨fun _=>0,fun b=>if b=D then 1 else 0,RSl.cap s1 m cap,.cons (.av (.own Zak (.nil (p:=fun _=>0) fun _=>rfl) (q:=fun b=>if b=D then 1 else 0) fun b=>by simp)) (.cons (.av (.d (p:=fun _=>0) ((s1.top nr).same m) fun _=>rfl)) (.nil (p:=fun _=>0) fun _=>rfl) (r:=fun _=>0) fun b=>by simp) (fun b=>by simp),fun b=>by simp;split<;>omega,fun b z=>?_⟩,sD⟩
   by_cases hb:b=D
   ·rw[hb];exact hD
   ·simp[hb] at z
  refine⟨fun i m σ' H'=>m=n-i∧i≤n∧SR K H1 σ' (capV cap ρ) [.ref D,u] [.av (.own ((List.range i).filterMap y)),.av (.d hd.data)] H',⟨n,by simp,Nat.zero_le _,start⟩,?_⟩
  rintro i m σ2 H2 ⟨rfl,hi,s2⟩
  by_cases hlt:i<n
  ·obtain⟨g1,g2⟩:=s2.swap.turn ok hlt
   refine .inr ⟨g1,fun σ' H'=>SR K H1 σ' (capV cap ρ) [.ref D,u] [.av (.own ((List.range (i+1)).filterMap y)),.av (.d hd.data)] H',fun σ' H' p=>⟨n-(i+1),by omega,rfl,hlt,p⟩,fun w H3 hw=>?_⟩
   have s3:=g2 w H3 hw
   refine turn i hlt H1 σ2 _ _ H3 w _ s3 fun ρ4 ⟨wk,tv⟩ σ4 H4 s4=>?_
   refine tv H1 σ4 _ _ H4 _ s4 xo fun b qb H5 s5=>?_
   cases b with
   | true =>
    rw[if_pos rfl] at qb ⊢
    refine qb H1 σ4 _ _ H5 _ s5 xo fun a ⟨c,e1,e2⟩ z H6 s6=>?_
    have s7:=(s6.sto e2)
    have s8:SR K H1 σ4 ρ4 [z,.ref D,u] [.av c,.av (.own ((List.range i).filterMap y)),.av (.d hd.data)] H6:=by
     obtain⟨⟨p,q,k1,k2,k3,k4⟩,e⟩:=s7
     refine⟨⟨p,q,k1,?_,k3,k4⟩,e⟩
     cases k2 with
     | cons r rs eq=>exact .cons r rs.swap eq
    obtain⟨vs,h1,h2,h3⟩:=s8.snocT st
    refine⟨vs,h1,small6 ?_,?_⟩
    ·rw[h2]
     exact Nat.le_trans (List.length_filterMap_le _ _) (by rw[List.length_range];omega)
    ·have:=wk _ _ _ _ _ _ h3
     rw[List.range_succ,List.filterMap_append]
     simpa [e1] using this
   | false =>
    rw[if_neg Bool.false_ne_true] at qb ⊢
    have:=wk _ _ _ _ _ _ s5.swap
    rw[List.range_succ,List.filterMap_append]
    simpa [qb] using this
  ·have e:i=n:=by omega
   subst e
   exact .inl ⟨s2.swap.halt NR.av rfl ok (Nat.le_refl _),k _ q _ _ (s1.pop.gotG s2.rs hg)⟩
noncomputable def spV(K:W.Frag)(S:List PyData→AV→Prop)(SX:List PyData→Exc→Prop):Sp:=fun vs H Q E=>TabsIn H∧∃ ds,Reps K H vs ds ∧
 ((∃ c,S ds c∧∀ v H',Rs K H H' v c→Q v H')∨∃ e,SX ds e∧∀ c d H',Same H H'→XRep K H' e c d→E c d H')
theorem SR.reps{H0 H:Hp}{σ:St}:∀ {vs:List V} {bs:List TV} {ts:List V} {as:List TV},(∀ b∈bs,NR b)→vs.length=bs.length→SR K H0 σ ρ (vs++ts) (bs++as) H→Reps K H vs (bs.map TV.data)∧SR K H0 σ ρ ts as H
 | [],[],_,_,_,_,s=>⟨.nil,s⟩
 | v::vs,b::bs,ts,as,hb,e,s=>by
  have s':SR K H0 σ ρ (v::(vs++ts)) (b::(bs++as)) H:=s
  obtain⟨h1,h2⟩:=SR.reps (fun c hc=>hb c (.tail _ hc)) (by simpa using e) s'.pop
  exact⟨.cons (s'.top (hb b (.head _))) h1,h2⟩
inductive NRs:List TV→Prop
 | nil:NRs []
 | cons {b:TV} {bs:List TV}:NR b→NRs bs→NRs (b::bs)
theorem NRs.all{bs:List TV}(h:NRs bs):∀ b∈bs,NR b:=by
 induction h with
 | nil=>exact fun _ z=>nomatch z
 | cons h _ ih=>intro b hb;rcases List.mem_cons.mp hb with e|e;exact e▸h;exact ih b e
noncomputable def dvD:V→Option PyData
 | .int i=>some (.int i)
 | .bl b=>some (.bool b)
 | .str x=>some (.str x)
 | .non=>some .none
 | _=>none
theorem Zlf{v:V}{d:PyData}{H:Hp}(h:dvD v=some d):Rep K H v d:=by
 cases v<;>simp[dvD] at h<;>subst h<;>constructor
inductive DvDs:List V→List PyData→Prop
 | nil:DvDs [] []
 | cons {v:V} {d:PyData} {vs:List V} {ds:List PyData}:dvD v=some d→DvDs vs ds→DvDs (v::vs) (d::ds)
theorem DvDs.reps{vs:List V}{ds:List PyData}{H:Hp}(h:DvDs vs ds):Reps K H vs ds:=by
 induction h with
 | nil=>exact .nil
 | cons h _ ih=>exact .cons (Zlf h) ih
noncomputable def Res(a:TV)(c:AV):Prop:=a=.av c∨(NR a∧c=.d a.data)
theorem SR.start{N:List Str}{vs:List V}{ds:List PyData}{H:Hp}(h:Reps K H vs ds):SR K H (start N vs) (ds.map (fun d=>some (.d d))++List.replicate (N.length-ds.length) none) [] [] H:=by
 have hl:=h.length
 refine⟨⟨fun _=>0,fun _=>0,?_,.nil fun _=>rfl,fun _=>by simp,fun b z=>by simp at z⟩,.refl H⟩
 have hid0:hid H (fun _=>0) (fun _=>0)=H:=by funext b;simp[hid]
 rw[hid0]
 unfold L2.start
 rw[hl]
 clear hl
 generalize N.length-ds.length=m
 induction h using Reps.rec (motive_1:=fun _ _ _=>True) with
 | nil =>
  simp only[List.map_nil,List.nil_append]
  induction m with
  | zero=>exact .nil fun _=>rfl
  | succ m ih=>exact .no ih
 | cons r rs _ ih=>exact .so (.d r fun _=>rfl) ih fun _=>rfl
 | _=>trivial
theorem Zlg{t:TS}{N:List Str}{S:List PyData→AV→Prop}{SX:List PyData→Exc→Prop}{vs:List V}{H:Hp}{Qv:VK}{E:XK}(sp:spV K S SX vs H Qv E)
  (h:∀ ds,(∀ c,S ds c→Sv K (toF E) NE t (ds.map (fun d=>some (.d d))++List.replicate (N.length-ds.length) none) { nx:=fun _=>c=.d .none,rt:=fun a=>Res a c }) ∧
   ∀ e,SX ds e→Sv K (toF E) (fun e' _=>e'=e) t (ds.map (fun d=>some (.d d))++List.replicate (N.length-ds.length) none) { nx:=fun _=>False,rt:=fun _=>False }) :
  t { nx:=fun _ H'=>Qv .non H',rt:=Qv } (L2.start N vs) H:=by
 obtain⟨tb,ds,rp,q⟩:=sp
 rcases q with⟨c,h1,h2⟩|⟨e,h1,h2⟩
 ·refine (h ds).1 c h1 H _ [] [] H _ Stb.nil (SR.start rp) (XOk.ne tb) ⟨fun ρ q σ' H' s'=>?_,fun _ z=>z.elim,fun _ z=>z.elim,fun a q v σ' ρ' H' s'=>?_⟩
  ·rw[show c=.d .none from q] at h2
   exact h2 _ _ (SR.rs (v:=.non) (s'.push fun _=>.non))
  ·rcases q with rfl|⟨nr,rfl⟩
   ·exact h2 _ _ s'.rs
   ·refine h2 _ _ ⟨s'.same,fun _=>0,fun _=>by simp,fun b z=>by simp at z,.d ?_ fun _=>rfl⟩
    have hid0:hid H' (fun _=>0) (fun _=>0)=H':=by funext b;simp[hid]
    rw[hid0]
    exact s'.top nr
 ·exact (h ds).2 e h1 H _ [] [] H _ Stb.nil (SR.start rp) ⟨fun e' ρ' z c d σ' H2 sm xr=>by subst z;exact h2 c d H2 sm.same xr,tb⟩ ⟨fun _ z=>z.elim,fun _ z=>z.elim,fun _ z=>z.elim,fun _ z=>z.elim⟩
end
end VL
end
section
namespace L2
open PySem PySem.Spec PyProof.Rows
section
variable{X:Cx}{K:W.Frag}
noncomputable def rCatS(K:W.Frag):R2:=fun x y H Q=>∃ l b xs zs,x=.ref l∧y=.ref b∧SqL K H l xs∧SqL K H b zs∧xs.length+zs.length≤sizeLine∧∀ p,H p=none→Q (.ref p) (upd H p (.lst (xs++zs)))
theorem Zlh(hK:X.K=K):OpR X (binaryOp .Add) (rCatS K):=by
 subst hK
 intro pins s σ H x y v u Q I rx ry h
 obtain⟨l,b,xs,zs,rfl,rfl,hx,hy,hz,q⟩:=h
 cases rx
 cases ry
 obtain⟨i1,r1,p1,_⟩:=I.list hx
 obtain⟨i2,r2,p2,_⟩:=I.list hy
 obtain⟨⟨c1,d1,t1,s1⟩,n1,g1,e1,f1,k1⟩:=p1
 obtain⟨⟨c2,d2,t2,s2⟩,n2,g2,e2,f2,k2⟩:=p2
 cases e1;cases f1;cases k1;cases e2;cases f2;cases k2
 have l1:=r1.length
 have l2:=r2.length
 have ea:i1.toArray++i2.toArray=(i1++i2).toArray:=by simp
 refine concat_meets ⟨_,g1,rfl⟩ ⟨_,g2,rfl⟩ noFill_list_add seq_list_add PySem.F.slot_list_add PySem.F.entry_list_add (PySem.F.args_list_add_2 _ _) (list_addW l b i1.toArray i2.toArray n1 n2 _ _ s1 s2 (by rw[List.size_toArray,List.size_toArray];omega)) ⟨g1,g2,?_⟩
 rw[ea]
 exact⟨.ref _,_,I.lnew (t':=s.toks) (r1.append r2) (by rw[List.length_append];exact hz),rfl,q _ I.fresh⟩
noncomputable def rAllB(K:W.Frag):List V→Hp→VK→Prop:=fun vs H Q=>∃ (p:Addr) (cs:List Bool),vs=[.ref p]∧SqL K H p (cs.map V.bl)∧Q (.bl (cs.all id)) H
theorem Zh8:∀ {cs:List Bool} {us:List Value} {i:Nat} {v:Value},Vals (cs.map V.bl) us→us[i]?=some v→v=.bool (cs.getD i false)
 | [],_,_,_,.nil,e=>by simp at e
 | c::cs,_,0,v,.cons r _,e=>by simp at e;subst e;exact r
 | c::cs,_,i+1,v,.cons _ t,e=>by simpa using Zh8 (i:=i) t (by simpa using e)
theorem Zh9(cs:List Bool):(List.range cs.length).all (fun i=>cs.getD i false)=cs.all id:=by
 rw[Bool.eq_iff_iff,List.all_eq_true,List.all_eq_true]
 constructor
 ·intro h c hc
  obtain⟨i,hi,e⟩:=List.getElem_of_mem hc
  have:=h i (List.mem_range.mpr hi)
  rw[List.getD_eq_getElem?_getD,List.getElem?_eq_getElem hi] at this
  simpa [e] using this
 ·intro h i hi
  have hi:=List.mem_range.mp hi
  rw[List.getD_eq_getElem?_getD,List.getElem?_eq_getElem hi]
  exact h _ (List.getElem_mem hi)
theorem Zf4{P:Program}{w:World}{A:Around}{cs:List Bool}{us:List Value}(r:Vals (cs.map V.bl) us):TruthOf P w A (fun i v=>us.toArray[i]?=some v) (fun i=>cs.getD i false):=fun i v s Q E hv q=>by
 have:=Zh8 (i:=i) (v:=v) r (by simpa using hv)
 subst this
 exact wpAny_truthy_bool q
theorem Zia(hK:X.K=K)(hc:X.calm=true):CallR X (.builtin "all") (rAllB K):=by
 subst hK
 intro pins s σ H vs us Q I r h
 obtain⟨p,cs,rfl,hp,q⟩:=h
 obtain⟨u,rfl,ru⟩:=vals1 r
 cases ru
 obtain⟨its,rs,pl,_⟩:=I.list hp
 have hl:=pl.isList
 have hlt:p<s.heap.objs.size:=by obtain⟨_,e,_⟩:=hl;exact Heap.lt_size e
 refine call_all_walk (wpAny_pyIter_list hl ?_)
 refine⟨s.heap.objs.size,_,_,_,_,_,fun i=>cs.getD i false,rfl,Walks.list (A:=X.A.in1) (I.ok.hd hc) _ p (Nat.ne_of_lt hlt) its.toArray,⟨⟨_,Heap.get?_push_size _ rfl,rfl,rfl⟩,hl.push _⟩,Zf4 rs,fun h' tk hk=>?_⟩
 have e:its.toArray.size=cs.length:=by rw[List.size_toArray,← rs.length,List.length_map]
 rw[e,Zh9]
 exact⟨.bl _,H,I.kept (t':=tk) (fun b o z=>hk b o (by simp;exact Nat.ne_of_lt (Heap.lt_size z)) (Heap.get?_push_of_some _ z)),rfl,q⟩
section
variable{P:Program}{w:World}{A:Around}{R:Result→Shared→Prop}{J S:Addr}{f1 f2:List Addr}{m:Nat}{Pv:Nat→Value→Prop}{Sv:Nat→Heap→Prop}{dn:List (Str×Value)}
end
end
end L2
end
section
namespace VL
open PySem PySem.Spec L2
variable[Tabs]
theorem len1{α:Type}{vs:List α}(h:vs.length=1):∃ v,vs=[v]:=List.length_eq_one_iff.mp h
theorem len2{α:Type}{vs:List α}(h:vs.length=2):∃ v w,vs=[v,w]:=by
 cases vs with
 | nil=>cases h
 | cons v vs =>
  obtain⟨w,e⟩:=len1 (Nat.succ.inj h)
  exact⟨v,w,by rw[e]⟩
section
variable{K:W.Frag}{E:FK}{X:Exc→Sl→Prop}{ρ:Sl}{Q:TV→Prop}{DV:VEnds}{ta tb te:TE}{i j:Int}{n:Nat}{r:R2}{t u:TS}{a b:TV}{H0 H:Hp}{σ:St}{ts:List V}{as:List TV}{v:V}
theorem ZbX{vs:List V}(s:SR K H0 σ ρ (vs++ts) ([a]++as) H)(hl:vs.length=1):∃ v,vs=[v]∧SR K H0 σ ρ (v::ts) (a::as) H:=by
 obtain⟨v,rfl⟩:=len1 hl
 exact⟨v,rfl,s⟩
theorem Zks{vs:List V}(s:SR K H0 σ ρ (vs++ts) ([a,b]++as) H)(hl:vs.length=2):∃ v w,vs=[v,w]∧SR K H0 σ ρ (v::w::ts) (a::b::as) H:=by
 obtain⟨v,w,rfl⟩:=len2 hl
 exact⟨v,w,rfl,s⟩
theorem Zli{ds:List PyData}(ha:a.data=.list ds)(q:Q (.av (.d (.int ds.length))))(na:NR a:=by first|exact NR.av|exact NR.bor):Bi K E X (rLen K) [a] Q:=fun H0 σ ρ ts as H vs QV s hl _ k=>by
 obtain⟨v,rfl,s⟩:=ZbX s hl
 exact Zjx (ha▸s.top na) (k _ q _ H (s.pop.int _))
theorem Zlj{ds:List PyData}(ha:a.data=.tuple ds)(q:Q (.av (.d (.int ds.length))))(na:NR a:=by first|exact NR.av|exact NR.bor):Bi K E X (rLen K) [a] Q:=fun H0 σ ρ ts as H vs QV s hl _ k=>by
 obtain⟨v,rfl,s⟩:=ZbX s hl
 exact Zjy (ha▸s.top na) (k _ q _ H (s.pop.int _))
theorem Zib(ds:List PyData):AV.datas (ds.map AV.d)=ds:=by
 induction ds with
 | nil=>rfl
 | cons d ds ih=>rw[List.map_cons,AV.datas,ih];rfl
theorem SR.items{es:List PyData}(s:SR K H0 σ ρ (v::ts) (a::as) H)(h:a=.av (.d a.data)∨noLsts es=true)(P:List V→Prop)(hx:∀ G,Rep K G v a.data→Same G H→∃ xs,P xs∧Reps K G xs es)(na:NR a):∃ xs,P xs∧xs.length=es.length∧SR K H0 σ ρ (xs++ts) ((es.map AV.d).map TV.av++as) H:=by
 have fin:∀ {p q:Fp} {xs:List V} {es:List PyData},Reps K (hid H p q) xs es→RTs K (hid H p q) H ts as q→RTs K (hid H p q) H (xs++ts) ((es.map AV.d).map TV.av++as) q:=by
  intro p q xs es r rt
  induction r using Reps.rec (motive_1:=fun _ _ _=>True) with
  | nil=>exact rt
  | cons r rs _ ih=>exact .cons (.av (.d (p:=fun _=>0) r fun _=>rfl)) ih fun b=>by simp
  | _=>trivial
 rcases h with e|hn
 ·rw[e] at s
  obtain⟨⟨p,q,h1,h2,h3,h4⟩,e'⟩:=s
  cases h2 with
  | @cons _ _ _ _ q1 q2 _ r rs z=>cases r with
   | av r=>cases r with
    | d rp w =>
     obtain⟨xs,px,this⟩:=hx _ rp Zbu
     have eh:hid H p q=hid H p q2:=ZmB fun b=>by have:=z b;have:=w b;omega
     rw[eh] at this h1 rs
     exact⟨xs,px,this.length,⟨p,q2,h1,fin this rs,fun b=>by have:=h3 b;have:=z b;omega,fun b y=>h4 b (by have:=z b;omega)⟩,e'⟩
 ·obtain⟨xs,px,this⟩:=hx H (s.top na) (.refl H)
  obtain⟨⟨p,q,h1,h2,h3,h4⟩,e'⟩:=s.pop
  exact⟨xs,px,this.length,⟨p,q,h1,fin (Reps.hid (SR.lsts h1 h2) hn this) h2,h3,h4⟩,e'⟩
noncomputable def Kp(a:TV)(es:List PyData):Prop:=a=.av (.d a.data)∨noLsts es=true
theorem Kp.d{x:PyData}{es:List PyData}:Kp (.av (.d x)) es:=.inl rfl
theorem Kp.flat{es:List PyData}(h:noLsts es=true):Kp a es:=.inr h
theorem ZjE{ds:List PyData}(ha:a.data=.tuple ds)(h:Kp a ds)(q:Q (.av (.own (ds.map AV.d))))(na:NR a:=by first|exact NR.av|exact NR.bor):Bi K E X (rLst K) [a] Q:=fun H0 σ ρ ts as H vs QV s hl _ k=>by
 obtain⟨v,rfl,s⟩:=ZbX s hl
 obtain⟨xs,⟨l,e,h1⟩,h2,s'⟩:=s.items h (fun xs=>∃ l,v=.ref l∧SqT K H l xs) (fun G rp sm=>by
  rw[ha] at rp
  obtain⟨l,xs,e,h3,h4⟩:=rp.tuple_inv
  exact⟨xs,⟨l,e,sm.tupS h3⟩,h4⟩) na
 exact⟨l,xs,by rw[e],.inr h1,fun p hp=>k _ q _ _ (SR.new s' (by rw[List.length_map,h2]) hp)⟩
theorem Za9{ds:List PyData}(ha:a.data=.list ds)(h:Kp a.frz ds)(q:Q (.av (.d (.tuple ds))))(na:NR a:=by first|exact NR.av|exact NR.bor):Bi K E X (rTpl K) [a] Q:=fun H0 σ ρ ts as H vs QV s hl _ k=>by
 obtain⟨v,rfl,s⟩:=ZbX s hl
 obtain⟨xs,⟨l,e,h1⟩,h2,s'⟩:=s.frzV.items h (fun xs=>∃ l,v=.ref l∧SqL K H l xs) (fun G rp sm=>by
  rw[TV.frz_data,ha] at rp
  obtain⟨l,xs,e,h3,h4⟩:=rp.list_inv
  exact⟨xs,⟨l,e,sm.seq h3⟩,h4⟩) (TV.frz_nr na)
 refine⟨l,xs,by rw[e],.inl ⟨h1,fun p hp=>k _ q _ _ ?_⟩⟩
 have:=SR.newT s' (by rw[List.length_map,h2]) hp
 rw[Zib] at this
 exact this
theorem Zic{c:String}{cc:Bool}(na:NR a)(nd:isD a.data=false)(e:PySem.W.kitOne K (.type (tyD a.data)) (.type c)=some cc)(q:Q (.av (.d (.bool cc)))):Bi K E X (rIsi2 K) [a,.raw (.ty c)] Q:=fun H0 σ ρ ts as H vs QV s hl _ k=>by
 obtain⟨v,w,rfl,s⟩:=Zks s hl
 have:=s.pop.raw
 subst this
 exact Zk7 (s.top na) nd rfl e (k _ q _ H (s.pop.pop.bl _))
theorem Zf5(q:Q (.av (.d (.bool true)))):Bi K E X (rIsi2 K) [.av (.d (.int i)),.raw (.ty "int")] Q:=Zic NR.av rfl rfl q
theorem Zfv(q:Q (.av (.d (.bool false)))):Bi K E X (rIsi2 K) [.av (.d (.int i)),.raw (.ty "bool")] Q:=Zic NR.av rfl Zfs q
theorem Zc4{ds:List PyData}(ha:a.data=.tuple ds)(q:Q (.av (.d (.bool true))))(na:NR a:=by first|exact NR.av|exact NR.bor):Bi K E X (rIsi2 K) [a,.raw (.ty "tuple")] Q:=Zic na (by rw[ha];rfl) (by rw[ha];rfl) q
theorem Zfw{G:Hp}:∀ {cs:List Bool} {xs:List V},Reps K G xs (cs.map PyData.bool)→xs=cs.map V.bl
 | [],_,.nil=>rfl
 | c::cs,_,.cons r rs=>by rw[Rep.bl_inv r,Zfw rs];rfl
theorem ZmS{cs:List Bool}(ha:a.data=.list (cs.map .bool))(q:Q (.av (.d (.bool (cs.all id)))))(na:NR a:=by first|exact NR.av|exact NR.bor):Bi K E X (rAllB K) [a] Q:=fun H0 σ ρ ts as H vs QV s hl _ k=>by
 obtain⟨v,rfl,s⟩:=ZbX s hl
 have rp:=s.top na
 rw[ha] at rp
 obtain⟨l,xs,rfl,h1,h2⟩:=rp.list_inv
 have:=Zfw h2
 subst this
 exact⟨l,cs,rfl,h1,k _ q _ H (s.pop.bl _)⟩
theorem Zlk{ds es:List PyData}(ha:a.data=.list ds)(hb:b.data=.list es)(ka:Kp a.frz ds)(kb:Kp b.frz es)(hz:ds.length+es.length≤1000000)(q:Q (.av (.own ((ds++es).map AV.d))))(na:NR a:=by first|exact NR.av|exact NR.bor)(nb:NR b:=by first|exact NR.av|exact NR.bor):Op K E X (rCatS K) a b Q:=fun H0 σ ρ ts as H x y QV s _ k=>by
 obtain⟨ys,⟨l2,e2,h2⟩,hl2,s2⟩:=s.frzV.items kb (fun ys=>∃ l,y=.ref l∧SqL K H l ys) (fun G rp sm=>by
  rw[TV.frz_data,hb] at rp
  obtain⟨l,xs,e,h3,h4⟩:=rp.list_inv
  exact⟨xs,⟨l,e,sm.seq h3⟩,h4⟩) (TV.frz_nr nb)
 have s3:SR K H0 σ ρ (x::(ys++ts)) (a::((es.map AV.d).map TV.av++as)) H:=SR.rot (by rw[List.length_map,List.length_map,hl2]) s2
 obtain⟨xs,⟨l1,e1,h1⟩,hl1,s4⟩:=s3.frzV.items ka (fun ys=>∃ l,x=.ref l∧SqL K H l ys) (fun G rp sm=>by
  rw[TV.frz_data,ha] at rp
  obtain⟨l,xs,e,h3,h4⟩:=rp.list_inv
  exact⟨xs,⟨l,e,sm.seq h3⟩,h4⟩) (TV.frz_nr na)
 refine⟨l1,l2,xs,ys,e1,e2,h1,h2,Nat.le_of_lt (small6 (by omega)),fun p hp=>k _ q _ _ (SR.new (xs:=(ds++es).map AV.d) ?_ (by rw[List.length_append,List.length_map,List.length_append,hl1,hl2]) hp)⟩
 rw[List.append_assoc,List.map_append,List.map_append,List.append_assoc]
 exact s4
end
end VL
end
section
namespace VL
open PySem PySem.Spec L2
variable[Tabs]
section
variable{K:W.Frag}{E:FK}{X:Exc→Sl→Prop}{Q:TV→Prop}{nx bk ct:Sl→Prop}{rt:TV→Prop}{ta tb te:TE}{x:PyData}{r:Sl}{a:AV}
theorem Zoa(q:Q (.av (.d x))):Ev K E X (tVar 0) (some (.d x)::r) Q:=ZbD rfl q
theorem gv_0{o:Option AV}{P:Sl→Prop}(h:P (some (.d x)::r)):Gv K (gName 0) x (o::r) P:=Zbn (n:=0) h (by simp only[List.length_cons];omega)
theorem wk_0{o:Option AV}:Wk (o::r) (none::r):=fun _ _ _ _ _ _ s=>s.drop (i:=0)
theorem Zob{s0:Option AV}(q:Q (.av (.d x))):Ev K E X (tVar 1) (s0::some (.d x)::r) Q:=ZbD rfl q
theorem Zoc{s0:Option AV}{xs:List AV}(q:Q (.bor (.list (AV.datas xs)))):Ev K E X (tVar 1) (s0::some (.own xs)::r) Q:=ZbS rfl q
theorem Zod{s0:Option AV}{o:Option AV}(h:Ev K E X te (s0::o::r) fun a=>∃ a',Sto (s0::o::r) a a'∧nx (s0::some a'::r)):Sv K E X (tAsg te (gName 1)) (s0::o::r) ⟨nx,rt,bk,ct⟩:=Zcc (n:=1) h (by simp only[List.length_cons];omega)
theorem gv_1{s0:Option AV}{o:Option AV}{P:Sl→Prop}(h:P (s0::some (.d x)::r)):Gv K (gName 1) x (s0::o::r) P:=Zbn (n:=1) h (by simp only[List.length_cons];omega)
theorem ZmT{s0:Option AV}{xs:List AV}(q:rt (.av (.own xs))):Sv K E X (tRet (tVar 1)) (s0::some (.own xs)::r) ⟨nx,rt,bk,ct⟩:=Zh5 rfl q
theorem Zoe{s0 s1:Option AV}(q:Q (.av (.d x))):Ev K E X (tVar 2) (s0::s1::some (.d x)::r) Q:=ZbD rfl q
theorem Zof{s0 s1:Option AV}{xs:List AV}(q:Q (.bor (.list (AV.datas xs)))):Ev K E X (tVar 2) (s0::s1::some (.own xs)::r) Q:=ZbS rfl q
theorem Zog{s0 s1:Option AV}{o:Option AV}(h:Ev K E X te (s0::s1::o::r) fun a=>∃ a',Sto (s0::s1::o::r) a a'∧nx (s0::s1::some a'::r)):Sv K E X (tAsg te (gName 2)) (s0::s1::o::r) ⟨nx,rt,bk,ct⟩:=Zcc (n:=2) h (by simp only[List.length_cons];omega)
theorem gv_2{s0 s1:Option AV}{o:Option AV}{P:Sl→Prop}(h:P (s0::s1::some (.d x)::r)):Gv K (gName 2) x (s0::s1::o::r) P:=Zbn (n:=2) h (by simp only[List.length_cons];omega)
theorem ZmU{s0 s1:Option AV}{xs:List AV}(h:Ev K E X te (s0::s1::some (.own xs)::r) fun a=>∃ a',a.sto=some a'∧xs.length≤1000000∧nx (s0::s1::some (.own (xs++[a']))::r)):Sv K E X (tDrop (tBM K "list" rAppend (tVar 2) (tCons te tNil))) (s0::s1::some (.own xs)::r) ⟨nx,rt,bk,ct⟩:=Zbq (n:=2) rfl h
theorem ZmV{s0 s1:Option AV}{xs:List AV}(q:rt (.av (.own xs))):Sv K E X (tRet (tVar 2)) (s0::s1::some (.own xs)::r) ⟨nx,rt,bk,ct⟩:=Zh5 rfl q
theorem ZmW{s0 s1:Option AV}{xs:List AV}(h:nx (s0::s1::some (.own xs.reverse)::r)):Sv K E X (tDrop (tBM0 K "list" rReverse (tVar 2))) (s0::s1::some (.own xs)::r) ⟨nx,rt,bk,ct⟩:=Zho (n:=2) rfl h
theorem Zoh{s0 s1 s2:Option AV}(q:Q (.av (.d x))):Ev K E X (tVar 3) (s0::s1::s2::some (.d x)::r) Q:=ZbD rfl q
theorem Zoi{s0 s1 s2:Option AV}{o:Option AV}(h:Ev K E X te (s0::s1::s2::o::r) fun a=>∃ a',Sto (s0::s1::s2::o::r) a a'∧nx (s0::s1::s2::some a'::r)):Sv K E X (tAsg te (gName 3)) (s0::s1::s2::o::r) ⟨nx,rt,bk,ct⟩:=Zcc (n:=3) h (by simp only[List.length_cons];omega)
theorem gv_3{s0 s1 s2:Option AV}{o:Option AV}{P:Sl→Prop}(h:P (s0::s1::s2::some (.d x)::r)):Gv K (gName 3) x (s0::s1::s2::o::r) P:=Zbn (n:=3) h (by simp only[List.length_cons];omega)
theorem ZmX{s0 s1 s2:Option AV}{xs:List AV}(h:Ev K E X te (s0::s1::s2::some (.own xs)::r) fun a=>∃ a',a.sto=some a'∧xs.length≤1000000∧nx (s0::s1::s2::some (.own (xs++[a']))::r)):Sv K E X (tDrop (tBM K "list" rAppend (tVar 3) (tCons te tNil))) (s0::s1::s2::some (.own xs)::r) ⟨nx,rt,bk,ct⟩:=Zbq (n:=3) rfl h
theorem Zoj{s0 s1 s2 s3:Option AV}(q:Q (.av (.d x))):Ev K E X (tVar 4) (s0::s1::s2::s3::some (.d x)::r) Q:=ZbD rfl q
theorem Zok{s0 s1 s2 s3:Option AV}{xs:List AV}(q:Q (.bor (.list (AV.datas xs)))):Ev K E X (tVar 4) (s0::s1::s2::s3::some (.own xs)::r) Q:=ZbS rfl q
theorem Zol{s0 s1 s2 s3:Option AV}{o:Option AV}(h:Ev K E X te (s0::s1::s2::s3::o::r) fun a=>∃ a',Sto (s0::s1::s2::s3::o::r) a a'∧nx (s0::s1::s2::s3::some a'::r)):Sv K E X (tAsg te (gName 4)) (s0::s1::s2::s3::o::r) ⟨nx,rt,bk,ct⟩:=Zcc (n:=4) h (by simp only[List.length_cons];omega)
theorem gv_4{s0 s1 s2 s3:Option AV}{o:Option AV}{P:Sl→Prop}(h:P (s0::s1::s2::s3::some (.d x)::r)):Gv K (gName 4) x (s0::s1::s2::s3::o::r) P:=Zbn (n:=4) h (by simp only[List.length_cons];omega)
theorem ZmY{s0 s1 s2 s3:Option AV}{xs:List AV}(h:Ev K E X te (s0::s1::s2::s3::some (.own xs)::r) fun a=>∃ a',a.sto=some a'∧xs.length≤1000000∧nx (s0::s1::s2::s3::some (.own (xs++[a']))::r)):Sv K E X (tDrop (tBM K "list" rAppend (tVar 4) (tCons te tNil))) (s0::s1::s2::s3::some (.own xs)::r) ⟨nx,rt,bk,ct⟩:=Zbq (n:=4) rfl h
theorem Zom{s0 s1 s2 s3 s4:Option AV}(q:Q (.av (.d x))):Ev K E X (tVar 5) (s0::s1::s2::s3::s4::some (.d x)::r) Q:=ZbD rfl q
theorem Zon{s0 s1 s2 s3 s4:Option AV}{o:Option AV}(h:Ev K E X te (s0::s1::s2::s3::s4::o::r) fun a=>∃ a',Sto (s0::s1::s2::s3::s4::o::r) a a'∧nx (s0::s1::s2::s3::s4::some a'::r)):Sv K E X (tAsg te (gName 5)) (s0::s1::s2::s3::s4::o::r) ⟨nx,rt,bk,ct⟩:=Zcc (n:=5) h (by simp only[List.length_cons];omega)
theorem gv_5{s0 s1 s2 s3 s4:Option AV}{o:Option AV}{P:Sl→Prop}(h:P (s0::s1::s2::s3::s4::some (.d x)::r)):Gv K (gName 5) x (s0::s1::s2::s3::s4::o::r) P:=Zbn (n:=5) h (by simp only[List.length_cons];omega)
theorem Zoo{s0 s1 s2 s3 s4 s5:Option AV}(q:Q (.av (.d x))):Ev K E X (tVar 6) (s0::s1::s2::s3::s4::s5::some (.d x)::r) Q:=ZbD rfl q
theorem Zop{s0 s1 s2 s3 s4 s5:Option AV}{xs:List AV}(q:Q (.bor (.list (AV.datas xs)))):Ev K E X (tVar 6) (s0::s1::s2::s3::s4::s5::some (.own xs)::r) Q:=ZbS rfl q
theorem Zoq{s0 s1 s2 s3 s4 s5:Option AV}{o:Option AV}(h:Ev K E X te (s0::s1::s2::s3::s4::s5::o::r) fun a=>∃ a',Sto (s0::s1::s2::s3::s4::s5::o::r) a a'∧nx (s0::s1::s2::s3::s4::s5::some a'::r)):Sv K E X (tAsg te (gName 6)) (s0::s1::s2::s3::s4::s5::o::r) ⟨nx,rt,bk,ct⟩:=Zcc (n:=6) h (by simp only[List.length_cons];omega)
theorem gv_6{s0 s1 s2 s3 s4 s5:Option AV}{o:Option AV}{P:Sl→Prop}(h:P (s0::s1::s2::s3::s4::s5::some (.d x)::r)):Gv K (gName 6) x (s0::s1::s2::s3::s4::s5::o::r) P:=Zbn (n:=6) h (by simp only[List.length_cons];omega)
theorem ZmZ{s0 s1 s2 s3 s4 s5:Option AV}{xs:List AV}(h:Ev K E X te (s0::s1::s2::s3::s4::s5::some (.own xs)::r) fun a=>∃ a',a.sto=some a'∧xs.length≤1000000∧nx (s0::s1::s2::s3::s4::s5::some (.own (xs++[a']))::r)):Sv K E X (tDrop (tBM K "list" rAppend (tVar 6) (tCons te tNil))) (s0::s1::s2::s3::s4::s5::some (.own xs)::r) ⟨nx,rt,bk,ct⟩:=Zbq (n:=6) rfl h
theorem Zor{s0 s1 s2 s3 s4 s5 s6:Option AV}(q:Q (.av (.d x))):Ev K E X (tVar 7) (s0::s1::s2::s3::s4::s5::s6::some (.d x)::r) Q:=ZbD rfl q
theorem Zos{s0 s1 s2 s3 s4 s5 s6:Option AV}{xs:List AV}(q:Q (.bor (.list (AV.datas xs)))):Ev K E X (tVar 7) (s0::s1::s2::s3::s4::s5::s6::some (.own xs)::r) Q:=ZbS rfl q
theorem Zot{s0 s1 s2 s3 s4 s5 s6:Option AV}{o:Option AV}(h:Ev K E X te (s0::s1::s2::s3::s4::s5::s6::o::r) fun a=>∃ a',Sto (s0::s1::s2::s3::s4::s5::s6::o::r) a a'∧nx (s0::s1::s2::s3::s4::s5::s6::some a'::r)):Sv K E X (tAsg te (gName 7)) (s0::s1::s2::s3::s4::s5::s6::o::r) ⟨nx,rt,bk,ct⟩:=Zcc (n:=7) h (by simp only[List.length_cons];omega)
theorem gv_7{s0 s1 s2 s3 s4 s5 s6:Option AV}{o:Option AV}{P:Sl→Prop}(h:P (s0::s1::s2::s3::s4::s5::s6::some (.d x)::r)):Gv K (gName 7) x (s0::s1::s2::s3::s4::s5::s6::o::r) P:=Zbn (n:=7) h (by simp only[List.length_cons];omega)
theorem Zm0{s0 s1 s2 s3 s4 s5 s6:Option AV}{xs:List AV}(h:Ev K E X te (s0::s1::s2::s3::s4::s5::s6::some (.own xs)::r) fun a=>∃ a',a.sto=some a'∧xs.length≤1000000∧nx (s0::s1::s2::s3::s4::s5::s6::some (.own (xs++[a']))::r)):Sv K E X (tDrop (tBM K "list" rAppend (tVar 7) (tCons te tNil))) (s0::s1::s2::s3::s4::s5::s6::some (.own xs)::r) ⟨nx,rt,bk,ct⟩:=Zbq (n:=7) rfl h
theorem Zou{s0 s1 s2 s3 s4 s5 s6 s7:Option AV}(q:Q (.av (.d x))):Ev K E X (tVar 8) (s0::s1::s2::s3::s4::s5::s6::s7::some (.d x)::r) Q:=ZbD rfl q
theorem Zov{s0 s1 s2 s3 s4 s5 s6 s7:Option AV}{xs:List AV}(q:Q (.bor (.list (AV.datas xs)))):Ev K E X (tVar 8) (s0::s1::s2::s3::s4::s5::s6::s7::some (.own xs)::r) Q:=ZbS rfl q
theorem Zow{s0 s1 s2 s3 s4 s5 s6 s7:Option AV}{o:Option AV}(h:Ev K E X te (s0::s1::s2::s3::s4::s5::s6::s7::o::r) fun a=>∃ a',Sto (s0::s1::s2::s3::s4::s5::s6::s7::o::r) a a'∧nx (s0::s1::s2::s3::s4::s5::s6::s7::some a'::r)):Sv K E X (tAsg te (gName 8)) (s0::s1::s2::s3::s4::s5::s6::s7::o::r) ⟨nx,rt,bk,ct⟩:=Zcc (n:=8) h (by simp only[List.length_cons];omega)
theorem gv_8{s0 s1 s2 s3 s4 s5 s6 s7:Option AV}{o:Option AV}{P:Sl→Prop}(h:P (s0::s1::s2::s3::s4::s5::s6::s7::some (.d x)::r)):Gv K (gName 8) x (s0::s1::s2::s3::s4::s5::s6::s7::o::r) P:=Zbn (n:=8) h (by simp only[List.length_cons];omega)
theorem Zm1{s0 s1 s2 s3 s4 s5 s6 s7:Option AV}{xs:List AV}(h:Ev K E X te (s0::s1::s2::s3::s4::s5::s6::s7::some (.own xs)::r) fun a=>∃ a',a.sto=some a'∧xs.length≤1000000∧nx (s0::s1::s2::s3::s4::s5::s6::s7::some (.own (xs++[a']))::r)):Sv K E X (tDrop (tBM K "list" rAppend (tVar 8) (tCons te tNil))) (s0::s1::s2::s3::s4::s5::s6::s7::some (.own xs)::r) ⟨nx,rt,bk,ct⟩:=Zbq (n:=8) rfl h
theorem Zox{s0 s1 s2 s3 s4 s5 s6 s7 s8:Option AV}(q:Q (.av (.d x))):Ev K E X (tVar 9) (s0::s1::s2::s3::s4::s5::s6::s7::s8::some (.d x)::r) Q:=ZbD rfl q
theorem Zoy{s0 s1 s2 s3 s4 s5 s6 s7 s8:Option AV}{xs:List AV}(q:Q (.bor (.list (AV.datas xs)))):Ev K E X (tVar 9) (s0::s1::s2::s3::s4::s5::s6::s7::s8::some (.own xs)::r) Q:=ZbS rfl q
theorem Zoz{s0 s1 s2 s3 s4 s5 s6 s7 s8:Option AV}{o:Option AV}(h:Ev K E X te (s0::s1::s2::s3::s4::s5::s6::s7::s8::o::r) fun a=>∃ a',Sto (s0::s1::s2::s3::s4::s5::s6::s7::s8::o::r) a a'∧nx (s0::s1::s2::s3::s4::s5::s6::s7::s8::some a'::r)):Sv K E X (tAsg te (gName 9)) (s0::s1::s2::s3::s4::s5::s6::s7::s8::o::r) ⟨nx,rt,bk,ct⟩:=Zcc (n:=9) h (by simp only[List.length_cons];omega)
theorem gv_9{s0 s1 s2 s3 s4 s5 s6 s7 s8:Option AV}{o:Option AV}{P:Sl→Prop}(h:P (s0::s1::s2::s3::s4::s5::s6::s7::s8::some (.d x)::r)):Gv K (gName 9) x (s0::s1::s2::s3::s4::s5::s6::s7::s8::o::r) P:=Zbn (n:=9) h (by simp only[List.length_cons];omega)
theorem Zm2{s0 s1 s2 s3 s4 s5 s6 s7 s8:Option AV}{xs:List AV}(h:Ev K E X te (s0::s1::s2::s3::s4::s5::s6::s7::s8::some (.own xs)::r) fun a=>∃ a',a.sto=some a'∧xs.length≤1000000∧nx (s0::s1::s2::s3::s4::s5::s6::s7::s8::some (.own (xs++[a']))::r)):Sv K E X (tDrop (tBM K "list" rAppend (tVar 9) (tCons te tNil))) (s0::s1::s2::s3::s4::s5::s6::s7::s8::some (.own xs)::r) ⟨nx,rt,bk,ct⟩:=Zbq (n:=9) rfl h
theorem Zm3{s0 s1 s2 s3 s4 s5 s6 s7 s8 s9:Option AV}(q:Q (.av (.d x))):Ev K E X (tVar 10) (s0::s1::s2::s3::s4::s5::s6::s7::s8::s9::some (.d x)::r) Q:=ZbD rfl q
theorem Zm4{s0 s1 s2 s3 s4 s5 s6 s7 s8 s9:Option AV}{o:Option AV}(h:Ev K E X te (s0::s1::s2::s3::s4::s5::s6::s7::s8::s9::o::r) fun a=>∃ a',Sto (s0::s1::s2::s3::s4::s5::s6::s7::s8::s9::o::r) a a'∧nx (s0::s1::s2::s3::s4::s5::s6::s7::s8::s9::some a'::r)):Sv K E X (tAsg te (gName 10)) (s0::s1::s2::s3::s4::s5::s6::s7::s8::s9::o::r) ⟨nx,rt,bk,ct⟩:=Zcc (n:=10) h (by simp only[List.length_cons];omega)
theorem ZoA{s0 s1 s2 s3 s4 s5 s6 s7 s8 s9:Option AV}{o:Option AV}{P:Sl→Prop}(h:P (s0::s1::s2::s3::s4::s5::s6::s7::s8::s9::some (.d x)::r)):Gv K (gName 10) x (s0::s1::s2::s3::s4::s5::s6::s7::s8::s9::o::r) P:=Zbn (n:=10) h (by simp only[List.length_cons];omega)
theorem Zm5{s0 s1 s2 s3 s4 s5 s6 s7 s8 s9 s10:Option AV}(q:Q (.av (.d x))):Ev K E X (tVar 11) (s0::s1::s2::s3::s4::s5::s6::s7::s8::s9::s10::some (.d x)::r) Q:=ZbD rfl q
theorem ZoB{s0 s1 s2 s3 s4 s5 s6 s7 s8 s9 s10:Option AV}{o:Option AV}{P:Sl→Prop}(h:P (s0::s1::s2::s3::s4::s5::s6::s7::s8::s9::s10::some (.d x)::r)):Gv K (gName 11) x (s0::s1::s2::s3::s4::s5::s6::s7::s8::s9::s10::o::r) P:=Zbn (n:=11) h (by simp only[List.length_cons];omega)
theorem Zm6{s0 s1 s2 s3 s4 s5 s6 s7 s8 s9 s10 s11:Option AV}{xs:List AV}(q:Q (.bor (.list (AV.datas xs)))):Ev K E X (tVar 12) (s0::s1::s2::s3::s4::s5::s6::s7::s8::s9::s10::s11::some (.own xs)::r) Q:=ZbS rfl q
theorem Zm7{s0 s1 s2 s3 s4 s5 s6 s7 s8 s9 s10 s11:Option AV}{o:Option AV}(h:Ev K E X te (s0::s1::s2::s3::s4::s5::s6::s7::s8::s9::s10::s11::o::r) fun a=>∃ a',Sto (s0::s1::s2::s3::s4::s5::s6::s7::s8::s9::s10::s11::o::r) a a'∧nx (s0::s1::s2::s3::s4::s5::s6::s7::s8::s9::s10::s11::some a'::r)):Sv K E X (tAsg te (gName 12)) (s0::s1::s2::s3::s4::s5::s6::s7::s8::s9::s10::s11::o::r) ⟨nx,rt,bk,ct⟩:=Zcc (n:=12) h (by simp only[List.length_cons];omega)
theorem Zll{s0 s1 s2 s3 s4 s5 s6 s7 s8 s9 s10 s11:Option AV}{xs:List AV}(h:Ev K E X te (s0::s1::s2::s3::s4::s5::s6::s7::s8::s9::s10::s11::some (.own xs)::r) fun a=>∃ a',a.sto=some a'∧xs.length≤1000000∧nx (s0::s1::s2::s3::s4::s5::s6::s7::s8::s9::s10::s11::some (.own (xs++[a']))::r)):Sv K E X (tDrop (tBM K "list" rAppend (tVar 12) (tCons te tNil))) (s0::s1::s2::s3::s4::s5::s6::s7::s8::s9::s10::s11::some (.own xs)::r) ⟨nx,rt,bk,ct⟩:=Zbq (n:=12) rfl h
theorem Zm8{s0 s1 s2 s3 s4 s5 s6 s7 s8 s9 s10 s11 s12:Option AV}(q:Q (.av (.d x))):Ev K E X (tVar 13) (s0::s1::s2::s3::s4::s5::s6::s7::s8::s9::s10::s11::s12::some (.d x)::r) Q:=ZbD rfl q
theorem ZoC{s0 s1 s2 s3 s4 s5 s6 s7 s8 s9 s10 s11 s12:Option AV}{o:Option AV}{P:Sl→Prop}(h:P (s0::s1::s2::s3::s4::s5::s6::s7::s8::s9::s10::s11::s12::some (.d x)::r)):Gv K (gName 13) x (s0::s1::s2::s3::s4::s5::s6::s7::s8::s9::s10::s11::s12::o::r) P:=Zbn (n:=13) h (by simp only[List.length_cons];omega)
theorem Zm9{s0 s1 s2 s3 s4 s5 s6 s7 s8 s9 s10 s11 s12 s13:Option AV}(q:Q (.av (.d x))):Ev K E X (tVar 14) (s0::s1::s2::s3::s4::s5::s6::s7::s8::s9::s10::s11::s12::s13::some (.d x)::r) Q:=ZbD rfl q
theorem Zna{s0 s1 s2 s3 s4 s5 s6 s7 s8 s9 s10 s11 s12 s13:Option AV}{o:Option AV}(h:Ev K E X te (s0::s1::s2::s3::s4::s5::s6::s7::s8::s9::s10::s11::s12::s13::o::r) fun a=>∃ a',Sto (s0::s1::s2::s3::s4::s5::s6::s7::s8::s9::s10::s11::s12::s13::o::r) a a'∧nx (s0::s1::s2::s3::s4::s5::s6::s7::s8::s9::s10::s11::s12::s13::some a'::r)):Sv K E X (tAsg te (gName 14)) (s0::s1::s2::s3::s4::s5::s6::s7::s8::s9::s10::s11::s12::s13::o::r) ⟨nx,rt,bk,ct⟩:=Zcc (n:=14) h (by simp only[List.length_cons];omega)
theorem Znb{t u:TS}{ρ:Sl}(h:Sv K E X t ρ ⟨fun ρ'=>Sv K E X u ρ' ⟨nx,rt,bk,ct⟩,rt,bk,ct⟩):Sv K E X (tSeq t u) ρ ⟨nx,rt,bk,ct⟩:=ZmP h
theorem Znc{ρ:Sl}(h:nx ρ):Sv K E X tNext ρ ⟨nx,rt,bk,ct⟩:=Zla h
theorem Zkt{ρ:Sl}(h:Ev K E X te ρ fun _=>nx ρ):Sv K E X (tDrop te) ρ ⟨nx,rt,bk,ct⟩:=Zlb h
theorem Znd{ρ:Sl}(h:Ev K E X te ρ rt):Sv K E X (tRet te) ρ ⟨nx,rt,bk,ct⟩:=ZmQ h
theorem s_if{c:TT}{t u:TS}{ρ:Sl}(h:Tv K E X c ρ fun b=>if b=true then Sv K E X t ρ ⟨nx,rt,bk,ct⟩ else Sv K E X u ρ ⟨nx,rt,bk,ct⟩):Sv K E X (tIfS c t u) ρ ⟨nx,rt,bk,ct⟩:=ZmR h
theorem ZcM{tc:TT}{tb:TS}{ρ:Sl}(Iv:Nat→Sl→Prop)(m0:Nat)(i0:Iv m0 ρ)
  (h:∀ m ρ',Iv m ρ'→Tv K E X tc ρ' fun b=>if b=true then Sv K E X tb ρ' ⟨fun ρ2=>∃ m',m' < m∧Iv m' ρ2,rt,nx,fun ρ2=>∃ m',m' < m∧Iv m' ρ2⟩ else nx ρ'):Sv K E X (tWhile tc tb) ρ ⟨nx,rt,bk,ct⟩:=ZjD Iv m0 i0 h
theorem Zne{m n:Nat}{ρ:Sl}{xs ys:List AV}(hm:ρ[m]?=some (some (.own ys)))(hi:ρ[n]?=some (some (.own xs)))(hne:n≠m)(hz:xs.length≤1000000)(q:nx ((ρ.set m none).set n (some (.own (xs++[.own ys]))))):Sv K E X (tDrop (tBM K "list" rAppend (tVar n) (tCons (tVar m) tNil))) ρ ⟨nx,rt,bk,ct⟩:=Zlc hm hi hne hz q
end
end VL
end
section
namespace L2
open PySem PySem.Spec PyProof.Rows
section
variable{X:Cx}{K:W.Frag}
noncomputable def rOr(r r':R2):R2:=fun x y H Q=>r x y H Q∨r' x y H Q
noncomputable def rStr2:R2:=fun x y H Q=>∃ i j,x=.str i∧y=.str j∧i.length+j.length≤sizeLine∧Q (.str (i++j)) H
noncomputable def rAddI:R2:=rI0 fun i j=>.int (i+j)
noncomputable def rMulI:R2:=rI CMul fun i j=>.int (i*j)
noncomputable def rCatT0(K:W.Frag):R2:=fun x y H Q=>∃ a b ys,x=.ref a∧y=.ref b∧SqT K H a []∧SqT K H b ys∧Q (.ref b) H
theorem ZjF{prog:Program}{w:World}{A:Around}{E:Value→Shared→Prop}{s:Shared}{t b:Addr}{ws:List Value}{Q:Value→Shared→Prop}(ht:IsTup s.heap t ([]:List Value).toArray)(hb:IsTup s.heap b ws.toArray)
  (h1:Q (.ref b) s):wpAny (model prog w) A (binaryOp .Add (.ref t) (.ref b)) Q E s:=by
 obtain⟨⟨cls,dd,data,sl⟩,ho,hc,n,hd⟩:=id ht
 obtain⟨⟨cls2,dd2,data2,sl2⟩,ho2,hc2,n2,hd2⟩:=id hb
 simp only at hc hd hc2 hd2
 subst hc hd hc2 hd2
 exact concat_meets ⟨_,ho,rfl⟩ ⟨_,ho2,rfl⟩ noFill_tuple_add seq_tuple_add PySem.F.slot_tuple_add PySem.F.entry_tuple_add (PySem.F.args_tuple_add_2 _ _)
   (tuple_addW0 t b #[] ws.toArray n n2 dd dd2 sl sl2 rfl) ⟨ho,ho2,h1⟩
theorem ZjG(hK:X.K=K):OpR X (binaryOp .Add) (rCatT0 K):=by
 subst hK
 intro pins s σ H x y v u Q I rx ry h
 obtain⟨a,b,ys,rfl,rfl,ha,hb,q⟩:=h
 cases rx
 cases ry
 obtain⟨its,r1,p1,_⟩:=I.tuple ha
 obtain⟨its2,r2,p2,_⟩:=I.tuple hb
 cases r1
 exact ZjF p1 p2 ⟨.ref b,H,I,rfl,q⟩
theorem ZaA(hK:X.K=K):OpR X (binaryOp .Add) (rOr rAddI (rOr (rCatS K) (rOr (rCatT K) (rOr rStr2 (rCatT0 K))))):=Zmh.or ((Zlh hK).or ((Zjz hK).or (Zhg.or (ZjG hK))))
theorem Zby:OpR X (binaryOp .Mult) (rOr rMulI rRep):=Zmi.or Zmp
theorem ZcF(hK:X.K=K)(hu:X.A.units+64<cLine):OpR X (compareOp .Eq) (rOr rEq (rEqD K)):=ZnZ.or (Zk4 hK hu)
theorem Zid(hK:X.K=K)(hu:X.A.units+64<cLine):OpR X (compareOp .NotEq) (rOr rNe (rNeD K)):=Zn0.or (Zk5 hK hu)
theorem Zaj(hK:X.K=K)(hu:X.A.units+64<cLine):IxR X (rOr (rIxL K) (rOr (rIxT K) (rOr rIxS rIxDc))):=by subst hK;exact ZkV.or (Zmm.or (Zmn.or (ZmA hu)))
noncomputable def cOr(r r':List V→Hp→VK→Prop):List V→Hp→VK→Prop:=fun xs H Q=>r xs H Q∨r' xs H Q
noncomputable def rLenS:List V→Hp→VK→Prop:=fun xs H Q=>∃ z,xs=[.str z]∧z.length≤sizeLine∧Q (.int z.length) H
theorem Zai(hK:X.K=K):CallR X (.builtin "len") (cOr (rLen K) rLenS):=by subst hK;exact ZhS.or Zfl
noncomputable def iSeq(K:W.Frag)(tl:TE):TI:=fun σ H R=>tl σ H fun x H1=>∃ a,x=.ref a∧(((∃ xs,SqL K H1 a xs)∧R (Itl K a) H1)∨((∃ xs,SqT K H1 a xs)∧R (Itt K a) H1))
theorem ZbE{tg l:Expr}{tl:TE}(hK:X.K=K)(hl:PE X l tl):PI X tg l (iSeq K tl):=by
 subst hK
 intro pins s σ H R I h
 refine thn (hl pins s σ H _ I h) fun v s1 ⟨x,H1,I1,r1,q1⟩=>?_
 obtain⟨a,e,q⟩:=q1
 subst e
 cases r1
 have fr:∀ b∈[s1.heap.objs.size],FpOk X pins H1 b:=fun b hb=>by
  rw[List.mem_singleton.mp hb]
  exact I1.fpOk (Nat.le_refl _) (I1.hok.fresh (Nat.le_refl _))
 rcases q with⟨⟨xs,hq⟩,q⟩|⟨⟨xs,hq⟩,q⟩
 ·obtain⟨its,_,p,_⟩:=I1.list hq
  exact wpAny_pyIter_list p.isList ⟨s1.heap.objs.size,_,_,_,H1,rfl,I1.kept (t':=s1.toks) fun b o e=>Heap.get?_push_of_some _ e,ZhD a _,⟨_,Heap.get?_push_size _ rfl,rfl,rfl⟩,fr,q⟩
 ·obtain⟨its,_,p,_⟩:=I1.tuple hq
  exact wpAny_pyIter_tuple (show s1.heap.IsTuple a its.toArray from p) ⟨s1.heap.objs.size,_,_,_,H1,rfl,I1.kept (t':=s1.toks) fun b o e=>Heap.get?_push_of_some _ e,Zhe a _,⟨_,Heap.get?_push_size _ rfl,rfl,rfl⟩,fr,q⟩
end
end L2
namespace VL
open PySem PySem.Spec L2
variable[Tabs]
section
variable{K:W.Frag}{E:FK}{X:Exc→Sl→Prop}{ρ:Sl}{Q:TV→Prop}{DV:VEnds}{ta tb te:TE}{i j:Int}{n:Nat}{r r':R2}{t u:TS}{a b:TV}
theorem op_l(h:Op K E X r a b Q):Op K E X (rOr r r') a b Q:=fun H0 σ ρ ts as H x y QV s x' k=>.inl (h H0 σ ρ ts as H x y QV s x' k)
theorem op_r(h:Op K E X r' a b Q):Op K E X (rOr r r') a b Q:=fun H0 σ ρ ts as H x y QV s x' k=>.inr (h H0 σ ρ ts as H x y QV s x' k)
noncomputable abbrev rPlus(K:W.Frag):R2:=rOr rAddI (rOr (rCatS K) (rOr (rCatT K) (rOr rStr2 (rCatT0 K))))
theorem ZoD(q:Q (.av (.d (.int (i+j))))):Op K E X (rOr rAddI r') (.av (.d (.int i))) (.av (.d (.int j))) Q:=op_l (ZmF q)
theorem Znf(c:CMul i j)(q:Q (.av (.d (.int (i*j))))):Op K E X (rOr rMulI r') (.av (.d (.int i))) (.av (.d (.int j))) Q:=op_l (op_i c q)
theorem eq_i(q:Q (.av (.d (.bool (decide (i=j)))))):Op K E X (rOr rEq r') (.av (.d (.int i))) (.av (.d (.int j))) Q:=op_l (ZmG q)
theorem ne_i(q:Q (.av (.d (.bool (!decide (i=j)))))):Op K E X (rOr rNe r') (.av (.d (.int i))) (.av (.d (.int j))) Q:=op_l (ZmH q)
theorem eq_d{α:Type}[DecidableEq α]{f:α→PyData}{m:Nat}{c d:α}(F:Enc f m)(ha:a.data=f c)(hb:b.data=f d)(q:Q (.av (.d (.bool (decide (c=d))))))(na:NR a:=by first|exact NR.av|exact NR.bor)(nb:NR b:=by first|exact NR.av|exact NR.bor)(hm:m≤32:=by decide):Op K E X (rOr rEq (rEqD K)) a b Q:=op_r (ZmI F ha hb q na nb hm)
noncomputable abbrev rIdx(K:W.Frag):R2:=rOr (rIxL K) (rOr (rIxT K) (rOr rIxS rIxDc))
theorem ix_L{ds:List PyData}{y:PyData}{c:TV}{k:Int}(ha:a.data=.list ds)(e:atI ds k=some y)(it:Item a y c)(q:Q c)(na:NR a:=by first|exact NR.av|exact NR.bor):Op K E X (rIdx K) a (.av (.d (.int k))) Q:=op_l (ZmJ ha e it q na)
theorem ix_T{ds:List PyData}{y:PyData}{c:TV}{k:Int}(ha:a.data=.tuple ds)(e:atI ds k=some y)(it:Item a y c)(q:Q c)(na:NR a:=by first|exact NR.av|exact NR.bor):Op K E X (rIdx K) a (.av (.d (.int k))) Q:=op_r (op_l (ZmK ha e it q na))
theorem ZoE{ds es:List PyData}(ha:a.data=.list ds)(hb:b.data=.list es)(ka:Kp a.frz ds)(kb:Kp b.frz es)(hz:ds.length+es.length≤1000000)(q:Q (.av (.own ((ds++es).map AV.d))))(na:NR a:=by first|exact NR.av|exact NR.bor)(nb:NR b:=by first|exact NR.av|exact NR.bor):Op K E X (rPlus K) a b Q:=op_r (op_l (Zlk ha hb ka kb hz q na nb))
theorem bi_l{c c':List V→Hp→VK→Prop}{bs:List TV}(h:Bi K E X c bs Q):Bi K E X (cOr c c') bs Q:=fun H0 σ ρ ts as H vs QV s hl x k=>.inl (h H0 σ ρ ts as H vs QV s hl x k)
theorem Zc5{ds:List PyData}(ha:a.data=.list ds)(q:Q (.av (.d (.int ds.length))))(na:NR a:=by first|exact NR.av|exact NR.bor):Bi K E X (cOr (rLen K) rLenS) [a] Q:=bi_l (Zli ha q na)
theorem ZdC{ds:List PyData}(ha:a.data=.tuple ds)(q:Q (.av (.d (.int ds.length))))(na:NR a:=by first|exact NR.av|exact NR.bor):Bi K E X (cOr (rLen K) rLenS) [a] Q:=bi_l (Zlj ha q na)
theorem Zlm{l:Addr}{ds:List PyData}:ItOk K (Itl K l) (.ref l) (.list ds) ds.length fun i=>ds.getD i .none:=by
 intro G H sm rp
 obtain⟨l',ys,e',h3,h4⟩:=rp.list_inv
 cases e'
 have h5:=sm.seq h3
 refine⟨fun i hi=>?_,fun i hi=>⟨ys,h5,by rw[h4.length];exact hi⟩⟩
 obtain⟨w,h6,h7⟩:=h4.get (i:=i) (d:=ds.getD i .none) (by rw[List.getD_eq_getElem?_getD,List.getElem?_eq_getElem hi];rfl)
 refine⟨⟨ys,w,h5,h6⟩,fun x H' ⟨e1,e2⟩=>?_⟩
 subst e1
 have:=e2 ys h5
 rw[h6] at this
 cases this
 exact⟨.refl _,fun G' m _=>h7.same m⟩
theorem ZjH{l:Addr}{ds:List PyData}:ItOk K (Itt K l) (.ref l) (.tuple ds) ds.length fun i=>ds.getD i .none:=by
 intro G H sm rp
 obtain⟨l',ys,e',h3,h4⟩:=rp.tuple_inv
 cases e'
 have h5:=sm.tupS h3
 refine⟨fun i hi=>?_,fun i hi=>⟨ys,h5,by rw[h4.length];exact hi⟩⟩
 obtain⟨w,h6,h7⟩:=h4.get (i:=i) (d:=ds.getD i .none) (by rw[List.getD_eq_getElem?_getD,List.getElem?_eq_getElem hi];rfl)
 refine⟨⟨ys,w,h5,h6⟩,fun x H' ⟨e1,e2⟩=>?_⟩
 subst e1
 have:=e2 ys h5
 rw[h6] at this
 cases this
 exact⟨.refl _,fun G' m _=>h7.same m⟩
theorem Zie{P:Nat→(Nat→PyData)→TV→Prop}(h:Ev K E X te ρ fun a=>∃ ds,(a.data=.list ds∨a.data=.tuple ds)∧NR a∧P ds.length (fun i=>ds.getD i .none) a.frz):Iv K E X (iSeq K te) ρ P:=fun H0 σ ts as H R s x k =>
 h H0 σ ts as H _ s x fun a ⟨ds,e,na,q⟩ v H' s'=>by
  have rp:=s'.top na
  rcases e with e|e
  ·rw[e] at rp
   obtain⟨l,xs,rfl,h1,h2⟩:=rp.list_inv
   refine⟨l,rfl,.inl ⟨⟨xs,h1⟩,k _ _ _ q (.ref l) _ H' (TV.frz_nr na) s'.frzV ?_⟩⟩
   rw[TV.frz_data,e]
   exact Zlm
  ·rw[e] at rp
   obtain⟨l,xs,rfl,h1,h2⟩:=rp.tuple_inv
   refine⟨l,rfl,.inr ⟨⟨xs,h1⟩,k _ _ _ q (.ref l) _ H' (TV.frz_nr na) s'.frzV ?_⟩⟩
   rw[TV.frz_data,e]
   exact ZjH
theorem Zcv{α:Type}{xs:List α}{e:α→PyData}{i:Nat}(hi:i<xs.length):(xs.map e).getD i .none=e xs[i]:=by
 rw[List.getD_eq_getElem?_getD,List.getElem?_map,List.getElem?_eq_getElem hi];rfl
theorem Zif{α:Type}{nx bk ct:Sl→Prop}{rt:TV→Prop}{g:TG}{tb:TS}(h:Ev K E X te ρ fun a=>∃ (xs:List α) (e:α→PyData),(a.data=.list (xs.map e)∨a.data=.tuple (xs.map e))∧(∃ c,a=.av c)∧∃ Iw:Nat→Sl→Prop,Iw 0 ρ∧(∀ i ρ' (hi:i<xs.length),Iw i ρ'→Gv K g (e xs[i]) ρ' fun ρ''=>Sv K E X tb ρ'' ⟨Iw (i+1),rt,nx,Iw (i+1)⟩)∧∀ ρ',Iw xs.length ρ'→nx ρ'):Sv K E X (tFor (iSeq K te) g tb) ρ ⟨nx,rt,bk,ct⟩ :=
 Zfu (Zie (Zex h (fun a hh=>by
  obtain⟨xs,e,ha,⟨c,hc⟩,Iw,i0,turn,fin⟩:=hh
  exact⟨xs.map e,ha,by subst hc;exact NR.av,⟨c.data,by rw[hc];rfl⟩,Iw,i0,fun i ρ' hi w=>by
  rw[List.length_map] at hi
  show Gv K g ((xs.map e).getD i .none) ρ' _
  rw[Zcv hi]
  exact turn i ρ' hi w,fun ρ' w=>fin ρ' (by rw[List.length_map] at w;exact w)⟩)))
theorem ZeN{nx bk ct:Sl→Prop}{rt:TV→Prop}{A:TA}{g:TG}{tb:TS}(h:Ea K E X A ρ fun bs=>∃ j,bs=[.av (.d (.int j))]∧(-(2 ^ 62)≤j∧j<2 ^ 62)∧∃ Iw:Nat→Sl→Prop,Iw 0 ρ∧(∀ (i:Nat) ρ',i<j.toNat→Iw i ρ'→Gv K g (.int i) ρ' fun ρ''=>Sv K E X tb ρ'' ⟨Iw (i+1),rt,nx,Iw (i+1)⟩)∧∀ ρ',Iw j.toNat ρ'→nx ρ'):Sv K E X (tFor (iRng1 A) g tb) ρ ⟨nx,rt,bk,ct⟩ :=
 Zfu (Zh6 fun H0 σ ts as H QV s x k=>h H0 σ ts as H QV s x (fun bs hh=>by
  obtain⟨j,e,hj,Iw,i0,turn,fin⟩:=hh
  exact k bs ⟨j,e,hj,⟨_,rfl⟩,Iw,i0,fun i ρ' hi w=>by
  show Gv K g (.int (0+(i:Int))) ρ' _
  rw[Int.zero_add]
  exact turn i ρ' hi w,fin⟩))
theorem ZdT{α:Type}(xs:List α)(f:α→Option AV):(List.range xs.length).filterMap (fun i=>(xs[i]?).bind f)=xs.filterMap f:=by
 induction xs with
 | nil=>rfl
 | cons x xs ih =>
  rw[List.length_cons,List.range_succ_eq_map,List.filterMap_cons,List.filterMap_map]
  have:(fun i=>((x::xs)[i]?).bind f) ∘ Nat.succ=fun i=>(xs[i]?).bind f:=by funext i;simp
  rw[this,ih]
  simp[List.filterMap_cons]
theorem Zng{α:Type}{cap:List (Option Nat)}{g:TG}{tt:TT}{ti:TE}(h:Ev K E X ti ρ fun a=>∃ (xs:List α) (e:α→PyData) (y:α→Option AV),(a.data=.list (xs.map e)∨a.data=.tuple (xs.map e))∧NR a∧xs.length≤1000000 ∧
  (∀ i (hi:i<xs.length),Gv K g (e xs[i]) (capV cap ρ) fun ρ'=>Wk ρ' (capV cap ρ)∧Tv K E NE tt ρ' fun b=>if b=true then Ev K E NE te ρ' fun a=>∃ c,y xs[i]=some c∧a.sto=some c else y xs[i]=none) ∧
  ∃ a,Got (.own (xs.filterMap y)) a∧Q a):Ev K E X (tComp cap (iSeq K ti) g tt te) ρ Q :=
 Zh7 (Zie (Zex h (fun a hh=>by
  obtain⟨xs,e,y,ha,na,hl,turn,c,hg,q⟩:=hh
  exact⟨xs.map e,ha,na,by rw[List.length_map];exact hl,fun i=>(xs[i]?).bind y,fun i hi=>by
  rw[List.length_map] at hi
  show Gv K g ((xs.map e).getD i .none) _ fun ρ'=>_∧Tv K E _ tt ρ' fun b=>if b=true then Ev K E _ te ρ' fun a=>∃ c,(xs[i]?).bind y=some c∧_ else (xs[i]?).bind y=none
  rw[Zcv hi,List.getElem?_eq_getElem hi]
  exact turn i hi,c,by rw[List.length_map,ZdT];exact hg,q⟩)))
theorem Zc6{α:Type}{cap:List (Option Nat)}{g:TG}{ti:TE}(h:Ev K E X ti ρ fun a=>∃ (xs:List α) (e:α→PyData) (y:α→AV),(a.data=.list (xs.map e)∨a.data=.tuple (xs.map e))∧NR a∧xs.length≤1000000 ∧
  (∀ i (hi:i<xs.length),Gv K g (e xs[i]) (capV cap ρ) fun ρ'=>Wk ρ' (capV cap ρ)∧Ev K E NE te ρ' fun a=>a.sto=some (y xs[i])) ∧
  ∃ a,Got (.own (xs.map y)) a∧Q a):Ev K E X (tComp cap (iSeq K ti) g tAll te) ρ Q :=
 Zng (α:=α) (Zex h (fun a hh=>by
  obtain⟨xs,e,y,ha,na,hl,turn,c,hg,q⟩:=hh
  exact⟨xs,e,fun x=>some (y x),ha,na,hl,fun i hi H0 σ ts as H v Qg s k=>turn i hi H0 σ ts as H v Qg s fun ρ' ⟨w,ev⟩=>k ρ' ⟨w,ZgC (by
  rw[if_pos rfl]
  exact Zex ev fun a z=>⟨_,rfl,z⟩)⟩,c,by rw[List.filterMap_eq_map'];exact hg,q⟩))
theorem Zig{cap:List (Option Nat)}{A:TA}{g:TG}(h:Ea K E X A ρ fun bs=>∃ (j:Int) (y:Nat→AV),bs=[.av (.d (.int j))]∧(-(2 ^ 62)≤j∧j≤1000000) ∧
  (∀ i:Nat,i<j.toNat→Gv K g (.int i) (capV cap ρ) fun ρ'=>Wk ρ' (capV cap ρ)∧Ev K E NE te ρ' fun a=>a.sto=some (y i)) ∧
  ∃ a,Got (.own ((List.range j.toNat).map y)) a∧Q a):Ev K E X (tComp cap (iRng1 A) g tAll te) ρ Q :=
 Zh7 (Zh6 fun H0 σ ts as H QV s x k=>h H0 σ ts as H QV s x (fun bs hh=>by
  obtain⟨j,y,e,hj,turn,c,hg,q⟩:=hh
  exact k bs ⟨j,e,⟨hj.1,by omega⟩,by omega,fun i=>some (y i),fun i hi H0 σ ts as H v Qg s k=>by
  have s:SR K H0 σ (capV cap ρ) (v::ts) (.av (.d (.int (0+(i:Int))))::as) H:=s
  rw[Int.zero_add] at s
  exact turn i hi H0 σ ts as H v Qg s fun ρ' ⟨w,ev⟩=>k ρ' ⟨w,ZgC (by
   rw[if_pos rfl]
   exact Zex ev fun a z=>⟨_,rfl,z⟩)⟩,c,by rw[List.filterMap_eq_map'];exact hg,q⟩))
theorem Zcw{α:Type}(xs:List α)(y:α→AV):(AV.own (xs.map y)).data=.list (xs.map fun x=>(y x).data):=by
 rw[AV.data,AV.datas_map,List.map_map];rfl
theorem ZaQ{α:Type}(xs:List α)(y:α→PyData):AV.datas (xs.map fun x=>.d (y x))=xs.map y:=by
 rw[AV.datas_map,List.map_map];rfl
theorem Zih{xs:List AV}(h:∀ x∈xs,x.clean=true):AV.cleans xs=true:=by
 induction xs with
 | nil=>rfl
 | cons x xs ih=>simp only[AV.cleans,Bool.and_eq_true];exact⟨h x (.head _),ih fun y hy=>h y (.tail _ hy)⟩
theorem ZaJ{α:Type}{xs:List α}{y:α→AV}(h:∀ x,(y x).clean=true):(AV.own (xs.map y)).clean=true:=by
 rw[AV.clean]
 exact Zih fun z hz=>by obtain⟨x,_,rfl⟩:=List.mem_map.mp hz;exact h x
end
end VL
end
section
namespace L2
open PySem PySem.Spec PyProof.Rows
noncomputable def tIfJ(c:TT)(t u:TS):TS:=tIfS c t u
theorem Zdz{X:Cx}{pos:Pos}{c:Expr}{a b:List Stmt}{tc:TT}{t u:TS}(hc:PT X c tc)(ha:PSs X a t)(hb:PSs X b u):PS X (.If c a b pos) (tIfJ tc t u):=Zdl hc ha hb
end L2
namespace VL
open PySem PySem.Spec PyProof.Rows L2
variable[Tabs]
noncomputable def NX:List PyData→Exc→Prop:=fun _ _=>False
noncomputable def ini(N:List Str)(ds:List PyData):Sl:=ds.map (fun d=>some (.d d))++List.replicate (N.length-ds.length) none
noncomputable abbrev fin(c:AV):VEnds:=⟨fun _=>c=.d .none,fun a=>Res a c,fun _=>False,fun _=>False⟩
section
variable{P:Program}{w:World}{K:W.Frag}{mg:Str→Option Value}{base:Heap}{CX:CXT}{x qual:Str}{st:Stmt}{N ps:List Str}{dvss:List (List V)}{k:Nat}{S:List PyData→AV→Prop}
theorem ZgF{t:TS}{vs:List V}{H:Hp}{Qv:VK}{E:XK}(sp:spV K S NX vs H Qv E)(h:∀ ds c,S ds c→Sv K (toF E) NE t (ini N ds) (fin c)):t { nx:=fun _ H'=>Qv .non H',rt:=Qv } (L2.start N vs) H :=
 Zlg (N:=N) sp fun ds=>⟨fun c hc=>h ds c hc,fun e he=>he.elim⟩
theorem Zln{vs:List V}{H:Hp}{Q:VK}{E:XK}{n:Nat}(h:spV K S NX vs H Q E)(hS:∀ ds c,S ds c→ds.length=n):vs.length=n:=by
 obtain⟨_,ds,r,⟨c,hc,_⟩|⟨e,he,_⟩⟩:=h
 ·rw[r.length];exact hS ds c hc
 ·exact he.elim
theorem val(T:Tx K mg x st ps dvss)(Sc:FnScope N ps (defScope st))(hS:∀ ds c,S ds c→ds.length=ps.length)
  (hbody:∀ (f:Addr) (cdv:Value) (A:Around) (outer:List Env) (s:Shared) (H:Hp) (E:XK),Room k (A.deeper (envOfC x (defScope st) s.heap.objs.size f cdv)) →
   ∃ t,PSs (cxOf CX P w K mg base N x (defScope st) f cdv A outer s H E).nox (defBody st) t∧∀ ds c,S ds c→Sv K (toF E) NE t (ini N ds) (fin c)) :
  ∀ dvs∈dvss,Cal P w K mg base CX (k+1) x ps dvs (spV K S NX) :=
 T.cal (k:=k) Sc (fun vs H Q E h=>Zln h hS) fun f cdv A outer s H vs Q E hr h =>
  let ⟨t,h1,h2⟩:=hbody f cdv A outer s H E hr
  ⟨t,h1,ZgF h h2⟩
end
section
variable{K:W.Frag}{E:FK}{X:Exc→Sl→Prop}{ρ:Sl}{Q:TV→Prop}{DV:VEnds}{ta tb te:TE}{i j:Int}{n:Nat}{r r':R2}{t u:TS}{a b:TV}
theorem v_b{c:Bool}{P:Bool→Prop}(h:P c):∃ c',TV.av (.d (.bool c))=.av (.d (.bool c'))∧P c':=⟨c,rfl,h⟩
theorem v_i{P:Int→Prop}(h:P i):∃ c',TV.av (.d (.int i))=.av (.d (.int c'))∧P c':=⟨i,rfl,h⟩
theorem v_s{c:AV}{P:AV→Prop}(h:P c):∃ a',Sto ρ (.av c) a'∧P a':=⟨c,.inl rfl,h⟩
theorem v_sB{x:PyData}{P:AV→Prop}(hn:NoOwn ρ)(h:P (.d x)):∃ a',Sto ρ (.bor x) a'∧P a':=⟨.d x,.inr (.inr ⟨hn,⟨x,rfl⟩,rfl⟩),h⟩
theorem v_ap{c:AV}{xs:List AV}{P:AV→Prop}(hz:xs.length≤1000000)(h:P c):∃ a',(TV.av c).sto=some a'∧xs.length≤1000000∧P a':=⟨c,rfl,hz,h⟩
noncomputable def Cl(S:List PyData→AV→Prop)(dds:List PyData)(Q:TV→Prop)(bs:List TV):Prop:=NRs bs∧∃ c a,S (bs.map TV.data++dds) c∧Got c a∧Q a
theorem Zcg{S:List PyData→AV→Prop}{bs:List TV}{dds:List PyData}{c:AV}(nr:NRs bs)(hS:S (bs.map TV.data++dds) c)(g:Got c a)(q:Q a):Cl S dds Q bs:=⟨nr,c,a,hS,g,q⟩
theorem ZoF{S:List PyData→AV→Prop}{SX:List PyData→Exc→Prop}{dvs:List V}{dds:List PyData}{A:TA}{E':XK}(hd:DvDs dvs dds)(h:Ea K E X A ρ (Cl S dds Q)):Ev K E X (tCall (spV K S SX) dvs E' A) ρ Q:=fun H0 σ ts as H QV s x k =>
 h H0 σ ts as H _ s x fun bs ⟨nr,c,a,h1,h2,h3⟩ vs H' s' hl=>by
  obtain⟨rp,s2⟩:=SR.reps nr.all hl s'
  exact⟨x.t.same s2.same,bs.map TV.data++dds,rp.append hd.reps,.inl ⟨c,h1,fun v H2 r=>k a h3 v H2 (s2.gotG r h2)⟩⟩
theorem ZoG{S:List PyData→AV→Prop}{SX:List PyData→Exc→Prop}{A:TA}{E':XK}(h:Ea K E X A ρ (Cl S [] Q)):Ev K E X (tCall (spV K S SX) [] E' A) ρ Q:=ZoF .nil h
theorem Zbz{x:PyData}{c:AV}(h:c=.d x):Res (.av (.d x)) c:=.inl (by rw[h])
theorem Zhp{xs:List AV}{c:AV}(h:c=.own xs):Res (.av (.own xs)) c:=.inl (by rw[h])
theorem Znh{nx nx' bk ct:Sl→Prop}{rt:TV→Prop}(h:Sv K E X t ρ ⟨nx',rt,bk,ct⟩)(m:∀ ρ',nx' ρ'→nx ρ'):Sv K E X t ρ ⟨nx,rt,bk,ct⟩:=fun H0 σ ts as H D st s x f=>h H0 σ ts as H D st s x ⟨fun ρ' q=>f.nx ρ' (m ρ' q),f.bk,f.ct,f.rt⟩
theorem Zf6{nx bk ct:Sl→Prop}{rt:TV→Prop}{c:TT}(J:Sl→Prop)(hJ:∀ ρ',J ρ'→nx ρ')(h:Tv K E X c ρ fun b=>if b=true then Sv K E X t ρ ⟨J,rt,bk,ct⟩ else Sv K E X u ρ ⟨J,rt,bk,ct⟩):Sv K E X (tIfJ c t u) ρ ⟨nx,rt,bk,ct⟩:=Znh (ZmR h) hJ
theorem iteNT{A B:Prop}(h:B):if (!true)=true then A else B:=h
theorem iteNF{A B:Prop}(h:A):if (!false)=true then A else B:=h
theorem ZoH(q:Q (.av (.own []))):Ev K E X (tLst tNil) ρ Q:=Zft (Zkr ⟨[],.nil,Nat.zero_le _,q⟩)
end
end VL
end
section
namespace L2
open PySem PySem.Spec PyProof.Rows
structure Exn(tb:Bool)(B:Heap)(l:List Env)(e:Addr)(cls:Value)(d:Option Addr)(h:Heap):Prop where
 stays:B.StaysIn h
 new:B.get? e=none
 frs:h.FunFrames B l
 ob:∃ (oe:Obj) (vs:Array Value),h.get? e=some oe∧oe.cls=cls∧oe.dict=d∧oe.data=.fields vs∧1<vs.size ∧
  (if tb=true then ∃ T oT ts,vs[1]?=some (.ref T)∧B.get? T=none∧T≠e∧h.get? T=some oT∧oT.data=.fields ts∧3<ts.size else vs[1]?=some .none)
section
variable{M:Model}{A:Around}{E:Value→Shared→Prop}{s:Shared}{B:Heap}{env:Env}{outer l:List Env}{L e:Addr}{cls:Value}{d:Option Addr}{tb:Bool}{Q:Unit→Shared→Prop}
theorem Zfx{h:Heap}{b:Addr}{o oe:Obj}{vs:Array Value}(hb:h.get? b=some o)(hn:∀ ws,o.data≠.fields ws)(he:h.get? e=some oe)(hd:oe.data=.fields vs):b≠e:=fun q=>by
 subst q
 rw[hb] at he
 cases he
 exact hn vs hd
theorem Zfy{oe:Obj}{vs:Array Value}{head:Value}{had:Bool}(hfr:A.frames=some (env::outer))(hf:env.frame=some L)(st:B.StaysIn s.heap)(ne:B.get? e=none)(fr:s.heap.FunFrames B (env::outer))
  (he:s.heap.get? e=some oe) (hc:oe.cls=cls) (hdi:oe.dict=d) (hd:oe.data=.fields vs) (hz:1<vs.size)
  (q:∀ h',Exn true B (env::outer) e cls d h'→s.heap.UpToSlots h'→Q () { s with heap:=h' }) :
  wpAny M A (do let a ← frameOf env;let pl ← entryPlaceOf L had;let b ← EntryCells.newEntry head a .none (rawInt L) .none pl;setField (.ref e) 1 b) Q E s:=by
 have nf:e∉(env::outer).filterMap (·.frame):=fun hm=>by
  obtain⟨_,o,ho,hn⟩:=fr.mem hm
  exact Zfx ho hn he hd rfl
 refine wpAny_bind (wpAny_frameOf_fun hfr fr hf fun h1 so=>wpAny_bind (wpAny_entryPlaceOf fun pl hpl=>?_))
 unfold EntryCells.newEntry newFields
 refine wpAny_bind (wpAny_newObj_type ?_ (hpl.sizeOk5 _ _ _ _ _))
 have e1:h1.get? e=some oe:=by rw[so.2.1 e nf];exact he
 have s1:B.StaysIn h1:=fun b o z=>by rw[so.2.1 b fun hm=>by rw[(fr.mem hm).1] at z;cases z];exact st b o z
 generalize hob:({ cls:=.type "traceback",dict:=none,data:=.fields ([head,.ref L,.none,rawInt L,.none]++(if pl.isEmpty then List.replicate 6 Value.none else pl)).toArray }:Obj)=ot
 have e2:(h1.push ot).get? e=some oe:=Heap.get?_push_of_some _ e1
 have hT:(h1.push ot).get? h1.objs.size=some ot:=Heap.get?_push_size _ (by rw[← hob];rfl)
 have nT:h1.objs.size≠e:=Nat.ne_of_gt (Heap.lt_size e1)
 refine wpAny_setField e2 hd hz (q _ ⟨fun b o z=>?_,ne,fr.of_keeps fun b o hb hn=>?_,?_⟩ fun b o hb hn=>?_)
 ·rw[Heap.get?_update_other _ _ (fun y:e=b=>by rw[← y,ne] at z;cases z)]
  exact Heap.get?_push_of_some _ (s1 b o z)
 ·obtain⟨sl,hs⟩:=so.2.2 b o hb
  exact⟨{ o with slots:=sl },by rw[Heap.get?_update_other _ _ (Ne.symm (Zfx hb hn he hd))];exact Heap.get?_push_of_some _ hs,rfl⟩
 ·have d3:=Obj.data_mapFields hd (·.setIfInBounds 1 (Value.ref h1.objs.size))
  refine⟨_,_,Heap.get?_update_self _ e2 (Obj.isFreed_of_fields d3),?_,?_,d3,by simpa using hz,?_⟩
  ·rw[Obj.cls_mapFields];exact hc
  ·rw[← hdi];obtain⟨_,_,dt,_⟩:=oe;cases dt<;>rfl
  ·rw[if_pos rfl]
   refine⟨h1.objs.size,ot,_,by simp[hz],s1.fresh,nT,by rw[Heap.get?_update_other _ _ (Ne.symm nT)];exact hT,by rw[← hob],?_⟩
   simp only[List.size_toArray,List.length_append,List.length_cons,List.length_nil]
   omega
 ·obtain⟨sl,hs⟩:=so.2.2 b o hb
  exact⟨sl,by rw[Heap.get?_update_other _ _ (Ne.symm (Zfx hb hn he hd))];exact Heap.get?_push_of_some _ hs⟩
theorem ZgG{T:Addr}{oT:Obj}{ts:Array Value}{v:Value}(x:Exn true B l e cls d s.heap)(hT:∃ oe vs,s.heap.get? e=some oe∧oe.data=.fields vs∧vs[1]?=some (.ref T))(nT:B.get? T=none)(ho:s.heap.get? T=some oT)(hd:oT.data=.fields ts) :
  Exn true B l e cls d (s.heap.update T (Obj.mapFields (·.setIfInBounds 3 v)))∧s.heap.UpToSlots (s.heap.update T (Obj.mapFields (·.setIfInBounds 3 v))):=by
 obtain⟨st,ne,fr,oe,vs,he,hc,hdi,hdd,hz,ht⟩:=x
 rw[if_pos rfl] at ht
 obtain⟨T',oT',ts',h1,n1,ne1,g1,d1,z1⟩:=ht
 obtain⟨oe',vs',he',hd',h1'⟩:=hT
 rw[he] at he'
 cases he'
 rw[hdd] at hd'
 cases hd'
 rw[h1] at h1'
 cases h1'
 rw[ho] at g1
 cases g1
 rw[hd] at d1
 cases d1
 have ot:∀ b,b≠T→(s.heap.update T (Obj.mapFields (·.setIfInBounds 3 v))).get? b=s.heap.get? b:=fun b hb=>Heap.get?_update_other _ _ (Ne.symm hb)
 have d3:=Obj.data_mapFields hd (·.setIfInBounds 3 v)
 refine⟨⟨fun b o z=>?_,ne,fr.of_keeps fun b o hb hn=>⟨o,by rw[ot b (Zfx hb hn ho hd)];exact hb,rfl⟩,oe,vs,by rw[ot e (Ne.symm ne1)];exact he,hc,hdi,hdd,hz,?_⟩,fun b o hb hn=>⟨o.slots,by rw[ot b (Zfx hb hn ho hd)];exact hb⟩⟩
 ·rw[ot b (fun y=>by rw[y,nT] at z;cases z)]
  exact st b o z
 ·rw[if_pos rfl]
  exact⟨T,_,_,h1,nT,ne1,Heap.get?_update_self _ ho (Obj.isFreed_of_fields d3),d3,by simpa using z1⟩
theorem ZeO(hfr:A.frames=some (env::outer))(hf:env.frame=some L)(x:Exn tb B (env::outer) e cls d s.heap)
  (q:∀ h',Exn true B (env::outer) e cls d h'→s.heap.UpToSlots h'→Q () { s with heap:=h' }):wpAny M A (noteFrame (.ref e) env) Q E s:=by
 obtain⟨oe,vs,he,hc,hdi,hd,hz,ht⟩:=x.ob
 unfold noteFrame
 simp only[hf]
 cases tb with
 | false =>
  rw[if_neg Bool.false_ne_true] at ht
  refine wpAny_bind (wpAny_field he hd ht ?_)
  rw[if_neg (by decide)]
  exact Zfy hfr hf x.stays x.new x.frs he hc hdi hd hz q
 | true =>
  rw[if_pos rfl] at ht
  obtain⟨T,oT,ts,h1,n1,ne1,g1,d1,z1⟩:=ht
  refine wpAny_bind (wpAny_field he hd h1 ?_)
  rw[if_pos (show (Value.ref T != Value.none)=true from by simp)]
  refine wpAny_bind (wpAny_field g1 d1 (Array.getElem?_eq_getElem z1) ?_)
  by_cases hb:(ts[3] == rawInt L)=true
  ·rw[if_pos hb]
   exact wpAny_pure (q s.heap x (.refl _))
  ·rw[if_neg hb]
   refine wpAny_bind (wpAny_setField g1 d1 z1 ?_)
   obtain⟨x2,u2⟩:=ZgG (v:=.none) x ⟨oe,vs,he,hd,h1⟩ n1 g1 d1
   obtain⟨oe2,vs2,he2,hc2,hdi2,hd2,hz2,_⟩:=x2.ob
   exact Zfy (s:={ s with heap:=s.heap.update T (Obj.mapFields (·.setIfInBounds 3 .none)) }) hfr hf x2.stays x2.new x2.frs he2 hc2 hdi2 hd2 hz2 fun h' x3 u3=>q h' x3 (u2.trans u3)
theorem Zcx{fo:Option Addr}(x:Exn true B l e cls d s.heap)(q:∀ h',Exn true B l e cls d h'→s.heap.UpToSlots h'→Q () { s with heap:=h' }):wpAny M A (setFlight (.ref e) fo) Q E s:=by
 obtain⟨oe,vs,he,hc,hdi,hd,hz,ht⟩:=x.ob
 rw[if_pos rfl] at ht
 obtain⟨T,oT,ts,h1,n1,ne1,g1,d1,z1⟩:=ht
 unfold setFlight
 refine wpAny_bind (wpAny_field he hd h1 ?_)
 rw[if_pos (show (Value.ref T != Value.none)=true from by simp)]
 obtain⟨x2,u2⟩:=ZgG (v:=fo.elim Value.none fun f=>rawInt f) x ⟨oe,vs,he,hd,h1⟩ n1 g1 d1
 exact wpAny_setField g1 d1 z1 (q _ x2 u2)
theorem Zii(hfr:A.frames=some (env::outer))(hf:env.frame=some L)(x:Exn tb B (env::outer) e cls d s.heap)
  (q:∀ h',Exn true B outer e cls d h'→s.heap.UpToSlots h'→Q () { s with heap:=h' }):wpAny M A (leaving env (.ref e)) Q E s:=by
 unfold leaving
 refine wpAny_bind (ZeO hfr hf x fun h1 x1 u1=>Zcx (s:={ s with heap:=h1 }) x1 fun h2 x2 u2=>q h2 ⟨x2.stays,x2.new,x2.frs.2.2,x2.ob⟩ (u1.trans u2))
theorem ZjI(hfr:A.frames=some (env::outer))(hf:env.frame=some L)(x:Exn tb B (env::outer) e cls d s.heap){X:Value→Shared→Prop}
  (q:∀ h',Exn true B (env::outer) e cls d h'→s.heap.UpToSlots h'→X (.ref e) { s with heap:=h' }):notedBy M A env (cameBackBy M A env X) (.ref e) s:=by
 refine ZeO hfr hf x fun h1 x1 u1=>?_
 obtain⟨oe,vs,he,hc,hdi,hd,hz,ht⟩:=x1.ob
 rw[if_pos rfl] at ht
 obtain⟨T,oT,ts,g0,_⟩:=ht
 unfold cameBackBy
 refine wpAny_bind (wpAny_field (s:={ s with heap:=h1 }) he hd g0 ?_)
 rw[if_neg (by simp)]
 exact Zcx (s:={ s with heap:=h1 }) x1 fun h2 x2 u2=>q h2 x2 (u1.trans u2)
end
end L2
end
section
namespace L2
open PySem PySem.Spec PyProof.Rows
structure Grd(X:Cx)(B:Heap):Prop where
 keep:∀ b o,X.s₀.heap.get? b=some o→X.H₀ b=none→b∉frs X.stack→b∉X.ex→B.get? b=some o
 there:∀ b o,X.s₀.heap.get? b=some o→b∉frs X.stack→b∉X.ex→∃ o',B.get? b=some o'
 pn:∀ p∈X.pn,B.get? p.1=some p.2
noncomputable def XE(X:Cx)(F:FK)(e:Value)(s:Shared):Prop:=∃ (ea:Addr) (cls:Value) (d:Option Addr) (tb:Bool) (B:Heap) (H:Hp) (σ:St),
 e=.ref ea∧Exn tb B X.stack ea cls d s.heap∧Inv X [] σ H s∧HOk X.prog X.w H B∧Grd X B∧F cls d σ H
noncomputable def CXE(P:Program)(w:World):CXT:=fun outer H s E e s'=>∃ (ea:Addr) (cls:Value) (d:Option Addr) (B:Heap) (H':Hp),
 e=.ref ea∧Exn true B outer ea cls d s'.heap∧s'.os=s.os∧AllBare s'.gens∧Un (frs outer) [] H H' s.heap s'.heap∧HOk P w H' B ∧
  (∀ b o,s.heap.get? b=some o→H b=none→b∉frs outer→B.get? b=some o)∧(∀ b o,s.heap.get? b=some o→b∉frs outer→∃ o',B.get? b=some o')∧E cls d H'
section
variable{X:Cx}{pins:List (Addr×Obj)}{σ:St}{H:Hp}{s:Shared}{F:FK}
theorem Zij{l:List Env}{env:Env}{b:Addr}(h:b∈frs (env::l)):env.frame=some b∨b∈frs l:=by
 obtain⟨x,hx,e⟩:=List.mem_filterMap.mp h
 rcases List.mem_cons.mp hx with z|z
 ·exact .inl (z▸e)
 ·exact .inr (List.mem_filterMap.mpr ⟨x,z,e⟩)
theorem Inv.entry_frs(I:Inv X pins σ H s){b:Addr}{o:Obj}(hb:X.s₀.heap.get? b=some o)(hf:b∈frs X.stack):b∈X.fs:=by
 rcases I.ok.stk with e|⟨e,ef⟩
 ·rw[e] at hf;exact hf
 ·rw[e] at hf
  rcases Zij hf with z|z
  ·rw[ef] at z
   cases z
   exact absurd (Nat.lt_of_lt_of_le (Heap.lt_size hb) I.ok.above) (Nat.lt_irrefl _)
  ·exact z
theorem ZeP(I:Inv X pins σ H s){b:Addr}(h:b∈X.fs):b∈frs X.stack:=by
 rcases I.ok.stk with e|⟨e,_⟩
 ·rw[e];exact h
 ·rw[e]
  obtain⟨x,hx,ef⟩:=List.mem_filterMap.mp h
  exact List.mem_filterMap.mpr ⟨x,.tail _ hx,ef⟩
theorem Zey{h h':Heap}{c:Addr}{v:Option Value}(u:h.UpToSlots h')(x:h.IsCell c v):h'.IsCell c v:=by
 obtain⟨o,e,hd⟩:=x
 obtain⟨sl,e2⟩:=u c o e fun vs z=>by rw[hd] at z;cases z
 exact⟨_,e2,hd⟩
theorem Zku{h':Heap}{B:Heap}{tb:Bool}{ea:Addr}{cls:Value}{d:Option Addr}(I:Inv X pins σ H s)(x:Exn tb B X.stack ea cls d s.heap)(st:B.StaysIn h')(u:s.heap.UpToSlots h')(g:Grd X B):Un X.fs X.ex X.H₀ H X.s₀.heap h' where
 keep:=fun b o e n nf ne=>st b o (g.keep b o e n (fun z=>nf (I.entry_frs e z)) ne)
 slot:=fun b o e n hf ne=>by
  obtain⟨sl,e1⟩:=I.base.slot b o e n hf ne
  obtain⟨_,o2,e2,hn⟩:=x.frs.mem (ZeP I hf)
  rw[e1] at e2
  cases e2
  obtain⟨sl2,e3⟩:=u b _ e1 hn
  exact⟨sl2,e3⟩
 free:=I.base.free
 there:=fun b o e ne=>by
  by_cases hf:b∈frs X.stack
  ·obtain⟨_,o2,e2,hn⟩:=x.frs.mem hf
   obtain⟨sl,e3⟩:=u b o2 e2 hn
   exact⟨_,e3⟩
  ·obtain⟨o',e1⟩:=g.there b o e hf ne
   exact⟨o',st b o' e1⟩
 tups:=I.base.tups
 frzs:=I.base.frzs
 tbls:=I.base.tbls
theorem Inv.fly{h':Heap}{B:Heap}{tb:Bool}{ea:Addr}{cls:Value}{d:Option Addr}(I:Inv X [] σ H s)(x:Exn tb B X.stack ea cls d s.heap)(st:B.StaysIn h')(u:s.heap.UpToSlots h')(hB:HOk X.prog X.w H B)(g:Grd X B):Inv X [] σ H { s with heap:=h' } where
 ok:=I.ok
 os:=I.os
 bare:=I.bare
 base:=Zku I x st u g
 loc:=by
  obtain⟨m,hn,hl⟩:=I.loc
  refine⟨m,u.ns hn,fun i x v h1 h2 h3=>?_⟩
  obtain⟨w,r,l⟩:=hl i x v h1 h2 h3
  refine⟨w,r,?_⟩
  rcases l with l|⟨k,c,e,hc⟩
  ·exact .inl l
  ·exact .inr ⟨k,c,e,Zey u hc⟩
 cell:=fun x c e=>by
  obtain⟨v,hc⟩:=I.cell x c e
  exact⟨v,Zey u hc⟩
 free:=I.free
 freeC:=I.freeC
 pin:=fun p hp=>by
  obtain⟨_,b,c,d,e⟩:=I.pin p hp
  have hp':p∈X.pn:=by simpa using hp
  exact⟨st _ _ (g.pn p hp'),b,c,d,e⟩
 hok:=hB.kept st
 len:=I.len
theorem Zfz(hst:X.stack=X.env::X.outer)(hf:X.env.frame=some X.env.locals):PassesOwn (model X.prog X.w) X.A X.env (XE X F):=by
 rintro e s' ⟨ea,cls,d,tb,B,H,σ,rfl,x,I,hB,g,f⟩
 have hfr:=I.ok.frames
 rw[hst] at hfr x
 refine ZjI hfr hf x fun h' x' u=>?_
 rw[← hst] at x x'
 exact⟨ea,cls,d,true,B,H,σ,rfl,x',I.fly x x'.stays u hB g,hB,g,f⟩
theorem ZdU{e:Value}{s':Shared}(I:Inv X pins σ H s)(h:CXE X.prog X.w X.stack H s (fun c d H'=>F c d σ H') e s'):XE X F e s':=by
 obtain⟨ea,cls,d,B,H',rfl,x,os,bare,un,hB,inB,thB,f⟩:=h
 have I':Inv X pins σ H' s':=I.call' (ch:=[]) os un (hB.kept x.stays) bare (fun b z=>nomatch z)
 refine⟨ea,cls,d,true,B,H',σ,rfl,x,I'.pins_of fun p hp=>I'.pin p (by simpa using List.mem_append_left _ (by simpa using hp)),hB,⟨fun b o e n nf ne=>?_,fun b o e nf ne=>?_,fun p hp=>?_⟩,f⟩
 ·exact inB b o (I.base.keep b o e n (fun z=>nf (ZeP I z)) ne) (I.base.free b o e n ne) nf
 ·obtain⟨o',e'⟩:=I.base.there b o e ne
  exact thB b o' e' nf
 ·obtain⟨e1,n1,l1,f1,_⟩:=I.pin p (List.mem_append_left _ hp)
  refine inB _ _ e1 n1 fun z=>?_
  rcases I.ok.stk with e|⟨e,ef⟩
  ·rw[e] at z;exact f1 z
  ·rw[e] at z
   rcases Zij z with y|y
   ·rw[ef] at y;exact l1 (Option.some.inj y).symm
   ·exact f1 y
theorem Zlo{h':Heap}{ea:Addr}{oe:Obj}{vs:Array Value}{H':Hp}(I:Inv X pins σ H s)(I':Inv X pins σ H' { s with heap:=h' })(k:∀ b o,s.heap.get? b=some o→b∉frs X.stack→H b=none→h'.get? b=some o)
  (he:h'.get? ea=some oe) (hd:oe.data=.fields vs) (hz:1<vs.size) (h1:vs[1]?=some .none) (hn:H' ea=none) (hnew:s.heap.get? ea=none) (th:∀ b o,s.heap.get? b=some o→∃ o',h'.get? b=some o') (f:F oe.cls oe.dict σ H'):XE X F (.ref ea) { s with heap:=h' }:=by
 have nf:ea∉frs X.stack:=fun hm=>by
  obtain⟨_,o,ho,hdn⟩:=I'.stack.mem hm
  rw[he] at ho
  cases ho
  exact hdn vs hd
 have hin:∀ env∈X.stack,∀ a,env.frame=some a→a∈ea::frs X.stack:=fun env h1 a h2=>.tail _ (List.mem_filterMap.mpr ⟨env,h1,h2⟩)
 refine⟨ea,oe.cls,oe.dict,false,PySem.W.hideAll h' (ea::frs X.stack),H',σ,rfl,⟨fun b o e=>PySem.W.of_hideAll _ e,PySem.W.hideAll_none _ (.head _),PySem.W.funFrames_hide I'.stack hin,oe,vs,he,rfl,rfl,hd,hz,by rw[if_neg Bool.false_ne_true];exact h1⟩,
  I'.pins_of fun p hp=>I'.pin p (by simpa using List.mem_append_left _ (by simpa using hp)),fun a o e=>?_,⟨fun b o e n nf' ne=>?_,fun b o e nf' ne=>?_,fun p hp=>?_⟩,f⟩
 ·refine (I'.hok a o e).stay (fun b u hb q=>PySem.W.hideAll_get _ q fun hm=>?_) (fun _ z=>z) fun _ _ z=>z
  have hnb:H' b=none:=by
   rcases List.mem_cons.mp hm with z|z
   ·rw[z];exact hn
   ·exact I'.stkFree b z
  rcases hb with z|z
  ·rw[z,e] at hnb;cases hnb
  ·rw[z] at hnb;cases hnb
 ·have e1:=I.base.keep b o e n (fun z=>nf' (ZeP I z)) ne
  exact PySem.W.hideAll_get _ (k b o e1 nf' (I.base.free b o e n ne)) fun hm=>by
   rcases List.mem_cons.mp hm with z|z
   ·rw[z,hnew] at e1;cases e1
   ·exact nf' z
 ·obtain⟨o1,e1⟩:=I.base.there b o e ne
  obtain⟨o',e'⟩:=th b o1 e1
  exact⟨o',PySem.W.hideAll_get _ e' fun hm=>by
   rcases List.mem_cons.mp hm with z|z
   ·rw[z,hnew] at e1;cases e1
   ·exact nf' z⟩
 ·obtain⟨e1,n1,l1,f1,_⟩:=I'.pin p (List.mem_append_left _ hp)
  obtain⟨e0,n0,l0,f0,_⟩:=I.pin p (List.mem_append_left _ hp)
  refine PySem.W.hideAll_get _ e1 fun z=>?_
  rcases List.mem_cons.mp z with z|z
  ·rw[z,hnew] at e0;cases e0
  rcases I.ok.stk with e|⟨e,ef⟩
  ·rw[e] at z;exact f1 z
  ·rw[e] at z
   rcases Zij z with y|y
   ·rw[ef] at y;exact l1 (Option.some.inj y).symm
   ·exact f1 y
end
theorem PSs.xmono{X:Cx}{E':Value→Shared→Prop}{st:List Stmt}{t:TS}(h:PSs (X.wish E') st t)(m:∀ e s,E' e s→X.xe e s):PSs X st t:=fun pins s σ H D I hw =>
 wpAny_mono (h pins s σ H D (I.wish _) hw) (fun _ _ q=>q.unwish) fun e s z=>m e s z
theorem ZgH{P:Program}{w:World}{K:W.Frag}{mg:Str→Option Value}{base:Heap}{N:List Str}{qual:Str}{scope:Scope}{f:Addr}{cd:Value}{A:Around}{outer:List Env}{s₀:Shared}{H₀:Hp}{E:XK}{e:Value}{s:Shared}
  (h:XE (cxOf (CXE P w) P w K mg base N qual scope f cd A outer s₀ H₀ E) (fun c d _ H'=>E c d H') e s):(cxOf (CXE P w) P w K mg base N qual scope f cd A outer s₀ H₀ E).xe e s:=by
 obtain⟨ea,cls,d,tb,B,H,σ,rfl,x,I,hB,g,q⟩:=h
 have hfr:=I.ok.frames
 refine Zii hfr rfl x fun h' x' u=>⟨ea,cls,d,B,H,rfl,x',I.os,I.bare,Zku I x x'.stays u g,hB,fun b o e n nf=>?_,fun b o e nf=>?_,q⟩
 ·exact g.keep b o e n (fun z=>nf (I.entry_frs e z)) (fun z=>nomatch z)
 ·exact g.there b o e (fun z=>nf (I.entry_frs e z)) (fun z=>nomatch z)
end L2
end
section
namespace L2
open PySem PySem.Spec PyProof.Rows
section
variable{K:W.Frag}{h:Heap}{C:Addr}{bmB:List Value}{newId:String}
theorem Zlp(X:K.In h)(q:PySem.W.excIn K C bmB newId=true):∃ tl N nm qn bs hdct sn sub ab col dd k0 k1 k2 k3 k5 mN,
  h.get? C=some (excClassObj nm qn C N bs tl hdct sn sub ab col dd k0 k1 k2 k3 k5 newId)∧h.Ns N mN∧mN "__init__" = none∧OwnTail h bmB tl:=by
 unfold PySem.W.excIn at q
 split at q
 ·rename_i dd cd sl ho
  split at q
  ·rename_i C' bm k0 k1 k2 k3 n k5 hm hs
   simp only[Bool.and_eq_true,beq_iff_eq,Bool.not_eq_true'] at q
   obtain⟨⟨⟨⟨⟨z1,z2⟩,hdel⟩,ht⟩,hok⟩,hni⟩:=q
   subst z1 z2
   obtain⟨nm,bs,mro,ns,qn,hd,sn,sub,ab,col,del⟩:=cd
   dsimp only at hm hdel hok hni
   subst hm hdel
   have hsl:sl=#[k0,k1,k2,k3,some (.builtin n),k5]:=by
    obtain⟨l⟩:=sl
    simp only at hs
    rw[hs]
   subst hsl
   exact⟨bm,ns,nm,qn,bs,hd,sn,sub,ab,col,dd,k0,k1,k2,k3,k5,_,X _ _ ho,.of_isNs (PySem.W.isNs_of_in X hok),PySem.W.nsMap_none_of_in X hok hni,PySem.W.tail_of_in X ht⟩
  ·cases q
 ·cases q
end
theorem ZdV{P:Program}{w:World}{H:Hp}{h:Heap}{a:Addr}{o:HO}(x:ObjOk P w H h a o):∃ u,h.get? a=some u:=by
 induction o with
 | lst xs=>obtain⟨_,_,_,_,e⟩:=x;exact⟨_,e⟩
 | tup xs=>obtain⟨_,_,_,_,e,_⟩:=x;exact⟨_,e⟩
 | dK kvs=>obtain⟨_,_,_,_,_,_,_,e,_⟩:=x;exact⟨_,e⟩
 | dT kvs=>obtain⟨_,_,_,_,_,_,_,e,_⟩:=x;exact⟨_,e⟩
 | dN kvs=>obtain⟨_,_,_,_,_,_,_,e,_⟩:=x;exact⟨_,e⟩
 | set S n=>obtain⟨_,_,_,_,e,_⟩:=x;exact⟨_,e⟩
 | ins C dx fs=>obtain⟨_,_,_,e,_⟩:=x;exact⟨_,e⟩
 | own y=>exact x
 | xd fs=>obtain⟨_,⟨_,_,_,e,_⟩,_⟩:=x;exact⟨_,e⟩
 | rng lo hi=>obtain⟨_,_,_,e⟩:=x;exact⟨_,e⟩
 | frz ob u ih=>exact⟨_,x.1⟩
 | tbl ps=>exact⟨_,x⟩
 | tbq q=>obtain⟨_,e,_⟩:=x;exact⟨_,e⟩
 | met f y=>exact⟨_,x⟩
 | ext φ=>exact x.2.1
section
variable{X:Cx}{F:FK}{C:Addr}{x:Str}{np cpos pos:Pos}{bm bmN:List Value}{B Bn newId nid initId inN:String}
noncomputable def tRaise(C:Addr)(F:FK):TS:=fun _ σ H=>F (.ref C) none σ H
theorem ZdW(Fn:ExcBaseFacts Bn newId inN bmN)(hBn:bm.contains (.type Bn)=true)(FB:ExcBaseFacts B nid initId bm)(hx:PySem.W.excIn X.K C bm newId=true)(hc:X.calm=true)(hg:Gl X x)(hm:X.mg x=some (.ref C))(hd:(x == ("__debug__" : Str))=false:=by decide) :
  PS (X.wish (XE X F)) (.Raise (some (.Call (.Name x np) [] [] cpos)) none pos) (tRaise C F):=by
 intro pins s σ H D I f
 have I0:Inv X pins σ H s:=I.unwish
 obtain⟨tl,N,nm,q,bs,hdct,sn,sub,ab,col,dd,k0,k1,k2,k3,k5,mN,hC,hN,hni,T⟩:=Zlp I0.kIn hx
 refine wpAny_Raise_call_subU (C:=C) (nm:=nm) (q:=q) (N:=N) (bs:=bs) (bm:=tl) (hdct:=hdct) (sn:=sn) (sub:=sub) (ab:=ab) (col:=col) (dd:=dd) (k0:=k0) (k1:=k1) (k2:=k2) (k3:=k3) (k5:=k5) (mN:=mN)
  Fn hBn FB (T.hasType FB.hasBase) (I0.ok.hd hc) rfl hni (ZcJ (X:=X.wish (XE X F)) I hg hm ⟨rfl,evalArgs_empty ⟨rfl,Nat.zero_le _,hC,hN,T,fun h' e mk=>?_⟩⟩ hd)
 obtain⟨t,he,ht,_⟩:=mk.there
 have I':Inv X pins σ H { s with heap:=h' }:=I0.kept (t':=s.toks) mk.keeps
 have hn:H e=none:=by
  cases z:H e with
  | none=>rfl
  | some o =>
   obtain⟨u,hu⟩:=ZdV (I0.hok e o z)
   rw[mk.new] at hu
   cases hu
 exact Zlo I0 I' (fun b o z _ _=>mk.keeps b o z) he rfl (by simp) rfl hn mk.new (fun b o z=>⟨o,mk.keeps b o z⟩) f
end
end L2
end
section
namespace L2
open PySem PySem.Spec PyProof.Rows
noncomputable def tCallX(sp:Sp)(dvs:List V)(F:FK)(t:TA):TE:=fun σ H Q=>t σ H fun vs H1=>sp (vs++dvs) H1 Q fun c d H'=>F c d σ H'
section
variable{X:Cx}{k:Nat}{f:Addr}{fd:FuncData}{ps:List Str}{sp:Sp}{dvs:List V}{ds:List Value}{F:FK}{x:Str}{p pos:Pos}{e:Expr}{es:List Expr}{t:TA}
theorem Zlq{pins:List (Addr×Obj)}{σ:St}{H:Hp}{s:Shared}{Q:VK}{us:List Value}{vs:List V}(Fk:FnOk X.prog X.w X.K X.mg X.base (CXE X.prog X.w) k f fd ps sp)(hr:Room k X.A)(hb:Binds X.K fd ps ds)(hd:Vals dvs ds)
  (I:Inv X pins σ H s) (r:Vals vs us) (h:sp (vs++dvs) H Q fun c d H'=>F c d σ H'):wpAny (model X.prog X.w) X.A (PySem.call (.ref f) us) (EP X pins σ Q) (XE X F) s:=by
 have r2:Vals (vs++dvs) (us++ds):=r.append hd
 have hl:(us++ds).length=ps.length:=by rw[← r2.length];exact Fk.len _ _ _ _ h
 refine wpAny_call (codeAny_mono (Fk.run X.A X.stack s H ⟨us,[]⟩ (us++ds) (vs++dvs) Q _ hr I.env0 (hb s us I.kIn hl) r2 h) fun z s' hq=>?_)
 cases z with
 | error e=>exact ZdU I hq
 | ok fl =>
  cases fl with
  | ret u=>exact I.after hq
  | next=>exact hq.elim
  | brk=>exact hq.elim
  | cont=>exact hq.elim
theorem EP.wish{pins:List (Addr×Obj)}{σ:St}{Q:VK}{u:Value}{s:Shared}{E:Value→Shared→Prop}(h:EP X pins σ Q u s):EP (X.wish E) pins σ Q u s:=let ⟨v,H,I,r,q⟩:=h;⟨v,H,I.wish E,r,q⟩
theorem ZcN(c:Cal X.prog X.w X.K X.mg X.base (CXE X.prog X.w) k x ps dvs sp)(hr:Room k X.A)(hg:Gl X x)(ha:PA (X.wish (XE X F)) (e::es) t)(hdb:(x == ("__debug__" : Str))=false:=by decide)
  (he:starEach (e::es) X.env=(false,eval e X.env)::starEach es X.env:=by rfl) (hpl:(backTo pos (starEach es X.env)).any (·.1)=false:=by rfl) :
  PE (X.wish (XE X F)) (.Call (.Name x p) (e::es) [] pos) (tCallX sp dvs F t):=by
 obtain⟨f,fd,ds,h1,hm,hk,hb,hv⟩:=c.ex
 intro pins s σ H Q I h
 refine wpAny_Call_Name_kw (ZcJ (X:=X.wish (XE X F)) I hg hm ?_ hdb)
 refine PySem.W.callWith_K (h₀:=X.base) I.ok.mod.kin hk (thn (ha pos pins s σ H _ I h) fun us s1 ⟨vs,H1,I1,r,q⟩=>⟨I1.kIn,?_⟩) he hpl
 exact thn (Zlq h1 hr hb hv I1.unwish r q) fun _ _ z=>z.wish
end
theorem Inv.gone{X:Cx}{pins:List (Addr×Obj)}{σ:St}{H:Hp}{s:Shared}{h':Heap}{m m':Str→Option Value}{i:Nat}{x:Str}{tk:Nat}(I:Inv X pins σ H s)(hN:X.N.Nodup)(hi:X.N[i]?=some x)(hn:s.heap.Ns X.env.locals m)(hl:∀ (j:Nat) (y:Str) (v:V),X.N[j]?=some y→σ[j]?=some (some v)→Vis X.env.scope y→∃ u,RelV v u∧Look X.env s.heap m y u)
  (hn':h'.Ns X.env.locals m') (hm:∀ y,y≠x→m' y=m y) (hs:Heap.SameBut X.env.locals s.heap h'):Inv X pins (σ.set i none) H { s with heap:=h',toks:=tk } where
 ok:=I.ok
 os:=I.os
 bare:=I.bare
 base:=⟨fun b o e n hb hx=>(hs.2 b (Nat.ne_of_lt (Nat.lt_of_lt_of_le (Heap.lt_size e) I.ok.above))).trans (I.base.keep b o e n hb hx),
  fun b o e n hb hx=>by
   obtain⟨sl,e1⟩:=I.base.slot b o e n hb hx
   exact⟨sl,(hs.2 b (Nat.ne_of_lt (Nat.lt_of_lt_of_le (Heap.lt_size e) I.ok.above))).trans e1⟩,I.base.free,
  fun b o e hx=>by
   obtain⟨o',e1⟩:=I.base.there b o e hx
   exact⟨o',(hs.2 b (Nat.ne_of_lt (Nat.lt_of_lt_of_le (Heap.lt_size e) I.ok.above))).trans e1⟩,I.base.tups,I.base.frzs,I.base.tbls⟩
 loc:=⟨m',hn',fun j y v e1 e2 e3=>by
  by_cases hj:j=i
  ·subst hj
   rw[List.getElem?_set] at e2
   simp only[if_true] at e2
   split at e2<;>simp at e2
  ·rw[List.getElem?_set_ne (Ne.symm hj)] at e2
   obtain⟨u,r,q⟩:=hl j y v e1 e2 e3
   refine⟨u,r,?_⟩
   rcases q with⟨k,e⟩|⟨k,c,e,z⟩
   ·exact .inl ⟨k,by rw[hm y fun w=>hj (ZeH hN e1 (w▸hi))];exact e⟩
   ·exact .inr ⟨k,c,e,z.sameBut hs (I.cne y c e)⟩⟩
 cell:=fun y c e=>by
  obtain⟨w,z⟩:=I.cell y c e
  exact⟨w,z.sameBut hs (I.cne y c e)⟩
 free:=I.free
 freeC:=I.freeC
 pin:=fun p hp=>by
  obtain⟨e,n,ne,nf,d⟩:=I.pin p hp
  exact⟨(hs.2 p.1 ne).trans e,n,ne,nf,d⟩
 hok:=fun b ob e=>(I.hok b ob e).stay (fun c w hc q=>(hs.2 c (by
  rintro rfl
  rcases hc with z|hc
  ·rw[← z,I.free] at e;cases e
  ·rw[I.free] at hc;cases hc)).trans q) (fun _ q=>q) fun _ _ q=>q
 len:=by rw[List.length_set];exact I.len
theorem Zik{X:Cx}{pins:List (Addr×Obj)}{σ:St}{H:Hp}{s:Shared}{i:Nat}{x:Str}{pos:Pos}{M:Model}{A:Around}{E:Value→Shared→Prop}{Q:Unit→Shared→Prop}(I:Inv X pins σ H s)(hN:X.N.Nodup)(hi:X.N[i]?=some x)(hx:X.env.scope.names.lookup x=some .local)
  (q:∀ s',Inv X pins (σ.set i none) H s'→Q () s'):wpAny M A (do bindName X.env x .none;unbindBehindTheSuite X.env x pos) Q E s:=by
 have hcls:(X.env.scope.kind == .class || (X.env.scope.kind == .module && X.env.locals != X.env.globals))=false:=by rw[I.ok.kind];rfl
 obtain⟨m,hn,hl⟩:=I.loc
 refine wpAny_bind (wpAny_bindName (wpAny_storeName_local hx hn (fun h1 n1 s1=>?_) hcls))
 unfold unbindBehindTheSuite
 refine wpAny_onRaise ?_
 unfold unbindName
 refine wpAny_bind (wpAny_point (wpAny_bind ?_))
 unfold deleteName
 have hk:X.env.kindOf x=some .local:=hx
 simp only[hk,hcls]
 rw[if_neg (by decide)]
 refine wpAny_bind (wpAny_nsDel_keeps n1 fun h2 v n2 s2=>?_)
 simp only[if_true,Option.isSome_some,Bool.not_true,Bool.false_eq_true,if_false]
 refine wpAny_pure (wpAny_point (q _ (I.gone (tk:=s.toks+1) hN hi hn hl n2 (fun y hy=>by simp[hy]) (s1.trans s2))))
end L2
end
section
namespace L2
open PySem PySem.Spec PyProof.Rows
noncomputable abbrev Cx.inX(X:Cx)(ea:Addr):Cx:={ X with A:=X.A.mark (some (.ref ea)),calm:=false }
noncomputable abbrev Cx.pinned(X:Cx)(pins:List (Addr×Obj)):Cx:={ X with pn:=X.pn++pins }
section
variable{X:Cx}{pins:List (Addr×Obj)}{σ:St}{H:Hp}{s:Shared}{F:FK}
theorem Inv.toPin(I:Inv X pins σ H s):Inv (X.pinned pins) [] σ H s :=
 ⟨⟨I.ok.mod,I.ok.kind,I.ok.glob,I.ok.blt,I.ok.above,I.ok.inj,I.ok.has,I.ok.cab,I.ok.hd,I.ok.frames,I.ok.stk,I.ok.exf,I.ok.bs,I.ok.bsz,I.ok.noex,I.ok.exfs,I.ok.funs,I.ok.frf⟩,I.os,I.bare,I.base,I.loc,I.cell,I.free,I.freeC,fun p hp=>I.pin p (by simpa using hp),I.hok,I.len⟩
theorem Inv.unPin{xe:Value→Shared→Prop}(ok:X.Ok)(I:Inv ((X.pinned pins).wish xe) [] σ H s):Inv X pins σ H s :=
 ⟨ok,I.os,I.bare,I.base,I.loc,I.cell,I.free,I.freeC,fun p hp=>I.pin p (by simpa using hp),I.hok,I.len⟩
theorem Inv.toX(I:Inv X pins σ H s)(ea:Addr)(hf:(X.A.mark (some (.ref ea))).frames=X.A.frames):Inv (X.inX ea) pins σ H s :=
 ⟨⟨I.ok.mod,I.ok.kind,I.ok.glob,I.ok.blt,I.ok.above,I.ok.inj,I.ok.has,I.ok.cab,(fun z=>(nomatch z)),hf.trans I.ok.frames,I.ok.stk,I.ok.exf,I.ok.bs,I.ok.bsz,I.ok.noex,I.ok.exfs,I.ok.funs,I.ok.frf⟩,I.os,I.bare,I.base,I.loc,I.cell,I.free,I.freeC,I.pin,I.hok,I.len⟩
theorem Inv.see{B:Heap}{tb:Bool}{ea:Addr}{cls:Value}{d:Option Addr}(I:Inv X [] σ H s)(x:Exn tb B X.stack ea cls d s.heap)(hB:HOk X.prog X.w H B)(g:Grd X B):H ea=none∧Inv X [] σ (upd H ea (hX ea cls d)) s:=by
 obtain⟨oe,vs,he,hc,hdi,hd,_⟩:=x.ob
 have hn:H ea=none:=by
  cases z:H ea with
  | none=>rfl
  | some o =>
   obtain⟨u,hu⟩:=ZdV (hB ea o z)
   rw[x.new] at hu
   cases hu
 have nf:ea∉frs X.stack:=fun hm=>by
  obtain⟨_,o,ho,hdn⟩:=x.frs.mem hm
  rw[he] at ho
  cases ho
  exact hdn vs hd
 have ne:∀ b,H b≠none→b≠ea:=fun b h z=>h (z▸hn)
 have nel:X.env.locals≠ea:=fun z=>by
  obtain⟨m,⟨o,es,ep,e,d2,_⟩,_⟩:=I.loc
  rw[z,he] at e
  cases e
  rw[hd] at d2
  cases d2
 refine⟨hn,⟨I.ok,I.os,I.bare,⟨I.base.keep,I.base.slot,fun b o e n hx=>?_,I.base.there,fun b xs e=>?_,fun b o u e=>?_,fun b ps e=>?_⟩,I.loc,I.cell,by rw[Zaf nel];exact I.free,fun y c e=>?_,fun p hp=>?_,fun a o e=>?_,I.len⟩⟩
 ·have hb:b≠ea:=fun z=>by
   subst z
   have:=g.keep b o e n nf hx
   rw[x.new] at this
   cases this
  rw[Zaf hb]
  exact I.base.free b o e n hx
 ·have:=I.base.tups b xs e
  rw[Zaf (ne b (by rw[this];simp))];exact this
 ·have:=I.base.frzs b o u e
  rw[Zaf (ne b (by rw[this];simp))];exact this
 ·obtain⟨more,this⟩:=I.base.tbls b ps e
  exact⟨more,by rw[Zaf (ne b (by rw[this];simp))];exact this⟩
 ·have hcc:c≠ea:=fun z=>by
   obtain⟨v,o,e1,d1⟩:=I.cell y c e
   rw[z,he] at e1
   cases e1
   rw[hd] at d1
   cases d1
  rw[Zaf hcc]
  exact I.freeC y c e
 ·obtain⟨e1,n1,r⟩:=I.pin p hp
  have hp':p∈X.pn:=by simpa using hp
  have hpe:p.1≠ea:=fun z=>by
   have:=g.pn p hp'
   rw[z,x.new] at this
   cases this
  exact⟨e1,by rw[Zaf hpe];exact n1,r⟩
 ·by_cases ha:a=ea
  ·subst ha
   rw[Zak] at e
   cases e
   exact⟨⟨oe,vs,he,hc,hdi,hd⟩,⟨oe,he⟩,fun h1 h2 ⟨o,ws,z,r⟩ k=>⟨o,ws,k o z,r⟩⟩
  ·rw[Zaf ha] at e
   refine (I.hok a o e).stay (fun _ _ _ q=>q) (fun b q=>?_) (fun b xs q=>?_) (fun b o q=>?_)
   ·rw[Zaf (ne b (by rw[q];simp))];exact q
   ·rw[Zaf (ne b (by rw[q];simp))];exact q
   ·rw[Zaf (ne b (by rw[q];simp))];exact q
end
noncomputable def tTryAs(K:W.Frag)(C:Value)(i:Nat)(tb:FK→TS)(th:TS):TS:=fun D σ H =>
 tb (fun c d σ' H'=>PySem.W.exmOne K c C=some true∧∀ ea,H' ea=none→th ⟨fun σ2 H2=>D.nx (σ2.set i none) H2,D.rt,fun σ2 H2=>D.bk (σ2.set i none) H2,fun σ2 H2=>D.ct (σ2.set i none) H2⟩ (σ'.set i (some (.ref ea))) (upd H' ea (hX ea c d))) D σ H
section
variable{X:Cx}{i:Nat}{n x:Str}{C:Value}{np hpos pos:Pos}{body suite:List Stmt}{b₀:Stmt}{tb:FK→TS}{th:TS}
theorem ZjJ(hst:X.stack=X.env::X.outer)(hfl:X.env.frame=some X.env.locals)(hN:X.N.Nodup)(hi:X.N[i]?=some n)(hn:X.env.scope.names.lookup n=some .local)(hg:Gl X x)(hm:X.mg x=some C)
  (hb:∀ pins F,PSs ((X.pinned pins).wish (XE (X.pinned pins) F)) body (tb F)) (hh:∀ ea pins,PSs ((X.pinned pins).inX ea).nox (b₀::suite) th) (hfm:∀ ea,(X.A.mark (some (.ref ea))).frames=X.A.frames:=by intro _;rfl) (hd:(x == ("__debug__" : Str))=false:=by decide) :
  PS X (.Try body [.ExceptHandler (some (.Name x np)) (some n) (b₀::suite) hpos] [] [] pos) (tTryAs X.K C i tb th):=by
 intro pins s σ H D I h
 have I1:Inv (X.pinned pins) [] σ H s:=I.toPin
 refine wpAny_Try_except (wpAny_mono (hb pins _ [] s σ H D (I1.wish _) h) (fun f s1 q=>?_) fun e s1 q=>?_)
 ·cases f with
  | next=>obtain⟨σ',H',J,q⟩:=q;exact wpAny_execs_nil ⟨σ',H',J.unPin I.ok,q⟩
  | brk=>obtain⟨σ',H',J,q⟩:=q;exact⟨σ',H',J.unPin I.ok,q⟩
  | cont=>obtain⟨σ',H',J,q⟩:=q;exact⟨σ',H',J.unPin I.ok,q⟩
  | ret u=>obtain⟨v,σ',H',J,r,q⟩:=q;exact⟨v,σ',H',J.unPin I.ok,r,q⟩
 ·obtain⟨ea,cls,d,tb0,B,H1,σ1,rfl,x1,J1,hB,g,hex,hth⟩:=q
  have hfr:X.A.frames=some (X.env::X.outer):=by rw[I.ok.frames,hst]
  have e1:Exn tb0 B (X.env::X.outer) ea cls d s1.heap:=by rw[← hst];exact x1
  refine ZeO hfr hfl e1 fun h2 e2 u2=>Zcx (s:={ s1 with heap:=h2 }) e2 fun h3 e3 u3=>?_
  have x2:Exn true B X.stack ea cls d h2:=by rw[hst];exact e2
  have x3:Exn true B X.stack ea cls d h3:=by rw[hst];exact e3
  have J2:Inv (X.pinned pins) [] σ1 H1 { s1 with heap:=h2 }:=J1.fly x1 x2.stays u2 hB g
  have J3:Inv (X.pinned pins) [] σ1 H1 { s1 with heap:=h3 }:=J2.fly (s:={ s1 with heap:=h2 }) x2 x3.stays u3 hB g
  have J4:Inv ((X.pinned pins).inX ea) [] σ1 H1 { s1 with heap:=h3 }:=J3.toX ea (hfm ea)
  obtain⟨oe,vs,he,hc,_⟩:=x3.ob
  have LT:PySem.W.Looks (model X.prog X.w) h3 (typeOf (.ref ea)) cls:=by rw[← hc];exact (PySem.W.Looks.ld he).andThen .now
  refine wpAny_handleBy_cons (codeAny_handlers_test (ZcJ (X:=(X.pinned pins).inX ea) J4 hg hm ((PySem.W.exm_one (K:=X.K) (h:=h3) J3.kIn LT hex).here ?_) hd)) (by intro q;cases q)
  refine codeAny_handlers_suite_as (Zcx (s:={ s1 with heap:=h3 }) x3 fun h5 x5 u5=>?_)
  have J5:Inv (X.pinned pins) [] σ1 H1 { s1 with heap:=h5 }:=J3.fly (s:={ s1 with heap:=h3 }) x3 x5.stays u5 hB g
  obtain⟨hne,J6⟩:=J5.see (s:={ s1 with heap:=h5 }) x5 hB g
  have J7:Inv ((X.pinned pins).inX ea) [] σ1 (upd H1 ea (hX ea cls d)) { s1 with heap:=h5 }:=J6.toX ea (hfm ea)
  refine ZeI (X:=(X.pinned pins).inX ea) (v:=.ref ea) J7 hN hi (.inl hn) rfl (fun s8 J8=>?_) (.inr hn)
  refine wpAny_mono (hh ea pins [] s8 _ _ _ (J8.wish _) (hth ea hne)) (fun f s9 q=>?_) fun _ _ z=>z.elim
  have ub:∀ {σ9:St} {H9:Hp} {Q:Unit→Shared→Prop} {E:Value→Shared→Prop},Inv (((X.pinned pins).inX ea).wish fun _ _=>False) [] σ9 H9 s9→(∀ s',Inv X pins (σ9.set i none) H9 s'→Q () s')→wpAny (model X.prog X.w) X.A (do bindName X.env n .none;unbindBehindTheSuite X.env n hpos) Q E s9:=fun {σ9 H9 Q E} J q=>by
   have J':Inv X pins σ9 H9 s9:=⟨I.ok,J.os,J.bare,J.base,J.loc,J.cell,J.free,J.freeC,fun p hp=>J.pin p (by simpa using hp),J.hok,J.len⟩
   exact Zik J' hN hi hn q
  cases f with
  | next=>obtain⟨σ',H',J,q⟩:=q;exact ub J fun s' J'=>⟨_,H',J',q⟩
  | brk=>obtain⟨σ',H',J,q⟩:=q;exact ub J fun s' J'=>⟨_,H',J',q⟩
  | cont=>obtain⟨σ',H',J,q⟩:=q;exact ub J fun s' J'=>⟨_,H',J',q⟩
  | ret u=>obtain⟨v,σ',H',J,r,q⟩:=q;exact ub J fun s' J'=>⟨v,_,H',J',r,q⟩
end
end L2
end
section
namespace L2
open PySem PySem.Spec PyProof.Rows PySem.W
structure ExcGet(K:W.Frag)(C:Addr):Prop where
 ga:findIn K (.ref C) "__getattribute__" = some (some (.builtin "BaseException.__getattribute__"))
 hook:findIn K (.ref C) "__getattr__" = some none
 base:mroIn K C (.type "BaseException")=some true
 obj:mroIn K C (.type "object")=some true
section
variable{prog:Program}{w:World}{A:Around}{E:Value→Shared→Prop}{s:Shared}{K:W.Frag}{x C:Addr}{ox:Obj}{od:Option Obj}{name:Str}
theorem Zil{nameV:Value}{M:Model}{Q:Unit→Shared→Prop}(X:K.In s.heap)(I:PySem.W.InstAt s.heap x ox C od)(g:ExcGet K C)(h:Q () s):wpAny M A (checkBuiltinCall "BaseException.__getattribute__" ⟨[.ref x,nameV],[]⟩) Q E s:=by
 have hk:builtinKind "BaseException.__getattribute__" = some .slot:=by decide +kernel
 have hsplit:splitId "BaseException.__getattribute__" = some ("BaseException", "__getattribute__"):=by decide +kernel
 have ha:=F.args_bexc_ga (.ref x) nameV
 have L0:=I.type (M:=M)
 have L1:=looks_mroIn (M:=M) X g.base
 obtain⟨hh,g',d,t,os⟩:=s
 simp only[checkBuiltinCall,hk,hsplit]
 refine wpAny_bind ?_
 unfold isInstance
 refine wpAny_bind (L0.at (L1.at ?_))
 repeat (first|assumption|wp_step)
theorem Zni{fill expr:Bool}{tk:Tok}{Q:Value→Shared→Prop}(X:K.In s.heap)(I:PySem.W.InstAt s.heap x ox C od)(g:ExcGet K C)
  (h:∀ A' R,(∀ v s',wpAny (model prog w) A (handedOut v) Q E s'→R (.done (.ret v)) s')→wpAny (model prog w) A' (Builtin.«object.__getattribute__» ⟨[.ref x,.str name tk],[]⟩) R (fun _ _=>False) s) :
  wpAny (model prog w) A (getAttrBy (.ref x) (.str name tk) fill expr) Q E s:=by
 have L0:=I.type (M:=model prog w)
 have L1:=looks_findIn (M:=model prog w) X g.ga
 have L2:=looks_findIn (M:=model prog w) X g.hook
 have f3:=F.excAttr_ValueError.ga.bind (.ref x)
 have hx0:(expr && onTheHeap (Value.builtin "BaseException.__getattribute__"))=false:=by cases expr<;>rfl
 have hx2:(Value.builtin "BaseException.__getattribute__" == Value.builtin "object.__getattribute__")=false:=by decide +kernel
 unfold getAttrBy
 refine wpAny_holding (wpAny_bind (L0.at (wpAny_bind (L1.at ?_))))
 show wpAny _ _ (if (onTheHeap (Value.ref C) && Value.builtin "BaseException.__getattribute__" == Value.builtin "object.__getattribute__")=true then _ else _) _ _ _
 rw[hx2]
 unfold getAttrByItsOwn hookBefore
 refine wpAny_bind (L2.at ?_)
 unfold callGetattribute
 rw[hx0]
 unfold boundAndCalled
 rw[f3]
 refine wpAny_bind (wpAny_attempt (wpAny_holding (wpAny_bind (wpAny_pure (wpAny_call (codeAny_call_builtin F.excAttr_ValueError.ga.plain F.entry_bexc_ga (Zil X I g (wpAny_mono (h _ (fun fin s'=>match fin with|.done (.ret v)=>wpAny (model prog w) A (handedOut v) Q E s'|_=>False) fun v s' z=>z) (fun fin s' z=>?_) fun _ _ z=>z.elim))))))))
 rcases fin with (_|_|_|_)|_<;>first|exact z|exact z.elim
theorem Zim{Q:Option Value→Shared→Prop}(X:K.In s.heap)(I:PySem.W.InstAt s.heap x ox C od)(g:ExcGet K C)(hf:findObj K C od "__class__" = some (.bind (.builtin "getset_descriptor.__get__") (.builtin "object.__class__")))(h:Q (some (.ref C)) { s with toks:=s.toks+1 }) :
  wpAny (model prog w) A (getAttr? (.ref x) "__class__") Q E s:=by
 unfold getAttr? getAttrBy?
 refine wpAny_bind (wpAny_mkText (wpAny_bind (wpAny_attempt (Zni (s:={ s with toks:=s.toks+1 }) X I g fun A' R k=>?_))))
 have L0:=I.type (M:=model prog w)
 have L1:=looks_find (M:=model prog w) X I hf
 obtain⟨hh',gg,d,t,os⟩:=s
 unfold Builtin.«object.__getattribute__»
 refine wpAny_bind (wpAny_pure (wpAny_bind (wpAny_pure (wpAny_bind (L0.at (wpAny_bind (L1.at ?_)))))))
 refine wpAny_bind (wpAny_holding (wpAny_call (class_get (s:=⟨hh',gg,d,t+1,os⟩) (ox:=ox) (od:=od) X I g.obj ?_)))
 exact wpAny_pure (k _ _ (handed_on rfl (wpAny_pure h)))
structure ExcCls(K:W.Frag)(C:Addr):Prop extends ExcGet K C where
 cls:findIn K (.ref C) "__class__" = some (some (.builtin "object.__class__"))
 get:specialIn K (.builtin "object.__class__") "__get__" = some (some (.builtin "getset_descriptor.__get__"))
 tks:takesIn K (.builtin "object.__class__")=some true
theorem ExcCls.isCls(g:ExcCls K C):∃ o cd,K.lookup C=some o∧o.data=.cls cd∧clsIn K C=some cd:=by
 obtain⟨cd,hc,_⟩:=Option.bind_eq_some_iff.mp g.obj
 have hc':=hc
 unfold clsIn at hc
 split at hc
 ·rename_i c' d' cd' sl' ho
  cases hc
  exact⟨_,_,ho,rfl,hc'⟩
 ·cases hc
theorem ZgI(g:ExcCls K C):KitX K (.ref x) (.ref C) (fun h=>∃ ox od,PySem.W.InstAt h x ox C od) where
 ty:=fun _ _ _ ⟨_,_,I⟩=>I.type
 it:=fun _ _ X _=>by
  obtain⟨o,cd,ho,hd,_⟩:=g.isCls
  intro A' Q' E' s' k q
  unfold isType loadHead
  obtain⟨c1,c2,c3,c4⟩:=o
  cases hd
  exact wpAny_bind (wpAny_loadPart (k _ _ (X _ _ ho)) (wpAny_pure q))
 ne:=fun h tp dd its n sl X htp=>by
  obtain⟨o,cd,ho,hd,_⟩:=g.isCls
  refine Bool.eq_false_iff.mpr fun q=>?_
  have e:C=tp:=Value.ref.inj (beq_iff_eq.mp q)
  subst e
  have z:=(X _ _ ho).symm.trans htp
  cases z
  cases hd
 ca:=fun X ⟨_,_,I⟩ k=>by
  obtain⟨o,cd,ho,hd,hc⟩:=g.isCls
  refine Zim X I g.toExcGet ?_ k
  unfold findObj
  rw[hc,Option.bind_some,g.cls,Option.bind_some]
  simp[g.get,g.tks]
end
end L2
end
section
namespace VL
open PySem PySem.Spec PyProof.Rows L2
variable[Tabs]
noncomputable def dX(e:Exc):PyData:=.dict ((.none,.int e.cls)::e.fs.map fun p=>(.str p.1,p.2))
section
variable{K:W.Frag}{F:FK}{X:Exc→Sl→Prop}{ρ:Sl}{Q:TV→Prop}{DV:VEnds}{H0 H:Hp}{σ:L2.St}{ts:List V}{as:List TV}
theorem SR.pops(s:SR K H0 σ ρ ts as H):SR K H0 σ ρ [] [] H:=by
 obtain⟨⟨p,q,h1,h2,h3,h4⟩,sm⟩:=s
 exact SR.of_le (p:=p) (q:=q) (p':=p) (q':=fun _=>0) sm h3 h4 (fun b=>by omega) h1 (.nil fun _=>rfl)
theorem SR.aside(st:Stb as)(s:SR K H0 σ ρ ts as H):∃ H1,SR K H1 σ ρ [] [] H∧(∀ σ' ρ' H',SR K H1 σ' ρ' [] [] H'→SR K H0 σ' ρ' ts as H')∧(∀ σ' ρ' H' v a,SR K H1 σ' ρ' [v] [a] H'→SR K H0 σ' ρ' (v::ts) (a::as) H')∧Same H0 H1:=by
 obtain⟨⟨p,q,h1,h2,h3,h4⟩,sm⟩:=s
 have q0:=h2.stb st
 have none1:∀ b,0<p b→VL.hid H p q b=none:=fun b z=>by
  unfold VL.hid
  rw[if_neg (by omega)]
 have up:∀ b o,H0 b=some o→VL.hid H p q b=some o:=fun b o e=>by
  unfold VL.hid
  rw[if_pos]
  ·exact sm b o e
  ·rcases Nat.eq_zero_or_pos (p b+q b) with z|z
   ·exact z
   ·rw[h4 b z] at e;cases e
 have back:∀ {p' q':Fp} {H':Hp},(∀ b,0<p' b+q' b→VL.hid H p q b=none)→Same (VL.hid H p q) H'→RTs K (VL.hid H' p' q') H' ts as q:=fun {p' q' H'} k4 m=>by
  refine RTs.monoS (fun b o e=>?_) h2 st fun b o z=>by have:=q0 b;omega
  unfold VL.hid
  rw[if_pos]
  ·exact m b o e
  ·rcases Nat.eq_zero_or_pos (p' b+q' b) with z|z
   ·exact z
   ·rw[k4 b z] at e;cases e
 have no0:∀ {p' q':Fp},(∀ b,0<p' b+q' b→VL.hid H p q b=none)→∀ b,0<p' b+q' b→H0 b=none:=fun {p' q'} k4 b z=>by
  cases e:H0 b with
  | none=>rfl
  | some o=>have:=up b o e;rw[k4 b z] at this;cases this
 refine⟨VL.hid H p q,⟨⟨p,fun _=>0,h1.mono (hid_more fun b z=>by show p b+0=0;omega) (fun _ _ _ z=>z),.nil fun _=>rfl,fun b=>by have:=h3 b;show p b+0≤1;omega,fun b z=>none1 b (by have z':0<p b+0:=z;omega)⟩,Zbu⟩,fun σ' ρ' H' ⟨⟨p',q',k1,k2,k3,k4⟩,m⟩=>?_,fun σ' ρ' H' v a ⟨⟨p',q',k1,k2,k3,k4⟩,m⟩=>?_,up⟩
 ·cases k2 with
  | nil e=>exact⟨⟨p',q',k1,by
    have:=back k4 m
    have e2:q=q':=by funext b;rw[q0 b,e b]
    exact e2▸this,k3,no0 k4⟩,fun b o e=>m b o (up b o e)⟩
 ·cases k2 with
  | @cons _ _ _ _ q1 q2 _ r rs e =>
   cases rs with
   | nil e2=>exact⟨⟨p',q',k1,.cons r (back k4 m) fun b=>by have:=e b;have:=e2 b;have:=q0 b;omega,k3,no0 k4⟩,fun b o e=>m b o (up b o e)⟩
theorem XOk.aside{H1:Hp}(x:XOk K F X H0)(m:Same H0 H1)(b:∀ σ' ρ' H',SR K H1 σ' ρ' [] [] H'→SR K H0 σ' ρ' ts as H'):XOk K F X H1:=⟨fun e ρ z c d σ H' s r=>x.x e ρ z c d σ H' (b σ ρ H' s).pops r,x.t.same m⟩
theorem Zb7{C:Addr}(h:X ⟨C,[]⟩ ρ):Sv K F X (tRaise C F) ρ DV:=fun H0 σ ts as H D _ s x _=>x.x ⟨C,[]⟩ ρ h _ _ σ H s.pops ⟨rfl,.inl ⟨rfl,rfl⟩⟩
theorem Fit.aside{H1:Hp}{D:Ends}(f:Fit K H0 ts as DV D)(b:∀ σ' ρ' H',SR K H1 σ' ρ' [] [] H'→SR K H0 σ' ρ' ts as H')(b1:∀ σ' ρ' H' v a,SR K H1 σ' ρ' [v] [a] H'→SR K H0 σ' ρ' (v::ts) (a::as) H'):Fit K H1 [] [] DV D :=
 ⟨fun ρ q σ H s=>f.nx ρ q σ H (b _ _ _ s),fun ρ q σ H s=>f.bk ρ q σ H (b _ _ _ s),fun ρ q σ H s=>f.ct ρ q σ H (b _ _ _ s),fun a q v σ ρ H s=>f.rt a q v σ ρ H (b1 _ _ _ _ _ s)⟩
theorem SR.dropS{i:Nat}{o:Option V}(h:SR K H0 σ ρ ts as H):SR K H0 (σ.set i o) (ρ.set i none) ts as H:=by
 obtain⟨⟨p,q,h1,h2,h3,h4⟩,s⟩:=h
 obtain⟨p2,e1,e2⟩:=h1.drop (i:=i) (o:=o)
 exact SR.of_le (p:=p) (q:=q) (p':=p2) (q':=q) s h3 h4 (fun b=>by have:=e1 b;omega) e2 h2
theorem SR.pushG{v:V}{x:PyData}(h:SR K H0 σ ρ ts as H)(r:∀ p q:Fp,(∀ b,0<p b+q b→∃ o,H b=some o∧Mu o)→Rep K (VL.hid H p q) v x):SR K H0 σ ρ (v::ts) (.av (.d x)::as) H:=by
 obtain⟨⟨p,q,h1,h2,h3,h4⟩,s⟩:=h
 exact⟨⟨p,q,h1,.cons (.av (.d (p:=fun _=>0) (r p q (SR.lsts h1 h2)) fun _=>rfl)) h2 (fun b=>by simp),h3,h4⟩,s⟩
theorem ZeQ{p q:Fp}(hl:∀ b,0<p b+q b→∃ o,H b=some o∧Mu o){a:Addr}{o:HO}(e:H a=some o)(n:¬ Mu o):VL.hid H p q a=some o:=by
 unfold VL.hid
 rw[if_pos]
 ·exact e
 ·rcases Nat.eq_zero_or_pos (p a+q a) with z|z
  ·exact z
  ·obtain⟨vs,z,mu⟩:=hl a z;rw[e] at z;cases z;exact absurd mu n
theorem SR.caught{e:Exc}{c:Value}{d:Option Addr}{ea:Addr}(s:SR K H0 σ ρ ts as H)(hn:H ea=none)(xr:XRep K H e c d)(nl:noLsts (e.fs.map Prod.snd)=true):SR K H0 σ ρ (.ref ea::ts) (.av (.d (dX e))::as) (upd H ea (hX ea c d)):=by
 have sm:Same H (upd H ea (hX ea c d)):=Za0 hn
 refine (s.ext sm).pushG fun p q hl=>?_
 have h1:=ZeQ hl (a:=ea) (o:=hX ea c d) (Zak ..) fun z=>(show False from z)
 obtain⟨rfl,⟨h2,rfl⟩|⟨a,vs,rfl,h2,h3,h4⟩⟩:=xr
 ·exact .exc h1 (by rw[h2];rfl)
 ·refine .excF h1 (ZeQ hl (sm _ _ h2) fun z=>(show False from z)) (Reps.hid hl nl (h4.same sm)) ?_
  have:(vs.map fun p=>PyData.str p.1)=e.fs.map fun p=>PyData.str p.1:=by
   have:=congrArg (List.map PyData.str) h3
   rw[List.map_map,List.map_map] at this
   exact this
  rw[this,List.zip_map']
theorem ZjK{X':Exc→Sl→Prop}{C:Value}{i:Nat}{tb:FK→TS}{th:TS}(hb:∀ F',Sv K F' X' (tb F') ρ DV)
  (hx:∀ e ρ',X' e ρ'→PySem.W.exmOne K (.ref e.cls) C=some true∧noLsts (e.fs.map Prod.snd)=true∧i<ρ'.length∧Sv K F X th (ρ'.set i (some (.d (dX e)))) ⟨fun ρ2=>DV.nx (ρ2.set i none),DV.rt,fun ρ2=>DV.bk (ρ2.set i none),fun ρ2=>DV.ct (ρ2.set i none)⟩) :
  Sv K F X (tTryAs K C i tb th) ρ DV:=fun H0 σ ts as H D st s x f=>by
 obtain⟨H1,s1,b,b1,m⟩:=s.aside st
 refine hb _ H1 σ [] [] H D Stb.nil s1 ⟨fun e ρ' z c d σ' H' s' xr=>?_,x.t.same m⟩ (f.aside b b1)
 obtain⟨h1,nl,hi,h2⟩:=hx e ρ' z
 have hc:=xr.1
 refine⟨by rw[hc];exact h1,fun ea hea=>?_⟩
 have f1:=f.aside b b1
 exact h2 H1 _ [] [] _ _ Stb.nil ((s'.caught hea xr nl).store hi) (x.aside m b) ⟨fun ρ2 q σ2 H2 s2=>f1.nx _ q _ _ s2.dropS,fun ρ2 q σ2 H2 s2=>f1.bk _ q _ _ s2.dropS,fun ρ2 q σ2 H2 s2=>f1.ct _ q _ _ s2.dropS,f1.rt⟩
end
end VL
end
section
namespace L2
open PySem PySem.Spec PyProof.Rows
theorem ZdX:bootBuiltins "ValueError" = some (.type "ValueError"):=by kernel_rfl
section
variable{P:Program}{w:World}{K:W.Frag}{mg:Str→Option Value}{base:Heap}
theorem passE{X:Cx}:Passes (CXE P w) X E0:=by
 intro _ _ _ _ _ _ _ h
 obtain⟨_,_,_,_,_,_,_,_,_,_,_,_,_,z⟩:=h
 exact z.elim
theorem FunD.okX{x qual:Str}{st:Stmt}{dV:Value}{f:Addr}{fd:FuncData}{N ps:List Str}{k:Nat}{sp:Sp}(F:FunD K x qual st dV f fd)(S:FnScope N ps (defScope st))(len:∀ vs H Q E,sp vs H Q E→vs.length=ps.length)
  (hbody:∀ (cdv:Value) (A:Around) (outer:List Env) (s:Shared) (H:Hp) (vs:List V) (Q:VK) (E:XK),Room k (A.deeper (envOfC qual (defScope st) s.heap.objs.size f cdv))→sp vs H Q E →
   ∃ t,PSs ((cxOf (CXE P w) P w K mg base N qual (defScope st) f cdv A outer s H E).wish (XE (cxOf (CXE P w) P w K mg base N qual (defScope st) f cdv A outer s H E) (toF E))) (defBody st) t∧t { nx:=fun _ H'=>Q .non H',rt:=Q } (start N vs) H):FnOk P w K mg base (CXE P w) (k+1) f fd ps sp:=by
 obtain⟨oc,od,kV,doc,pm,an,cdv,ct,osl,rfl,lk,hcd⟩:=F.ex
 refine Zju lk hcd S len fun A outer s H vs Q E hr hsp=>?_
 obtain⟨t,h,q⟩:=hbody cdv A outer s H vs Q E hr hsp
 exact⟨t,h.xmono fun e s z=>ZgH z,q⟩
theorem Tx.calX{x:Str}{st:Stmt}{N ps:List Str}{dvss:List (List V)}{k:Nat}{sp:Sp}(T:Tx K mg x st ps dvss)(S:FnScope N ps (defScope st))
  (len:∀ vs H Q E,sp vs H Q E→vs.length=ps.length)
  (hbody:∀ (f:Addr) (cdv:Value) (A:Around) (outer:List Env) (s:Shared) (H:Hp) (vs:List V) (Q:VK) (E:XK),Room k (A.deeper (envOfC x (defScope st) s.heap.objs.size f cdv))→sp vs H Q E →
   ∃ t,PSs ((cxOf (CXE P w) P w K mg base N x (defScope st) f cdv A outer s H E).wish (XE (cxOf (CXE P w) P w K mg base N x (defScope st) f cdv A outer s H E) (toF E))) (defBody st) t∧t { nx:=fun _ H'=>Q .non H',rt:=Q } (start N vs) H) :
  ∀ dvs∈dvss,Cal P w K mg base (CXE P w) (k+1) x ps dvs sp:=by
 obtain⟨dV,f,fd,F,m,b⟩:=T.ex
 intro dvs hd
 obtain⟨ds,b1,b2⟩:=b dvs hd
 exact⟨f,fd,ds,F.okX S len (fun cdv A outer s H vs Q E hr h=>hbody f cdv A outer s H vs Q E hr h),m,F.kp,b1,b2⟩
end
section
variable{X:Cx}{pins:List (Addr×Obj)}{σ:St}{H:Hp}{s:Shared}
theorem ZgJ{x:V}{C:Addr}{kvs:List (PyData×PyData)}(I:Inv X pins σ H s)(h:Rep X.K H x (.dict ((.none,.int (C:Nat))::kvs))):∃ ea ox od,x=.ref ea∧PySem.W.InstAt s.heap ea ox C od:=by
 cases h with
 | @exc ea C' _ h z =>
  have e:C=C':=by
   have:=(List.cons.inj z).1
   simp only[Prod.mk.injEq,PyData.int.injEq,true_and] at this
   exact Int.ofNat.inj this
  subst e
  obtain⟨o,vs,h1,h2,h3,h4⟩:=(I.hok _ _ h).1
  exact⟨ea,o,none,rfl,h1,h2,by obtain⟨c,d,da,sl⟩:=o;cases h4;rfl,by rw[h3];trivial⟩
 | @excF ea C' a vs ds _ h k _ z =>
  have e:C=C':=by
   have:=(List.cons.inj z).1
   simp only[Prod.mk.injEq,PyData.int.injEq,true_and] at this
   exact Int.ofNat.inj this
  subst e
  obtain⟨o,vs,h1,h2,h3,h4⟩:=(I.hok _ _ h).1
  obtain⟨mA,⟨od,es,ep,e1,_⟩,_⟩:=(I.hok _ _ k).1
  exact⟨ea,o,some od,rfl,h1,h2,by obtain⟨c,d,da,sl⟩:=o;cases h4;rfl,by rw[h3];exact e1⟩
 | dK _ _ z=>exact absurd z Zk1
 | dT _ _ z=>exact absurd z Zk2
 | dN _ _ _ z=>exact absurd z Zk3
noncomputable def rIsiX(K:W.Frag):List V→Hp→VK→Prop:=fun xs H Q=>∃ x c C kvs cv b,xs=[x,c]∧clsV c=some cv∧ExcCls K C∧Rep K H x (.dict ((.none,.int (C:Nat))::kvs))∧PySem.W.kitOne K (.ref C) cv=some b∧Q (.bl b) H
theorem Zin:CallR X (.builtin "isinstance") (rIsiX X.K):=by
 intro pins s σ H xs us Q I r h
 obtain⟨x,c,C,kvs,cv,b,rfl,hc,g,hx,e,q⟩:=h
 obtain⟨ea,ox,od,rfl,J⟩:=ZgJ I hx
 obtain⟨u,w',rfl,rx,r2⟩:=vals2 r
 rw[ZdJ hc r2]
 cases (show u=Value.ref ea from rx)
 exact PySem.W.kia_one (ZgI g) I.kIn ⟨ox,od,J⟩ e (fun z=>nomatch z) fun tk=>⟨.bl b,H,I.tok tk,rfl,q⟩
inductive ClsVs:List V→List Value→Prop
 | nil:ClsVs [] []
 | cons {c:V} {cv:Value} {cs:List V} {cvs:List Value}:clsV c=some cv→ClsVs cs cvs→ClsVs (c::cs) (cv::cvs)
theorem ClsVs.rel{cs:List V}{cvs us:List Value}(h:ClsVs cs cvs)(r:Vals cs us):us=cvs:=by
 induction h generalizing us with
 | nil=>cases r;rfl
 | cons e _ ih=>cases r with|cons r1 r2=>rw[ZdJ e r1,ih r2]
noncomputable def rIsiT(K:W.Frag):List V→Hp→VK→Prop:=fun xs H Q=>∃ x t cs cvs C kvs b,xs=[x,.ref t]∧H t=some (.tup cs)∧ClsVs cs cvs∧ExcCls K C∧Rep K H x (.dict ((.none,.int (C:Nat))::kvs))∧PySem.W.kitAny K (.ref C) cvs=some b∧Q (.bl b) H
theorem Zio:CallR X (.builtin "isinstance") (rIsiT X.K):=by
 intro pins s σ H xs us Q I r h
 obtain⟨x,t,cs,cvs,C,kvs,b,rfl,ht,hc,g,hx,e,q⟩:=h
 obtain⟨ea,ox,od,rfl,J⟩:=ZgJ I hx
 obtain⟨u,w',rfl,rx,r2⟩:=vals2 r
 cases (show u=Value.ref ea from rx)
 cases (show w'=Value.ref t from r2)
 obtain⟨_,its,rv,⟨⟨c0,d0,da0,sl0⟩,h1,h2,n,h3⟩⟩:=I.hok _ _ ht
 cases h2
 cases h3
 cases hc.rel rv
 exact PySem.W.kia_tup (ZgI g) I.kIn ⟨ox,od,J⟩ h1 e (fun z=>nomatch z) fun tk=>⟨.bl b,H,I.tok tk,rfl,q⟩
noncomputable def rIsi3(K:W.Frag):List V→Hp→VK→Prop:=fun xs H Q=>rIsi2 K xs H Q∨(rIsiX K xs H Q∨rIsiT K xs H Q)
theorem Zdr{K:W.Frag}(h:X.K=K):CallR X (.builtin "isinstance") (rIsi3 K):=h▸CallR.or (Zbm rfl) (CallR.or Zin Zio)
end
end L2
namespace VL
open PySem PySem.Spec PyProof.Rows L2
variable[Tabs]
section
variable{P:Program}{w:World}{K:W.Frag}{mg:Str→Option Value}{base:Heap}{x qual:Str}{st:Stmt}{N ps:List Str}{dvss:List (List V)}{k:Nat}{SX:List PyData→Exc→Prop}
end
section
variable{K:W.Frag}{E:FK}{X:Exc→Sl→Prop}{ρ:Sl}{Q:TV→Prop}{DV:VEnds}{a:TV}
theorem Zip{e:Exc}{c:V}{cv:Value}{b:Bool}(g:ExcCls K e.cls)(hc:clsV c=some cv)(k:PySem.W.kitOne K (.ref e.cls) cv=some b)(q:Q (.av (.d (.bool b)))):Bi K E X (rIsi3 K) [.av (.d (dX e)),.raw c] Q:=fun H0 σ ρ ts as H vs QV s hl _ kk=>by
 obtain⟨v,w,rfl,s⟩:=Zks s hl
 have:=s.pop.raw
 subst this
 exact .inr (.inl ⟨v,w,e.cls,_,cv,b,rfl,hc,g,s.top_d,k,kk _ q _ H (s.pop.pop.bl _)⟩)
inductive TCs:TA→List V→Prop
 | nil:TCs tNil []
 | cons {c:V} {t:TA} {cs:List V}:TCs t cs→TCs (tCons (tC c) t) (c::cs)
theorem TCs.run{t:TA}{cs:List V}(h:TCs t cs){σ:L2.St}{H:Hp}{QV:List V→Hp→Prop}(q:QV cs H):t σ H QV:=by
 induction h generalizing QV with
 | nil=>exact q
 | cons _ ih=>exact ih (QV:=fun xs H2=>QV (_::xs) H2) q
theorem Zlr{i:Nat}{e:Exc}{t:TA}{cs:List V}{cvs:List Value}{b:Bool}(hi:ρ[i]?=some (some (.d (dX e))))(ht:TCs t cs)(hc:ClsVs cs cvs)(hz:cs.length≤100)(g:ExcCls K e.cls)(k:PySem.W.kitAny K (.ref e.cls) cvs=some b)(q:Q (.av (.d (.bool b)))) :
  Ev K E X (tCB (rIsi3 K) (tCons (tVar i) (tCons (tTup t) tNil))) ρ Q:=fun H0 σ ts as H QV s x kk=>by
 unfold tCB tCons
 refine ZbD hi (Q:=fun a=>a=.av (.d (dX e))) rfl H0 σ ts as H _ s x fun a ha v H1 s1=>?_
 subst ha
 unfold tTup
 refine ht.run ⟨Nat.le_trans hz (by decide),fun p hp=>.inr (.inr ⟨v,p,cs,cvs,e.cls,_,b,rfl,Zak ..,hc,g,(s1.ext (Za0 hp)).top_d,k,?_⟩)⟩
 exact kk _ q _ _ ((s1.ext (Za0 hp)).pop.bl _)
end
end VL
end
section
namespace L2
open PySem PySem.Spec PyProof.Rows
section
variable{prog:Program}{w:World}{A:Around}{E:Value→Shared→Prop}{h:Heap}{g:Array GenState}{d:Drawn}{t:Nat}{os:OsState}
variable{nm q:Str}{C N:Addr}{bs bm bmB:List Value}{hdct:Bool}{sn:List Str}{sub:List Value}{ab:Bool}{col:Option Bool}{dd:Option Addr}{k0 k1 k2 k3 k5:Option Value}{B Bn newId nid initId inN:String}{bmN:List Value}
end
section
variable{prog:Program}{w:World}{A:Around}{E:Value→Shared→Prop}{s:Shared}{env:Env}
variable{nm q:Str}{C N:Addr}{bs bm bmB:List Value}{hdct:Bool}{sn:List Str}{sub:List Value}{ab:Bool}{col:Option Bool}{dd:Option Addr}{k0 k1 k2 k3 k5:Option Value}{B Bn newId nid initId inN:String}{bmN:List Value}
end
end L2
end
section
namespace L2
open PySem PySem.Spec PyProof.Rows PySem.W PySem.Builtin.ObjectAttr
section
variable{prog:Program}{w:World}{A:Around}{E:Value→Shared→Prop}{s:Shared}{K:W.Frag}{x C:Addr}{ox:Obj}{od:Option Obj}{name:Str}{R:Result→Shared→Prop}
end
end L2
end
section
namespace L2
open PySem PySem.Spec PyProof.Rows PySem.W
section
variable{X:Cx}{pins:List (Addr×Obj)}{σ:St}{H:Hp}{s:Shared}{o value:Expr}{f:Str}{pos pos':Pos}{ta tv:TE}{C:Addr}
end
end L2
end
section
namespace L2
open PySem PySem.Spec PyProof.Rows
section
variable{X:Cx}{pins:List (Addr×Obj)}{σ:St}{H:Hp}{s:Shared}{F:FK}
theorem Inv.born{e:Addr}{o:HO}{h':Heap}{t':Nat}(I:Inv X pins σ H s)(hn:H e=none)(hes:s.heap.get? e=none)(k:∀ b u,s.heap.get? b=some u→h'.get? b=some u)(n1:ObjOk X.prog X.w (upd H e o) h' e o):Inv X pins σ (upd H e o) { s with heap:=h',toks:=t' }:=by
 have ne:∀ b u,s.heap.get? b=some u→b≠e:=fun b u q z=>by rw[z,hes] at q;cases q
 refine I.un ⟨fun b u q n _ _=>k b u q,fun b u q n _ _=>⟨u.slots,k b u q⟩,fun b u q n _=>by rw[Zaf (ne b u q)];exact n,fun b u q _=>⟨u,k b u q⟩,fun b xs q=>by rw[Zaf (Zam q hn)];exact q,fun b u xs q=>by rw[Zaf (Zam q hn)];exact q,fun b ps q=>⟨#[],by rw[Zaf (Zam q hn)];simpa using q⟩⟩ fun a u q=>?_
 by_cases ha:a=e
 ·subst ha;rw[Zak] at q;cases q;exact n1
 ·rw[Zaf ha] at q
  refine (I.hok a u q).stay (fun b u' _ z=>k b u' z) (fun b z=>by rw[Zaf (Zam z hn)];exact z) fun b xs z=>by rw[Zaf (Zam z hn)];exact z
end
end L2
end
section
namespace L2
open PySem PySem.Spec PyProof.Rows
section
variable{P:Program}{w:World}{K:W.Frag}{mg:Str→Option Value}{base:Heap}{CX:CXT}{qual p1 p2 k1 k2 self:Str}{st:Stmt}{f C:Addr}{fd:FuncData}{k:Nat}{dV:Value}
end
end L2
namespace VL
open PySem PySem.Spec PyProof.Rows L2
variable[Tabs]
section
variable{K:W.Frag}{F:FK}{X:Exc→Sl→Prop}{ρ:Sl}{Q:TV→Prop}{DV:VEnds}
end
end VL
end
section
namespace VL
open PySem PySem.Spec L2
variable[Tabs]
section
variable{K:W.Frag}{G G' H H' H0:Hp}{σ:St}{ρ:Sl}{ts:List V}{as:List TV}{v x y:V}{a b:TV}
theorem RAs.pick{c:AV}:∀ {vs:List V} {xs:List AV} {p:Fp} {j:Nat},RAs K G H vs xs p→xs[j]?=some c →
  ∃ (p1 p2:Fp) (w:V),(∀ b,p b=p1 b+p2 b)∧vs[j]?=some w∧RA K G H w c p1∧∀ (G' H':Hp) (c':AV) (p1':Fp),Same G G'→(∀ b o,0<p2 b→H b=some o→H' b=some o)→RA K G' H' w c' p1'→RAs K G' H' vs (xs.set j c') (fun b=>p1' b+p2 b)
 | _,_,_,_,.nil _,e=>by simp at e
 | _,_,_,0,.cons (p:=p1) (q:=q1) (v:=v0) r rs e0,e=>by
  simp at e
  subst e
  exact⟨p1,q1,v0,e0,rfl,r,fun G' H' c' p1' m k r'=>.cons r' (rs.mono m k) fun _=>rfl⟩
 | _,_,_,j+1,.cons (p:=p1) (q:=q1) r rs e0,e=>by
  obtain⟨pa,pb,w,h1,h2,h3,h4⟩:=RAs.pick (j:=j) rs (by simpa using e)
  refine⟨pa,fun b=>p1 b+pb b,w,fun b=>by have:=e0 b;have:=h1 b;dsimp only;omega,by simpa using h2,h3,fun G' H' c' p1' m k r'=>?_⟩
  exact .cons (r.mono m fun b o z=>k b o (by dsimp only;omega)) (h4 G' H' c' p1' m (fun b o z=>k b o (by dsimp only;omega)) r') fun b=>by dsimp only;omega
theorem SR.write2{i j:Nat}{xs ys ys':List AV}{c:AV}(h:SR K H0 σ ρ (v::ts) (.av c::as) H)(hS:Stb as)(hi:ρ[i]?=some (some (.own xs)))(hj:xs[j]?=some (.own ys)) :
  ∃ l m us vs,σ[i]?=some (some (.ref l))∧H l=some (.lst us)∧us.length=xs.length∧us[j]?=some (.ref m)∧H m=some (.lst vs)∧vs.length=ys.length∧∀ vs',(∀ G H p q,RAs K G H vs ys p→RA K G H v c q→∃ p':Fp,(∀ b,p' b≤p b+q b)∧RAs K G H vs' ys' p')→SR K H0 σ (ρ.set i (some (.own (xs.set j (.own ys'))))) ts as (upd H m (.lst vs')):=by
 obtain⟨⟨p,q,h1,h2,h3,h4⟩,s⟩:=h
 obtain⟨p1,p2,w,e1,e2,e3,e4⟩:=h1.frz hi fun _ _ _ _=>trivial
 cases h2 with
 | @cons _ _ _ _ q1 q2 _ r rs eq =>
  cases r with
  | av r =>
  cases e3 with
  | @own l us _ p3 _ hl hr ep =>
   obtain⟨pa,pb,u,f1,f2,f3,f4⟩:=hr.pick hj
   cases f3 with
   | @own m vs _ p5 _ hm hy em =>
   refine⟨l,m,us,vs,e2,hl,hr.len,f2,hm,hy.len,fun vs' hw=>?_⟩
   have hpl:p1 l=1+p3 l:=by have:=ep l;simpa using this
   have hpm:pa m=1+p5 m:=by have:=em m;simpa using this
   have tot:∀ b,p1 b=(if b=l then 1 else 0)+(pa b+pb b):=fun b=>by rw[ep b,f1 b]
   have lm:l≠m:=fun y=>by subst y;have a1:=tot l;rw[if_pos rfl] at a1;have:=e1 l;have:=h3 l;omega
   have ne:∀ b u,p b+q b=0→H b=some u→b≠m:=fun b u z _ y=>by subst y;have:=e1 b;have:=tot b;omega
   have m0:Same (hid H p q) (hid (upd H m (.lst vs')) p q):=ZcL fun b u z w=>⟨z,ne b u z w⟩
   have k0:∀ b o,0<(if b=l then 1 else 0)+pb b+p5 b+p2 b+q b→H b=some o→upd H m (.lst vs') b=some o:=fun b o z w=>by
    rw[Zaf (fun y=>by subst y;have:=h3 b;have:=e1 b;have:=tot b;simp[lm.symm] at z;omega)];exact w
   obtain⟨p',l1,l2⟩:=hw _ _ _ _ (hy.mono m0 fun b o z=>k0 b o (by omega)) (r.mono m0 fun b o z=>k0 b o (by have:=eq b;omega))
   have in1:=f4 (hid (upd H m (.lst vs')) p q) (upd H m (.lst vs')) (.own ys') (fun b=>(if b=m then 1 else 0)+p' b) m0 (fun b o z=>k0 b o (by omega)) (.own Zak l2 fun _=>rfl)
   have z:=e4 (hid (upd H m (.lst vs')) p q) (upd H m (.lst vs')) (.ref l) (.own (xs.set j (.own ys'))) (fun b=>(if b=l then 1 else 0)+(((if b=m then 1 else 0)+p' b)+pb b)) (fun b=>((if b=l then 1 else 0)+(((if b=m then 1 else 0)+p' b)+pb b))+p2 b) m0 (fun b o z=>k0 b o (by omega)) (.own (k0 l _ (by simp;omega) hl) in1 fun _=>rfl) (fun _=>rfl)
   rw[Zcu e2] at z
   have s2:Same H0 (upd H m (.lst vs')):=s.updF (h4 m (by have:=e1 m;have:=tot m;omega))
   refine SR.of_le (p:=p) (q:=q) (p':=fun b=>((if b=l then 1 else 0)+(((if b=m then 1 else 0)+p' b)+pb b))+p2 b) (q':=q2) s2 h3 h4 (fun b=>?_) z (rs.monoS m0 hS fun b o y=>k0 b o (by have:=eq b;omega))
   have:=l1 b;have:=em b;have:=tot b;have:=e1 b;have:=eq b
   show ((if b=l then 1 else 0)+(((if b=m then 1 else 0)+p' b)+pb b))+p2 b+q2 b≤p b+q b
   omega
end
section
variable{K:W.Frag}{E:FK}{X:Exc→Sl→Prop}{ρ:Sl}{Q:TV→Prop}{DV:VEnds}{ta tb te ti tj:TE}{i j:Int}{n:Nat}{r r':R2}{t u:TS}{a b:TV}
noncomputable def Pu(K:W.Frag)(t:TE)(ρ:Sl)(Q:Int→Prop):Prop:=∀ (H0:Hp) (σ:St) (ts:List V) (as:List TV) (H:Hp) (QV:VK),SR K H0 σ ρ ts as H→(∀ i,Q i→QV (.int i) H)→t σ H QV
theorem Znj{P:Int→Prop}(q:P i):Pu K (tC (.int i)) ρ P:=fun H0 σ ts as H QV s k=>k i q
theorem Zls{xs:List AV}(hi:ρ[n]?=some (some (.own xs)))(h:Ev K E X te ρ fun a=>Ev K E X ti ρ fun b=>∃ k j ys,b=.av (.d (.int k))∧ixN xs.length k=some j∧xs[j]?=some (.own ys)∧Pu K tj ρ fun m=>∃ a' z,a.sto=some a'∧ixN ys.length m=some z∧DV.nx (ρ.set n (some (.own (xs.set j (.own (ys.set z a'))))))) :
  Sv K E X (tAsg te (gSub (tOp (rOr (rIxL K) r') (tVar n) ti) tj rSetA)) ρ DV:=fun H0 σ ts as H D st s x f=>by
 refine h H0 σ ts as H _ s x fun a h2 v H1 s1=>?_
 obtain⟨l,vs,e1,e2,e3,_⟩:=(s.push (x:=.none) fun _=>.non).write (xs':=xs) st hi
 refine⟨.ref l,e1,h2 H0 σ _ _ H1 _ s1 x fun b ⟨k,j,ys,eb,hj,hy,h3⟩ w H2 s2=>.inl ?_⟩
 subst eb
 have ew:=s2.top_d.int_inv
 subst ew
 obtain⟨l',m',us,vs1,g1,g2,g3,g4,g5,g6,_⟩:=SR.write2 (v:=.non) (c:=.d .none) (ys':=ys) ((s2.pop.pop).push (x:=.none) fun _=>.non) st hi hy
 rw[e1] at g1
 cases g1
 refine⟨l,us,k,.ref m',rfl,rfl,SqL.of g2,?_,h3 H0 σ _ _ H2 _ s2.pop fun m ⟨a',z,ea,hz,q⟩=>?_⟩
 ·unfold L2.atI
  rw[g3,hj]
  exact g4
 ·obtain⟨l2,m2,us2,vs2,k1,k2,k3,k4,k5,k6,k7⟩:=(s2.pop.sto ea).write2 (ys':=ys.set z a') st hi hy
  rw[e1] at k1
  cases k1
  rw[g2] at k2
  cases k2
  rw[g4] at k4
  cases k4
  exact .inl ⟨m',vs2,m,z,rfl,rfl,k5,by rw[k6];exact hz,f.nx _ q _ _ (k7 _ fun G H p q r1 r2=>RAs.set r2 z r1)⟩
theorem ZoI{α:Type}[DecidableEq α]{f:α→PyData}{m:Nat}{c:α}{xs:List α}(F:Enc f m)(ha:a.data=f c)(hb:b.data=.list (xs.map f)∨b.data=.tuple (xs.map f))(q:Q (.av (.d (.bool (!decide (c∈xs))))))(na:NR a:=by first|exact NR.av|exact NR.bor)(nb:NR b:=by first|exact NR.av|exact NR.bor)(hm:m≤32:=by decide):Op K E X (rInA K true) a b Q:=fun H0 σ ρ ts as H x y QV s _ k=>by
 have h1:=s.pop.top na
 have h2:=s.top nb
 rw[ha] at h1
 refine .inl ⟨f c,xs.map f,h1,(show _∨_ by rcases hb with e|e;exact .inl (e▸h2);exact .inr (e▸h2)),F.lay c,Zh1 F xs,Nat.le_trans (F.dep c) hm,?_⟩
 rw[if_pos rfl,ZgB F]
 exact k _ q _ H (s.pop.pop.bl _)
theorem ZoJ{ds es:List PyData}(ha:a.data=.tuple ds)(hb:b.data=.tuple es)(ka:Kp a ds)(kb:Kp b es)(hz:ds.length+es.length≤1000000)(q:Q (.av (.d (.tuple (ds++es)))))(na:NR a:=by first|exact NR.av|exact NR.bor)(nb:NR b:=by first|exact NR.av|exact NR.bor):Op K E X (rPlus K) a b Q:=fun H0 σ ρ ts as H x y QV s _ k=>by
 have kd:∀ {c:TV} {es:List PyData},NR c→c.data=.tuple es→Kp c es→∀ {z:V} {ts:List V} {as:List TV},SR K H0 σ ρ (z::ts) (c::as) H→SR K H0 σ ρ (z::ts) (.av (.d (.tuple es))::as) H:=fun {c es} nc hc kc {z ts as} s=>by
  rcases kc with e|e
  ·rw[hc] at e;rw[e] at s;exact s
  ·have hx:noLst (.tuple es)=true:=by simpa [noLst] using e
   exact s.pop.pushF hx (hc▸s.top nc)
 obtain⟨ys,⟨l2,e2,h2⟩,hl2,s2⟩:=s.items kb (fun ys=>∃ l,y=.ref l∧SqT K H l ys) (fun G rp sm=>by
  rw[hb] at rp
  obtain⟨l,xs,e,h3,h4⟩:=rp.tuple_inv
  exact⟨xs,⟨l,e,sm.tupS h3⟩,h4⟩) nb
 have s3:SR K H0 σ ρ (x::(ys++ts)) (a::((es.map AV.d).map TV.av++as)) H:=SR.rot (by rw[List.length_map,List.length_map,hl2]) s2
 obtain⟨xs,⟨l1,e1,h1⟩,hl1,s4⟩:=s3.items ka (fun ys=>∃ l,x=.ref l∧SqT K H l ys) (fun G rp sm=>by
  rw[ha] at rp
  obtain⟨l,xs,e,h3,h4⟩:=rp.tuple_inv
  exact⟨xs,⟨l,e,sm.tupS h3⟩,h4⟩) na
 by_cases hx:xs=[]
 ·subst hx
  have:ds=[]:=List.length_eq_zero_iff.mp (by rw[← hl1];rfl)
  subst this
  refine .inr (.inr (.inr (.inr ⟨l1,l2,ys,e1,e2,h1,h2,?_⟩)))
  have z:=kd nb hb kb s
  have z2:=z.swap.pop
  rw[e2] at z2
  exact k _ q _ _ z2
 ·refine .inr (.inr (.inl ⟨l1,l2,xs,ys,e1,e2,h1,h2,hx,Nat.le_of_lt (small6 (by omega)),fun ey=>?_,fun _ p hp=>k _ q _ _ ?_⟩))
  ·subst ey
   have:es=[]:=List.length_eq_zero_iff.mp (by rw[← hl2];rfl)
   subst this
   rw[List.append_nil] at q
   have z:=kd na ha ka s.pop
   rw[e1] at z
   exact k _ q _ _ z
  ·have s5:SR K H0 σ ρ ((xs++ys)++ts) (((ds++es).map AV.d).map TV.av++as) H:=by
    rw[List.append_assoc,List.map_append,List.map_append,List.append_assoc]
    exact s4
   have:=SR.newT s5 (by rw[List.length_append,List.length_map,List.length_append,hl1,hl2]) hp
   rw[Zib] at this
   exact this
end
end VL
end
section
namespace VL
open PySem PySem.Spec L2
variable[Tabs]
section
variable{α:Type}[DecidableEq α]
structure KEnc(f:α→PyData):Prop where
 ex:(∃ g:α→Key,(∀ a b,g a=g b→a=b)∧∀ a,f a=keyD (g a))∨(∃ g:α→List Key,(∀ a b,g a=g b→a=b)∧∀ a,f a=.tuple ((g a).map keyD))∨∃ g:α→Key×List Key,(∀ a b,g a=g b→a=b)∧∀ a,f a=.tuple [keyD (g a).1,.tuple ((g a).2.map keyD)]
noncomputable abbrev encD(f:α→PyData)(kvs:List (α×PyData)):List (PyData×PyData):=kvs.map fun p=>(f p.1,p.2)
theorem KEnc.int:KEnc PyData.int:=⟨.inl ⟨Sum.inl,fun _ _ e=>Sum.inl.inj e,fun _=>rfl⟩⟩
theorem Zb8:∀ {a b:List Int},(a.map Sum.inl:List Key)=b.map Sum.inl→a=b
 | [],[],_=>rfl
 | [],_::_,e=>by simp at e
 | _::_,[],e=>by simp at e
 | x::a,y::b,e=>by
  simp only[List.map_cons,List.cons.injEq,Sum.inl.injEq] at e
  rw[e.1,Zb8 e.2]
theorem KEnc.ints:KEnc (fun ns:List Int=>PyData.tuple (ns.map .int)):=⟨.inr (.inl ⟨fun ns=>ns.map .inl,fun a b e=>Zb8 e,fun ns=>by rw[List.map_map];rfl⟩)⟩
noncomputable abbrev dQ(p:Int×List Int):PyData:=.tuple [.int p.1,.tuple (p.2.map .int)]
theorem KEnc.nest:KEnc dQ:=⟨.inr (.inr ⟨fun p=>(.inl p.1,p.2.map .inl),fun a b e=>by
 simp only[Prod.mk.injEq,Sum.inl.injEq] at e
 exact Prod.ext e.1 (Zb8 e.2),fun p=>by rw[List.map_map];rfl⟩)⟩
theorem Zc7:∀ {a b:Key},keyD a=keyD b→a=b
 | .inl _,.inl _,e=>by cases e;rfl
 | .inr _,.inr _,e=>by cases e;rfl
theorem Zbd{k:Key}{l:List PyData}:keyD k≠.tuple l:=by cases k<;>exact fun e=>nomatch e
theorem ZbF{k:List Key}{x:PyData}{l:List PyData}:k.map keyD≠[x,.tuple l]:=fun e=>by
 cases k with
 | nil=>simp at e
 | cons a k =>
  cases k with
  | nil=>simp at e
  | cons b k =>
   simp only[List.map_cons,List.cons.injEq] at e
   exact Zbd e.2.1
theorem Zch:∀ {a b:List Key},a.map keyD=b.map keyD→a=b
 | [],[],_=>rfl
 | [],_::_,e=>by simp at e
 | _::_,[],e=>by simp at e
 | x::a,y::b,e=>by
  simp only[List.map_cons,List.cons.injEq] at e
  rw[Zc7 e.1,Zch e.2]
end
section
variable{K:W.Frag}{H:Hp}{α κ:Type}[DecidableEq α][DecidableEq κ]{g:α→κ}{en:κ→PyData}
noncomputable abbrev PR(K:W.Frag)(H:Hp)(g:α→κ):List (κ×V)→List (α×PyData)→Prop:=Paired fun p q=>p.1=g q.1∧Rep K H p.2 q.2
theorem ZdD(he:∀ a b,en a=en b→a=b):∀ {ks:List (κ×V)} {ds:List PyData} {kvs:List (α×PyData)},encD (fun a=>en (g a)) kvs=(ks.map fun p=>en p.1).zip ds→Reps K H (ks.map Prod.snd) ds→PR K H g ks kvs
 | [],_,[],_,_=>.nil
 | [],_,_::_,e,_=>by simp at e
 | _::_,_,[],e,.cons _ _=>by simp at e
 | p::ks,d::ds,q::kvs,e,.cons r rs=>by
  simp only[encD,List.map_cons,List.zip_cons_cons,List.cons.injEq,Prod.mk.injEq] at e
  refine .cons ⟨(he _ _ e.1.1).symm,?_⟩ (ZdD he e.2 rs)
  rw[e.1.2]
  exact r
theorem ZdY:∀ {ks:List (κ×V)} {kvs:List (α×PyData)},PR K H g ks kvs→Reps K H (ks.map Prod.snd) (kvs.map Prod.snd)
 | _,_,.nil=>.nil
 | _,_,.cons h t=>.cons h.2 (ZdY t)
theorem ZfA:∀ {ks:List (κ×V)} {kvs:List (α×PyData)},PR K H g ks kvs→encD (fun a=>en (g a)) kvs=(ks.map fun p=>en p.1).zip (kvs.map Prod.snd)
 | _,_,.nil=>rfl
 | p::ks,q::kvs,.cons h t=>by
  have ih:=ZfA t
  simp only[encD,List.map_cons,List.zip_cons_cons] at ih ⊢
  rw[ih,h.1]
theorem Zez(hg:∀ a b,g a=g b→a=b){k:α}:∀ {ks:List (κ×V)} {kvs:List (α×PyData)},PR K H g ks kvs→(valV ks (g k)).isSome=(getA kvs k).isSome∧∀ y,getA kvs k=some y→∃ v,valV ks (g k)=some v∧Rep K H v y
 | _,_,.nil=>⟨rfl,fun _ z=>nomatch z⟩
 | p::ks,q::kvs,.cons h t=>by
  obtain⟨i1,i2⟩:=Zez hg (k:=k) t
  by_cases e:q.1=k
  ·have e':p.1=g k:=by rw[h.1,e]
   rw[ZcX e']
   have:getA (q::kvs) k=some q.2:=by simp[getA,List.find?_cons,e]
   rw[this]
   exact⟨rfl,fun y z=>by cases z;exact⟨_,rfl,h.2⟩⟩
  ·have e':¬ p.1=g k:=fun z=>e (hg _ _ (h.1.symm.trans z))
   rw[ZcY e']
   have:getA (q::kvs) k=getA kvs k:=by simp[getA,List.find?_cons,e]
   rw[this]
   exact⟨i1,i2⟩
theorem ZgK(hg:∀ a b,g a=g b→a=b){k:α}{v:V}{y:PyData}(rv:Rep K H v y){ks:List (κ×V)}{kvs:List (α×PyData)}(h:PR K H g ks kvs):PR K H g (putK ks (g k) v) (putA kvs k y):=by
 have e:=(Zez hg (k:=k) h).1
 unfold putK putA
 rw[ZdG,e]
 by_cases c:(getA kvs k).isSome=true
 ·rw[if_pos c,if_pos c]
  clear e c
  induction h with
  | nil=>exact .nil
  | @cons p q ps qs hh t ih =>
   refine .cons ?_ ih
   dsimp only
   by_cases e:q.1=k
   ·rw[if_pos e,if_pos (show p.1=g k by rw[hh.1,e])];exact⟨hh.1,rv⟩
   ·rw[if_neg e,if_neg (fun z=>e (hg _ _ (hh.1.symm.trans z)))];exact hh
 ·rw[if_neg c,if_neg c]
  exact Paired.snoc h ⟨rfl,rv⟩
theorem Rep.kV{k:Key}{x:V}(h:Rep K H x (keyD k)):x=L2.kV k:=by
 cases k with
 | inl i=>exact h.int_inv
 | inr z=>cases (show Rep K H x (.str z) from h);rfl
theorem Reps.kVs:∀ {ks:List Key} {xs:List V},Reps K H xs (ks.map keyD)→xs=ks.map L2.kV
 | [],_,.nil=>rfl
 | k::ks,_,.cons r rs=>by rw[Rep.kV r,Reps.kVs rs];rfl
noncomputable abbrev en3(k:Key×List Key):PyData:=.tuple [keyD k.1,.tuple (k.2.map keyD)]
theorem Zf7{a b:Key×List Key}(e:en3 a=en3 b):a=b:=by
 simp only[en3,PyData.tuple.injEq,List.cons.injEq,and_true] at e
 exact Prod.ext (Zc7 e.1) (Zch e.2)
theorem Rep.keyN{k:Key×List Key}{x:V}(h:Rep K H x (en3 k)):∃ b,x=.ref b∧KeyN H b k:=by
 obtain⟨b,xs,rfl,hb,hr⟩:=h.tuple_at
 cases hr with
 | cons r1 hr =>
  cases hr with
  | cons r2 hr =>
   cases hr
   have e1:=Rep.kV r1
   subst e1
   obtain⟨c,ys,rfl,hc,hs⟩:=r2.tuple_at
   have e2:=Reps.kVs hs
   subst e2
   exact⟨b,rfl,c,hb,hc⟩
theorem ZgL{ks:List (κ×V)}{kvs:List (α×PyData)}(h:PR K H g ks kvs):ks.length=kvs.length:=Paired.length h
theorem ZaW{f:α→PyData}{en:κ→PyData}{ks:List (κ×V)}{ds:List PyData}{kvs:List (α×PyData)}(rs:Reps K H (ks.map Prod.snd) ds)(z:encD f kvs=(ks.map fun p=>en p.1).zip ds)(hne:∀ a k,f a≠en k):kvs=[]∧ks=[]:=by
 have hl:(encD f kvs).length=ks.length:=by
  have:=rs.length
  rw[List.length_map] at this
  rw[z,List.length_zip,List.length_map]
  omega
 cases kvs with
 | nil=>exact⟨rfl,List.eq_nil_of_length_eq_zero hl.symm⟩
 | cons q kvs =>
  cases ks with
  | nil=>cases hl
  | cons k ks =>
   cases ds with
   | nil=>cases z
   | cons d ds=>exact absurd (congrArg (fun l=>(l.headD (PyData.none,PyData.none)).1) z) (hne q.1 k.1)
theorem Ziq{k:Key}:keyD k≠.none:=by cases k<;>exact fun e=>nomatch e
theorem Zcy{f:α→PyData}(F:KEnc f){kvs:List (α×PyData)}{z:PyData}{l:List (PyData×PyData)}:encD f kvs≠(.none,z)::l:=fun e=>by
 cases kvs with
 | nil=>cases e
 | cons q kvs =>
  have e:=congrArg (fun l=>(l.headD (PyData.none,PyData.none)).1) e
  have e:f q.1=.none:=e
  rcases F.ex with⟨g,_,hf⟩|⟨g,_,hf⟩|⟨g,_,hf⟩
  ·exact Ziq ((hf _).symm.trans e)
  ·exact nomatch (hf _).symm.trans e
  ·exact nomatch (hf _).symm.trans e
theorem ZgM{G:Hp}{f:α→PyData}(F:KEnc f){kvs:List (α×PyData)}{x y:V}{c:α}(sm:Same G H)(hy:Rep K G y (.dict (encD f kvs)))(hx:Rep K H x (f c)) :
  ∃ a r,y=.ref a∧DGet0 H a x r∧r.isSome=(getA kvs c).isSome∧∀ z,getA kvs c=some z→∃ v,r=some v∧DGetA H a x r∧Rep K G v z:=by
 generalize hk:encD f kvs=l at hy
 cases hy with
 | exc _ z=>exact absurd (hk.trans z) (Zcy F)
 | excF _ _ _ z=>exact absurd (hk.trans z) (Zcy F)
 | junk=>exact absurd hk (Zcy F)
 | @dK a ks ds _ hd rs z =>
  have z:=hk.trans z
  clear hk
  rcases F.ex with⟨g,hg,hf⟩|⟨g,hg,hf⟩|⟨g,hg,hf⟩
  ·cases show f=fun a=>keyD (g a) from funext hf
   cases Rep.kV hx
   obtain⟨h1,h2⟩:=Zez hg (k:=c) (ZdD (fun _ _=>Zc7) z rs)
   exact⟨a,valV ks (g c),rfl,.inl (.inl ⟨ks,g c,sm.rd hd,rfl,rfl⟩),h1,fun z hz=>let ⟨v,e1,e2⟩:=h2 z hz;⟨v,e1,.inl (.inl ⟨ks,g c,sm.rd hd,rfl,rfl⟩),e2⟩⟩
  ·cases show f=fun a=>.tuple ((g a).map keyD) from funext hf
   obtain⟨b,xs,rfl,hb,hr⟩:=hx.tuple_at
   cases Reps.kVs hr
   obtain⟨rfl,rfl⟩:=ZaW rs z fun _ _=>Ne.symm Zbd
   exact⟨a,none,rfl,.inr (.inr (.inl ⟨rfl,⟨g c,b,rfl,hb⟩,sm.rd hd⟩)),rfl,fun _ z=>nomatch z⟩
  ·cases show f=fun a=>en3 (g a) from funext hf
   obtain⟨b,rfl,kn⟩:=Rep.keyN hx
   obtain⟨rfl,rfl⟩:=ZaW rs z fun _ _=>Ne.symm Zbd
   exact⟨a,none,rfl,.inr (.inr (.inr (.inr ⟨rfl,⟨g c,b,rfl,kn⟩,.inl (sm.rd hd)⟩))),rfl,fun _ z=>nomatch z⟩
 | @dT a ks ds _ hd rs z =>
  have z:=hk.trans z
  clear hk
  rcases F.ex with⟨g,hg,hf⟩|⟨g,hg,hf⟩|⟨g,hg,hf⟩
  ·cases show f=fun a=>keyD (g a) from funext hf
   cases Rep.kV hx
   obtain⟨rfl,rfl⟩:=ZaW (en:=fun k=>PyData.tuple (k.map keyD)) rs z fun _ _=>Zbd
   exact⟨a,none,rfl,.inr (.inl ⟨rfl,⟨g c,rfl⟩,sm.rd hd⟩),rfl,fun _ z=>nomatch z⟩
  ·cases show f=fun a=>.tuple ((g a).map keyD) from funext hf
   obtain⟨b,xs,rfl,hb,hr⟩:=hx.tuple_at
   cases Reps.kVs hr
   obtain⟨h1,h2⟩:=Zez hg (k:=c) (ZdD (en:=fun k=>PyData.tuple (k.map keyD)) (fun _ _ e=>Zch (PyData.tuple.inj e)) z rs)
   exact⟨a,valV ks (g c),rfl,.inl (.inr ⟨ks,g c,b,sm.rd hd,rfl,hb,rfl⟩),h1,fun z hz=>let ⟨v,e1,e2⟩:=h2 z hz;⟨v,e1,.inl (.inr ⟨ks,g c,b,sm.rd hd,rfl,hb,rfl⟩),e2⟩⟩
  ·cases show f=fun a=>en3 (g a) from funext hf
   obtain⟨b,rfl,kn⟩:=Rep.keyN hx
   obtain⟨rfl,rfl⟩:=ZaW (en:=fun k=>PyData.tuple (k.map keyD)) rs z fun _ _ e=>ZbF (PyData.tuple.inj e).symm
   exact⟨a,none,rfl,.inr (.inr (.inr (.inr ⟨rfl,⟨g c,b,rfl,kn⟩,.inr (sm.rd hd)⟩))),rfl,fun _ z=>nomatch z⟩
 | @dN a ks ds _ ne hd rs z =>
  have z:=hk.trans z
  clear hk
  rcases F.ex with⟨g,hg,hf⟩|⟨g,hg,hf⟩|⟨g,hg,hf⟩
  ·cases show f=fun a=>keyD (g a) from funext hf
   exact absurd (ZaW (en:=en3) rs z fun _ _=>Zbd).2 ne
  ·cases show f=fun a=>.tuple ((g a).map keyD) from funext hf
   exact absurd (ZaW (en:=en3) rs z fun _ _ e=>ZbF (PyData.tuple.inj e)).2 ne
  ·cases show f=fun a=>en3 (g a) from funext hf
   obtain⟨b,rfl,kn⟩:=Rep.keyN hx
   obtain⟨h1,h2⟩:=Zez hg (k:=c) (ZdD (en:=en3) (fun _ _=>Zf7) z rs)
   exact⟨a,valV ks (g c),rfl,.inr (.inr (.inr (.inl ⟨_,g c,b,sm.rd hd,rfl,kn,rfl⟩))),h1,fun z hz=>let ⟨v,e1,e2⟩:=h2 z hz;⟨v,e1,.inr ⟨_,g c,b,sm.rd hd,rfl,kn,rfl⟩,e2⟩⟩
theorem Zf8{f:α→PyData}(F:KEnc f){kvs:List (α×PyData)}{o:HO}{x v:V}{c:α}(hd:DicAt K H o (encD f kvs))(hx:Rep K H x (f c))(hl:kvs.length≤1000000) :
  ∃ o',(∀ a,H a=some o→DPut0 H a x v (upd H a o'))∧Mu o'∧∀ G y,DicAt K G o (encD f kvs)→Rep K G v y→DicAt K G o' (encD f (putA kvs c y)):=by
 rcases F.ex with⟨g,hg,hf⟩|⟨g,hg,hf⟩|⟨g,hg,hf⟩
 ·cases show f=fun a=>keyD (g a) from funext hf
  cases Rep.kV hx
  rcases hd with⟨ks,ds,rfl,rs,z⟩|⟨ks,ds,rfl,rs,z⟩|⟨ks,ds,ne,rfl,rs,z⟩
  ·have p:=ZdD (fun _ _=>Zc7) z rs
   refine⟨.dK (putK ks (g c) v),fun a ha=>.inl (DPut.k ha (small6 (by rw[ZgL p];exact hl))),trivial,fun G y hd' rv=>?_⟩
   clear z rs hx
   rcases hd' with⟨ks',ds',e,rs',z'⟩|⟨ks',ds',e,rs',z'⟩|⟨ks',ds',_,e,rs',z'⟩
   ·cases HO.dK.inj e
    have p':=ZgK hg (k:=c) rv (ZdD (fun _ _=>Zc7) z' rs')
    exact .inl ⟨_,_,rfl,ZdY p',ZfA p'⟩
   ·exact nomatch e
   ·exact nomatch e
  ·obtain⟨rfl,rfl⟩:=ZaW (en:=fun k=>PyData.tuple (k.map keyD)) rs z fun _ _=>Zbd
   exact⟨.dK [(g c,v)],fun a ha=>.inr (.inl ⟨g c,rfl,ha,rfl⟩),trivial,fun G y _ rv=>.inl ⟨[(g c,v)],[y],rfl,.cons rv .nil,rfl⟩⟩
  ·exact absurd (ZaW (en:=en3) rs z fun _ _=>Zbd).2 ne
 ·cases show f=fun a=>.tuple ((g a).map keyD) from funext hf
  obtain⟨b,xs,rfl,hb,hr⟩:=hx.tuple_at
  cases Reps.kVs hr
  clear hx hr
  rcases hd with⟨ks,ds,rfl,rs,z⟩|⟨ks,ds,rfl,rs,z⟩|⟨ks,ds,ne,rfl,rs,z⟩
  ·obtain⟨rfl,rfl⟩:=ZaW rs z fun _ _=>Ne.symm Zbd
   exact⟨.dT [(g c,v)],fun a ha=>.inr (.inr (.inl ⟨g c,b,rfl,hb,ha,rfl⟩)),trivial,fun G y _ rv=>.inr (.inl ⟨[(g c,v)],[y],rfl,.cons rv .nil,rfl⟩)⟩
  ·have hen:∀ a b:List Key,PyData.tuple (a.map keyD)=.tuple (b.map keyD)→a=b:=fun _ _ e=>Zch (PyData.tuple.inj e)
   have p:=ZdD (en:=fun k=>PyData.tuple (k.map keyD)) hen z rs
   refine⟨.dT (putK ks (g c) v),fun a ha=>.inl (DPut.t ha hb (small6 (by rw[ZgL p];exact hl))),trivial,fun G y hd' rv=>?_⟩
   clear z rs
   rcases hd' with⟨ks',ds',e,rs',z'⟩|⟨ks',ds',e,rs',z'⟩|⟨ks',ds',_,e,rs',z'⟩
   ·exact nomatch e
   ·cases HO.dT.inj e
    have p':=ZgK hg (k:=c) rv (ZdD (en:=fun k=>PyData.tuple (k.map keyD)) hen z' rs')
    exact .inr (.inl ⟨_,_,rfl,ZdY p',ZfA (en:=fun k=>PyData.tuple (k.map keyD)) p'⟩)
   ·exact nomatch e
  ·exact absurd (ZaW (en:=en3) rs z fun _ _ e=>ZbF (PyData.tuple.inj e)).2 ne
 ·cases show f=fun a=>en3 (g a) from funext hf
  obtain⟨b,rfl,kn⟩:=Rep.keyN hx
  clear hx
  rcases hd with⟨ks,ds,rfl,rs,z⟩|⟨ks,ds,rfl,rs,z⟩|⟨ks,ds,ne,rfl,rs,z⟩
  ·obtain⟨rfl,rfl⟩:=ZaW rs z fun _ _=>Ne.symm Zbd
   exact⟨.dN [(g c,v)],fun a ha=>.inr (.inr (.inr (.inr ⟨g c,b,rfl,kn,.inl ha,rfl⟩))),trivial,fun G y _ rv=>.inr (.inr ⟨[(g c,v)],[y],(fun z=>nomatch z),rfl,.cons rv .nil,rfl⟩)⟩
  ·obtain⟨rfl,rfl⟩:=ZaW (en:=fun k=>PyData.tuple (k.map keyD)) rs z fun _ _ e=>ZbF (PyData.tuple.inj e).symm
   exact⟨.dN [(g c,v)],fun a ha=>.inr (.inr (.inr (.inr ⟨g c,b,rfl,kn,.inr ha,rfl⟩))),trivial,fun G y _ rv=>.inr (.inr ⟨[(g c,v)],[y],(fun z=>nomatch z),rfl,.cons rv .nil,rfl⟩)⟩
  ·have p:=ZdD (en:=en3) (fun _ _=>Zf7) z rs
   refine⟨.dN (putK ks (g c) v),fun a ha=>.inr (.inr (.inr (.inl ⟨ks,g c,b,ha,rfl,kn,small6 (by rw[ZgL p];exact hl),rfl⟩))),trivial,fun G y hd' rv=>?_⟩
   rcases hd' with⟨ks',ds',e,rs',z'⟩|⟨ks',ds',e,rs',z'⟩|⟨ks',ds',ne',e,rs',z'⟩
   ·cases e
   ·cases e
   ·cases e
    have p':=ZgK hg (k:=c) rv (ZdD (en:=en3) (fun _ _=>Zf7) z' rs')
    refine .inr (.inr ⟨_,_,fun w=>ne ?_,rfl,ZdY p',ZfA (en:=en3) p'⟩)
    have:=congrArg List.length w
    unfold putK at this
    split at this
    ·rw[List.length_map] at this;exact List.length_eq_zero_iff.mp this
    ·simp at this
end
section
variable{K:W.Frag}{G G' H H' H0:Hp}{σ:St}{ρ:Sl}{ts:List V}{as:List TV}{v x y:V}{a b:TV}
theorem SR.writeD{i:Nat}{kvs kvs':List (PyData×PyData)}{z:PyData}(h:SR K H0 σ ρ (v::ts) (.av (.d z)::as) H)(hS:Stb as)(hi:ρ[i]?=some (some (.dic kvs))) :
  ∃ l o,σ[i]?=some (some (.ref l))∧H l=some o∧DicAt K H o kvs∧∀ o',Mu o'→(∀ G,DicAt K G o kvs→Rep K G v z→DicAt K G o' kvs')→SR K H0 σ (ρ.set i (some (.dic kvs'))) ts as (upd H l o'):=by
 obtain⟨⟨p,q,h1,h2,h3,h4⟩,s⟩:=h
 obtain⟨p1,p2,w,e1,e2,e3,e4⟩:=h1.frz hi fun _ _ _ _=>trivial
 cases h2 with
 | @cons _ _ _ _ q1 q2 _ r rs eq =>
  cases r with
  | av r =>
  cases r with
  | d rp eqz =>
  cases e3 with
  | @dic l o _ _ hl hd ep =>
   refine⟨l,o,e2,hl,hd.mono Zbu,fun o' mu hw=>?_⟩
   have hpl:p1 l=1:=by have:=ep l;simpa using this
   have ne:∀ b u,p b+q b=0→H b=some u→b≠l:=fun b u z _ y=>by subst y;have:=e1 b;omega
   have m0:Same (hid H p q) (hid (upd H l o') p q):=ZcL fun b u z w=>⟨z,ne b u z w⟩
   have k2:∀ b u,0<q b+p2 b→H b=some u→upd H l o' b=some u:=fun b u z w=>by
    rw[Zaf (fun y=>by subst y;have:=h3 b;have:=e1 b;omega)];exact w
   have z:=e4 (hid (upd H l o') p q) (upd H l o') (.ref l) (.dic kvs') (fun b=>if b=l then 1 else 0) (fun b=>(if b=l then 1 else 0)+p2 b) m0 (fun b u y=>k2 b u (by omega)) (.dic Zak (hw _ (hd.mono m0) (rp.same m0)) fun _=>rfl) (fun _=>rfl)
   rw[Zcu e2] at z
   have s2:Same H0 (upd H l o'):=s.updF (h4 l (by have:=e1 l;omega))
   refine SR.of_le (p:=p) (q:=q) (p':=fun b=>(if b=l then 1 else 0)+p2 b) (q':=q2) s2 h3 h4 (fun b=>?_) z (rs.monoS m0 hS fun b o y=>k2 b o (by have:=eq b;omega))
   have:=ep b;have:=e1 b;have:=eq b
   show (if b=l then 1 else 0)+p2 b+q2 b≤p b+q b
   omega
theorem SR.newD{l:Addr}(h:SR K H0 σ ρ ts as H)(hl:H l=none):SR K H0 σ ρ (.ref l::ts) (.av (.dic [])::as) (upd H l (.dK [])):=by
 obtain⟨⟨p,q,h1,h2,h3,h4⟩,s⟩:=h
 have hL:=SR.lsts h1 h2
 have z:∀ b u,H b=some u→b≠l:=fun b u y w=>by subst w;rw[hl] at y;cases y
 have zl:p l+q l=0:=by
  rcases Nat.eq_zero_or_pos (p l+q l) with w|w
  ·exact w
  ·obtain⟨_,w,_⟩:=hL l w;rw[hl] at w;cases w
 have m:Same (hid H p q) (hid (upd H l (.dK [])) p (fun b=>(if b=l then 1 else 0)+q b)):=ZcL fun b u y w=>by
  have:=z b u w
  refine⟨?_,this⟩
  show p b+((if b=l then 1 else 0)+q b)=0
  rw[if_neg this]
  omega
 have mo:∀ b u,H b=some u→upd H l (.dK []) b=some u:=fun b u y=>by rw[Zaf (z b u y)];exact y
 have s2:Same H (upd H l (.dK [])):=Za0 hl
 refine⟨⟨p,fun b=>(if b=l then 1 else 0)+q b,h1.mono m (fun b o _=>mo b o),.cons (.av (.dic Zak (.inl ⟨[],[],rfl,.nil,rfl⟩) fun _=>rfl)) (h2.mono m s2) (fun _=>rfl),fun b=>?_,fun b w=>?_⟩,s.trans s2⟩
 ·have:=h3 b
  by_cases hb:b=l
  ·subst hb;simp;omega
  ·simp[hb];omega
 ·by_cases hb:b=l
  ·subst hb;exact s.free hl
  ·refine h4 b ?_;simp[hb] at w;omega
end
section
variable{K:W.Frag}{E:FK}{X:Exc→Sl→Prop}{ρ:Sl}{Q:TV→Prop}{DV:VEnds}{ta tb te ti tj:TE}{i j:Int}{n:Nat}{r r':R2}{t u:TS}{a b:TV}
theorem Zlt(q:Q (.av (.dic []))):Ev K E X tDNewK ρ Q:=fun H0 σ ts as H QV s x k=>fun p hp=>k _ q _ _ (s.newD hp)
theorem Zir{α:Type}[DecidableEq α]{f:α→PyData}{c:α}{kvs:List (α×PyData)}(F:KEnc f)(ha:a.data=f c)(hb:b.data=.dict (encD f kvs))(q:Q (.av (.d (.bool (!(getA kvs c).isSome)))))(na:NR a:=by first|exact NR.av|exact NR.bor)(nb:NR b:=by first|exact NR.av|exact NR.bor):Op K E X (rInA K true) a b Q:=fun H0 σ ρ ts as H x y QV s _ k=>by
 have h1:=s.pop.top na
 have h2:=s.top nb
 rw[ha] at h1
 rw[hb] at h2
 obtain⟨l,r,rfl,g,e,_⟩:=ZgM F (.refl H) h2 h1
 refine .inr (.inl ⟨l,r,rfl,g,?_⟩)
 rw[if_pos rfl,e]
 exact k _ q _ H (s.pop.pop.bl _)
theorem Zhq{α:Type}[DecidableEq α]{f:α→PyData}{c:α}{kvs:List (α×PyData)}{z:PyData}{d:TV}(F:KEnc f)(ha:a.data=.dict (encD f kvs))(hb:b.data=f c)(e:getA kvs c=some z)(it:Item a z d)(q:Q d)(na:NR a:=by first|exact NR.av|exact NR.bor)(nb:NR b:=by first|exact NR.av|exact NR.bor):Op K E X (rIdx K) a b Q:=fun H0 σ ρ ts as H x y QV s _ k=>by
 have h1:=s.top nb
 rw[hb] at h1
 obtain⟨v,⟨l,e1,e2⟩,s'⟩:=s.pop.item na it (fun v=>∃ l,x=.ref l∧DGetA H l y (some v)) fun G rp sm=>by
  rw[ha] at rp
  obtain⟨l,r,e1,_,_,g⟩:=ZgM F sm rp h1
  obtain⟨v,e2,e3,e4⟩:=g z e
  subst e2
  exact⟨v,⟨l,e1,e3⟩,e4⟩
 exact .inr (.inr (.inr ⟨l,v,e1,e2,k _ q _ H s'⟩))
theorem Zis{α:Type}[DecidableEq α]{f:α→PyData}{kvs:List (α×PyData)}(F:KEnc f)(hi:ρ[n]?=some (some (.dic (encD f kvs))))(hz:kvs.length≤1000000)(h:Ev K E X te ρ fun a=>Ev K E X ti ρ fun b=>∃ z c,a.sto=some (.d z)∧b.data=f c∧NR b∧DV.nx (ρ.set n (some (.dic (encD f (putA kvs c z)))))) :
  Sv K E X (tAsg te (gSub (tVar n) ti rSetA)) ρ DV:=fun H0 σ ts as H D st s x fi=>by
 refine h H0 σ ts as H _ s x fun a h2 v H1 s1=>?_
 obtain⟨l,o,e1,e2,e3,_⟩:=(s.push (x:=.none) fun _=>.non).writeD (kvs':=encD f kvs) st hi
 refine⟨.ref l,e1,h2 H0 σ _ _ H1 _ s1 x fun b ⟨z,c,ea,eb,nb,q⟩ w H2 s2=>.inr ?_⟩
 have hx:=s2.top nb
 rw[eb] at hx
 obtain⟨l',o',k1,k2,k3,k4⟩:=(s2.pop.sto ea).writeD (kvs':=encD f (putA kvs c z)) st hi
 rw[e1] at k1
 cases k1
 obtain⟨o2,p1,p2,p3⟩:=Zf8 (v:=v) F k3 hx hz
 exact⟨l,_,rfl,p1 l k2,fi.nx _ q _ _ (k4 o2 p2 fun G hd rv=>p3 G z hd rv)⟩
end
end VL
end
section
namespace VL
open PySem PySem.Spec PyProof.Rows L2
variable[Tabs]
noncomputable def Z0:Fp:=fun _=>0
noncomputable def spR(K:W.Frag)(Pre:List AV→Prop)(Post:List AV→AV→Prop)(PX:List AV→Exc→Prop):Sp:=fun vs H Q E=>TabsIn H ∧
 ∃ as,RAs K H H vs as Z0∧Pre as∧(∀ c,Post as c→∀ v H',Rs K H H' v c→Q v H')∧∀ e,PX as e→∀ c d H',Same H H'→XRep K H' e c d→E c d H'
noncomputable def NP:List AV→Exc→Prop:=fun _ _=>False
noncomputable abbrev inA(N:List Str)(as:List AV):Sl:=as.map some++List.replicate (N.length-as.length) none
noncomputable abbrev finR(Post:AV→Prop):VEnds:=⟨fun _=>Post (.d .none),fun a=>∃ c,Res a c∧Post c,fun _=>False,fun _=>False⟩
section
variable{K:W.Frag}{H H0:Hp}{σ:L2.St}{ρ:Sl}{ts:List V}{as:List TV}
theorem SR.startA{N:List Str}{vs:List V}{cs:List AV}(h:RAs K H H vs cs Z0):SR K H (L2.start N vs) (inA N cs) [] [] H:=by
 have hl:=h.len
 have hid0:hid H (fun _=>0) (fun _=>0)=H:=by funext b;simp[hid]
 refine⟨⟨fun _=>0,fun _=>0,?_,.nil fun _=>rfl,fun _=>by simp,fun b z=>by simp at z⟩,.refl H⟩
 rw[hid0]
 unfold L2.start inA
 rw[hl]
 clear hl
 generalize N.length-cs.length=m
 have gen:∀ {vs:List V} {cs:List AV} {p:Fp},RAs K H H vs cs p→(∀ b,p b=0)→RSl K H H (vs.map some++List.replicate m none) (cs.map some++List.replicate m none) fun _=>0:=by
  intro vs cs
  induction vs generalizing cs with
  | nil =>
   intro p r _
   cases r
   simp only[List.map_nil,List.nil_append]
   clear h
   induction m with
   | zero=>exact .nil fun _=>rfl
   | succ m ih=>exact .no ih
  | cons v vs ih =>
   intro p r z
   cases r with
   | @cons _ _ _ _ p1 q1 _ r rs e =>
    have z1:∀ b,p1 b=0:=fun b=>by have:=e b;have:=z b;omega
    have z2:∀ b,q1 b=0:=fun b=>by have:=e b;have:=z b;omega
    exact .so r (ih rs z2) fun b=>by simp[z1 b]
 exact gen h fun _=>rfl
theorem bodyR{t:TS}{N:List Str}{Pre:List AV→Prop}{Post:List AV→AV→Prop}{PX:List AV→Exc→Prop}{vs:List V}{Qv:VK}{E:XK}(sp:spR K Pre Post PX vs H Qv E)
  (h:∀ cs,Pre cs→Sv K (toF E) (fun e _=>PX cs e) t (inA N cs) (finR (Post cs))):t { nx:=fun _ H'=>Qv .non H',rt:=Qv } (L2.start N vs) H:=by
 obtain⟨tb,cs,rp,pre,q,qx⟩:=sp
 refine h cs pre H _ [] [] H _ Stb.nil (SR.startA rp) ⟨fun e ρ z c d σ H' s xr=>qx e z c d H' s.same xr,tb⟩ ⟨fun ρ z σ' H' s'=>?_,fun _ z=>z.elim,fun _ z=>z.elim,fun a ⟨c,r,z⟩ v σ' ρ' H' s'=>?_⟩
 ·exact q _ z _ _ (SR.rs (v:=.non) (s'.push fun _=>.non))
 ·rcases r with rfl|⟨nr,rfl⟩
  ·exact q _ z _ _ s'.rs
  ·refine q _ z _ _ ⟨s'.same,fun _=>0,fun _=>by simp,fun b z=>by simp at z,.d ?_ fun _=>rfl⟩
   have hid0:hid H' (fun _=>0) (fun _=>0)=H':=by funext b;simp[hid]
   rw[hid0]
   exact s'.top nr
inductive Sh:TV→AV→Prop
 | d {b:TV} {x:PyData}:NR b→b.data=x→Sh b (.d x)
 | o {φ:V→Hp→Prop}:Sh (.av (.obj φ)) (.obj φ)
inductive Shs:List TV→List AV→Prop
 | nil:Shs [] []
 | cons {b:TV} {c:AV} {bs:List TV} {cs:List AV}:Sh b c→Shs bs cs→Shs (b::bs) (c::cs)
theorem SR.lent:∀ {vs:List V} {bs:List TV} {cs:List AV},Shs bs cs→vs.length=bs.length→SR K H0 σ ρ (vs++ts) (bs++as) H→RAs K H H vs cs Z0∧SR K H0 σ ρ ts as H
 | [],_,_,.nil,_,s=>⟨.nil fun _=>rfl,s⟩
 | [],_,_,.cons _ _,e,_=>by simp at e
 | v::vs,_,_,.nil,e,_=>by simp at e
 | v::vs,b::bs,c::cs,.cons h t,e,s=>by
  have s':SR K H0 σ ρ (v::(vs++ts)) (b::(bs++as)) H:=s
  obtain⟨r,s2⟩:=SR.lent t (by simpa using e) s'.pop
  refine⟨.cons (p:=Z0) (q:=Z0) ?_ r fun _=>rfl,s2⟩
  cases h with
  | d nr ed=>exact .d (ed▸s'.top nr) fun _=>rfl
  | o =>
   obtain⟨⟨p,q,h1,h2,h3,h4⟩,sm⟩:=s'
   cases h2 with
   | cons r rs e=>cases r with
    | av r=>cases r with
     | obj h m z=>exact .obj (m _ _ Zbu h) m fun _=>rfl
end
section
variable{P:Program}{w:World}{K:W.Frag}{mg:Str→Option Value}{base:Heap}{CX:CXT}{x qual:Str}{st:Stmt}{N ps:List Str}{dvss:List (List V)}{k:Nat}{Pre:List AV→Prop}{Post:List AV→AV→Prop}{PX:List AV→Exc→Prop}
theorem Zds{vs:List V}{H:Hp}{Q:VK}{E:XK}{n:Nat}(h:spR K Pre Post PX vs H Q E)(hS:∀ cs,Pre cs→cs.length=n):vs.length=n:=by
 obtain⟨_,cs,r,pre,_⟩:=h
 rw[r.len];exact hS cs pre
theorem valR(T:Tx K mg x st ps dvss)(Sc:FnScope N ps (defScope st))(hS:∀ cs,Pre cs→cs.length=ps.length)
  (hbody:∀ (f:Addr) (cdv:Value) (A:Around) (outer:List Env) (s:Shared) (H:Hp) (E:XK),Room k (A.deeper (envOfC x (defScope st) s.heap.objs.size f cdv)) →
   ∃ t,PSs (cxOf CX P w K mg base N x (defScope st) f cdv A outer s H E).nox (defBody st) t∧∀ cs,Pre cs→Sv K (toF E) NE t (inA N cs) (finR (Post cs))) :
  ∀ dvs∈dvss,Cal P w K mg base CX (k+1) x ps dvs (spR K Pre Post NP) :=
 T.cal (k:=k) Sc (fun vs H Q E h=>Zds h hS) fun f cdv A outer s H vs Q E hr h =>
  let ⟨t,h1,h2⟩:=hbody f cdv A outer s H E hr
  ⟨t,h1,bodyR h fun cs pre=>h2 cs pre⟩
theorem valRX(T:Tx K mg x st ps dvss)(Sc:FnScope N ps (defScope st))(hS:∀ cs,Pre cs→cs.length=ps.length)
  (hbody:∀ (f:Addr) (cdv:Value) (A:Around) (outer:List Env) (s:Shared) (H:Hp) (E:XK),Room k (A.deeper (envOfC x (defScope st) s.heap.objs.size f cdv)) →
   ∃ t,PSs ((cxOf (CXE P w) P w K mg base N x (defScope st) f cdv A outer s H E).wish (XE (cxOf (CXE P w) P w K mg base N x (defScope st) f cdv A outer s H E) (toF E))) (defBody st) t∧∀ cs,Pre cs→Sv K (toF E) (fun e _=>PX cs e) t (inA N cs) (finR (Post cs))) :
  ∀ dvs∈dvss,Cal P w K mg base (CXE P w) (k+1) x ps dvs (spR K Pre Post PX) :=
 T.calX (k:=k) Sc (fun vs H Q E h=>Zds h hS) fun f cdv A outer s H vs Q E hr h =>
  let ⟨t,h1,h2⟩:=hbody f cdv A outer s H E hr
  ⟨t,h1,bodyR h fun cs pre=>h2 cs pre⟩
end
section
variable{K:W.Frag}{E:FK}{X:Exc→Sl→Prop}{ρ:Sl}{Q:TV→Prop}{DV:VEnds}{a:TV}{Pre:List AV→Prop}{Post:List AV→AV→Prop}{PX:List AV→Exc→Prop}
noncomputable def ClR(Pre:List AV→Prop)(Post:List AV→AV→Prop)(PX:List AV→Exc→Prop)(dds:List AV)(Q:TV→Prop)(X:Exc→Prop)(bs:List TV):Prop :=
 ∃ cs,Shs bs cs∧Pre (cs++dds)∧(∀ c,Post (cs++dds) c→∃ a,Got c a∧Q a)∧∀ e,PX (cs++dds) e→X e
theorem RAs.app{H:Hp}:∀ {vs ws:List V} {xs ys:List AV},RAs K H H vs xs Z0→RAs K H H ws ys Z0→RAs K H H (vs++ws) (xs++ys) Z0:=by
 intro vs ws xs ys h g
 have gen:∀ {vs:List V} {xs:List AV} {p:Fp},RAs K H H vs xs p→(∀ b,p b=0)→RAs K H H (vs++ws) (xs++ys) Z0:=by
  intro vs
  induction vs with
  | nil=>intro xs p r _;cases r;exact g
  | cons v vs ih =>
   intro xs p r z
   cases r with
   | @cons _ _ _ _ p1 q1 _ r rs e =>
    have z1:∀ b,p1 b=0:=fun b=>by have:=e b;have:=z b;omega
    have z2:∀ b,q1 b=0:=fun b=>by have:=e b;have:=z b;omega
    exact .cons r (ih rs z2) fun b=>by simp[Z0,z1 b]
 exact gen h fun _=>rfl
theorem ZeA{H:Hp}:RAs K H H [] [] Z0:=.nil fun _=>rfl
theorem Znk{H:Hp}{k:Int}:RAs K H H [.int k] [.d (.int k)] Z0:=.cons (p:=Z0) (q:=Z0) (.d (.int k) fun _=>rfl) ZeA fun _=>rfl
theorem ZoK{dvs:List V}{dds:List AV}{A:TA}{E':XK}(hd:∀ H,RAs K H H dvs dds Z0)(h:Ea K E X A ρ (ClR Pre Post NP dds Q fun _=>True)):Ev K E X (tCall (spR K Pre Post NP) dvs E' A) ρ Q:=fun H0 σ ts as H QV s x k =>
 h H0 σ ts as H _ s x fun bs ⟨cs,sh,pre,q,_⟩ vs H' s' hl=>by
  obtain⟨rp,s2⟩:=SR.lent sh hl s'
  exact⟨x.t.same s2.same,cs++dds,rp.app (hd H'),pre,fun c hc v H2 r=>let ⟨a,g,z⟩:=q c hc;k a z v H2 (s2.gotG r g),fun e z=>z.elim⟩
theorem ZoL{A:TA}{E':XK}(h:Ea K E X A ρ (ClR Pre Post NP [] Q fun _=>True)):Ev K E X (tCall (spR K Pre Post NP) [] E' A) ρ Q:=ZoK (fun _=>ZeA) h
theorem Zkv{dvs:List V}{dds:List AV}{A:TA}(hd:∀ H,RAs K H H dvs dds Z0)(h:Ea K E X A ρ (ClR Pre Post PX dds Q fun e=>X e ρ)):Ev K E X (tCallX (spR K Pre Post PX) dvs E A) ρ Q:=fun H0 σ ts as H QV s x k =>
 h H0 σ ts as H _ s x fun bs ⟨cs,sh,pre,q,qx⟩ vs H' s' hl=>by
  obtain⟨rp,s2⟩:=SR.lent sh hl s'
  exact⟨x.t.same s2.same,cs++dds,rp.app (hd H'),pre,fun c hc v H2 r=>let ⟨a,g,z⟩:=q c hc;k a z v H2 (s2.gotG r g),fun e z c d H2 sm xr=>x.x e ρ (qx e z) c d σ H2 (s2.ext sm).pops xr⟩
theorem Znl{A:TA}(h:Ea K E X A ρ (ClR Pre Post PX [] Q fun e=>X e ρ)):Ev K E X (tCallX (spR K Pre Post PX) [] E A) ρ Q:=Zkv (fun _=>ZeA) h
theorem Znm{A:TA}{k:Int}(h:Ea K E X A ρ (ClR Pre Post PX [.d (.int k)] Q fun e=>X e ρ)):Ev K E X (tCallX (spR K Pre Post PX) [.int k] E A) ρ Q:=Zkv (fun _=>Znk) h
end
end VL
end
section
namespace VL
open PySem PySem.Spec L2
variable[Tabs]
section
variable{K:W.Frag}{E:FK}{X:Exc→Sl→Prop}{Q:TV→Prop}{nx bk ct:Sl→Prop}{rt:TV→Prop}{ta tb te ti tj:TE}{x:PyData}{r:Sl}{a:AV}{n:Nat}{ρ:Sl}{r':R2}
theorem Zdt{φ:V→Hp→Prop}(h:ρ[n]?=some (some (.obj φ)))(q:Q (.av (.obj φ))):Ev K E X (tVar n) ρ Q:=fun H0 σ ts as H QV s _ k=>by
 have s0:=s
 obtain⟨⟨p,q',h1,h2,h3,h4⟩,e⟩:=s
 obtain⟨p1,p2,v,e1,e2,e3,e4⟩:=h1.frz h fun _ _ _ _=>trivial
 refine⟨v,e2,k _ q v H ⟨⟨p,q',h1,?_,h3,h4⟩,e⟩⟩
 cases e3 with
 | obj g m z=>exact .cons (.av (.obj (p:=fun _=>0) g m fun _=>rfl)) h2 fun b=>by simp
theorem ZoM{s0:Option AV}{kvs:List (PyData×PyData)}(q:Q (.bor (.dict kvs))):Ev K E X (tVar 1) (s0::some (.dic kvs)::r) Q:=ZbS rfl q
theorem Zkw{s0:Option AV}{α:Type}[DecidableEq α]{f:α→PyData}{kvs:List (α×PyData)}(F:KEnc f)(hz:kvs.length≤1000000)(h:Ev K E X te (s0::some (.dic (encD f kvs))::r) fun a=>Ev K E X ti (s0::some (.dic (encD f kvs))::r) fun b=>∃ z c,a.sto=some (.d z)∧b.data=f c∧NR b∧nx (s0::some (.dic (encD f (putA kvs c z)))::r)):Sv K E X (tAsg te (gSub (tVar 1) ti rSetA)) (s0::some (.dic (encD f kvs))::r) ⟨nx,rt,bk,ct⟩:=Zis (n:=1) F rfl hz h
theorem ZoN{s0 s1:Option AV}{φ:V→Hp→Prop}(q:Q (.av (.obj φ))):Ev K E X (tVar 2) (s0::s1::some (.obj φ)::r) Q:=Zdt rfl q
theorem ZoO{s0 s1 s2:Option AV}{φ:V→Hp→Prop}(q:Q (.av (.obj φ))):Ev K E X (tVar 3) (s0::s1::s2::some (.obj φ)::r) Q:=Zdt rfl q
theorem ZoP{s0 s1 s2 s3:Option AV}{φ:V→Hp→Prop}(q:Q (.av (.obj φ))):Ev K E X (tVar 4) (s0::s1::s2::s3::some (.obj φ)::r) Q:=Zdt rfl q
theorem ZoQ{s0 s1 s2 s3 s4:Option AV}{kvs:List (PyData×PyData)}(q:Q (.bor (.dict kvs))):Ev K E X (tVar 5) (s0::s1::s2::s3::s4::some (.dic kvs)::r) Q:=ZbS rfl q
theorem ZoR{s0 s1 s2 s3 s4:Option AV}{φ:V→Hp→Prop}(q:Q (.av (.obj φ))):Ev K E X (tVar 5) (s0::s1::s2::s3::s4::some (.obj φ)::r) Q:=Zdt rfl q
theorem Znn{s0 s1 s2 s3 s4:Option AV}{α:Type}[DecidableEq α]{f:α→PyData}{kvs:List (α×PyData)}(F:KEnc f)(hz:kvs.length≤1000000)(h:Ev K E X te (s0::s1::s2::s3::s4::some (.dic (encD f kvs))::r) fun a=>Ev K E X ti (s0::s1::s2::s3::s4::some (.dic (encD f kvs))::r) fun b=>∃ z c,a.sto=some (.d z)∧b.data=f c∧NR b∧nx (s0::s1::s2::s3::s4::some (.dic (encD f (putA kvs c z)))::r)):Sv K E X (tAsg te (gSub (tVar 5) ti rSetA)) (s0::s1::s2::s3::s4::some (.dic (encD f kvs))::r) ⟨nx,rt,bk,ct⟩:=Zis (n:=5) F rfl hz h
theorem ZoS{s0 s1 s2 s3 s4 s5:Option AV}{φ:V→Hp→Prop}(q:Q (.av (.obj φ))):Ev K E X (tVar 6) (s0::s1::s2::s3::s4::s5::some (.obj φ)::r) Q:=Zdt rfl q
theorem Zno{s0 s1 s2 s3 s4 s5:Option AV}{xs:List AV}(h:Ev K E X te (s0::s1::s2::s3::s4::s5::some (.own xs)::r) fun a=>Ev K E X ti (s0::s1::s2::s3::s4::s5::some (.own xs)::r) fun b=>∃ k j ys,b=.av (.d (.int k))∧ixN xs.length k=some j∧xs[j]?=some (.own ys)∧Pu K tj (s0::s1::s2::s3::s4::s5::some (.own xs)::r) fun m=>∃ a' z,a.sto=some a'∧ixN ys.length m=some z∧nx (s0::s1::s2::s3::s4::s5::some (.own (xs.set j (.own (ys.set z a'))))::r)):Sv K E X (tAsg te (gSub (tOp (rOr (rIxL K) r') (tVar 6) ti) tj rSetA)) (s0::s1::s2::s3::s4::s5::some (.own xs)::r) ⟨nx,rt,bk,ct⟩:=Zls (n:=6) rfl h
theorem ZoT{s0 s1 s2 s3 s4 s5 s6:Option AV}{φ:V→Hp→Prop}(q:Q (.av (.obj φ))):Ev K E X (tVar 7) (s0::s1::s2::s3::s4::s5::s6::some (.obj φ)::r) Q:=Zdt rfl q
end
end VL
end
section
namespace L2
section
variable{α β:Type}[DecidableEq α]
theorem ZbP{p:α×β}{r:List (α×β)}{k:α}(e:p.1=k):getA (p::r) k=some p.2:=by simp[getA,List.find?_cons,e]
theorem ZbQ{p:α×β}{r:List (α×β)}{k:α}(e:¬ p.1=k):getA (p::r) k=getA r k:=by simp[getA,List.find?_cons,e]
theorem ZgN{k j:α}{y:β}:∀ kvs:List (α×β),getA (kvs.map fun kv=>if kv.1=k then (kv.1,y) else kv) j=(getA kvs j).map fun x=>if j=k then y else x
 | []=>rfl
 | p::r=>by
  have ih:=ZgN (k:=k) (j:=j) (y:=y) r
  rw[List.map_cons]
  by_cases h:p.1=k
  ·rw[if_pos h]
   by_cases e:p.1=j
   ·rw[ZbP (p:=(p.1,y)) e,ZbP e,Option.map_some,if_pos (e.symm.trans h)]
   ·rw[ZbQ (p:=(p.1,y)) e,ZbQ e,ih]
  ·rw[if_neg h]
   by_cases e:p.1=j
   ·rw[ZbP (p:=p) e,ZbP e,Option.map_some,if_neg (fun z=>h (e.trans z))]
   ·rw[ZbQ (p:=p) e,ZbQ e,ih]
theorem ZfB{k j:α}{y:β}:∀ kvs:List (α×β),getA kvs k=none→getA (kvs++[(k,y)]) j=if j=k then some y else getA kvs j
 | [],_=>by
  by_cases e:k=j
  ·rw[if_pos e.symm];exact ZbP (p:=(k,y)) e
  ·rw[if_neg (fun z=>e z.symm)];exact ZbQ (p:=(k,y)) e
 | p::r,hn=>by
  rw[List.cons_append]
  have hk:¬ p.1=k:=fun z=>by rw[ZbP z] at hn;cases hn
  rw[ZbQ hk] at hn
  have ih:=ZfB (k:=k) (j:=j) (y:=y) r hn
  by_cases e:p.1=j
  ·rw[ZbP e,ZbP e,if_neg (fun z=>hk (e.trans z))]
  ·rw[ZbQ e,ZbQ e,ih]
theorem ZgO(kvs:List (α×β))(k j:α)(y:β):getA (putA kvs k y) j=if j=k then some y else getA kvs j:=by
 unfold putA
 by_cases a:(getA kvs k).isSome=true
 ·rw[if_pos a,ZgN]
  by_cases e:j=k
  ·obtain⟨x,hx⟩:=Option.isSome_iff_exists.mp a
   rw[if_pos e,e,hx,Option.map_some,if_pos rfl]
  ·rw[if_neg e]
   cases getA kvs j with
   | none=>rfl
   | some x=>rw[Option.map_some,if_neg e]
 ·rw[if_neg a]
  refine ZfB kvs ?_
  cases q:getA kvs k with
  | none=>rfl
  | some x=>rw[q] at a;exact (a rfl).elim
theorem ZgP(kvs:List (α×β))(k:α)(v:β):(putA kvs k v).length≤kvs.length+1:=by
 unfold putA
 split
 ·rw[List.length_map];omega
 ·rw[List.length_append];simp
end
end L2
namespace VL
open PySem PySem.Spec L2
variable[Tabs]
section
variable{K:W.Frag}{ρ:Sl}{P:Sl→Prop}{g1 g2 g3:TG}{x y z:PyData}
theorem ZcO(h:Gv K g1 x ρ fun ρ'=>Gv K g2 y ρ' P):Gv K (gTup K 2 (gCons g1 (gCons g2 gNil))) (.tuple [x,y]) ρ P:=fun H0 σ ts as H v Qg s k=>by
 obtain⟨xs,⟨l,e,h1⟩,h2,s'⟩:=s.items (es:=[x,y]) Kp.d (fun xs=>∃ l,v=.ref l∧SqT K H l xs) (fun G rp sm=>by
  obtain⟨l,xs,e,h3,h4⟩:=Rep.tuple_inv (ds:=[x,y]) rp
  exact⟨xs,⟨l,e,sm.tupS h3⟩,h4⟩) NR.av
 obtain⟨a,b,rfl⟩:=len2 h2
 refine⟨l,[a,b],e,h1,rfl,a,[b],rfl,h H0 σ (b::ts) (.av (.d y)::as) H a _ s' fun ρ' hg σ' H' s2=>?_⟩
 exact⟨b,[],rfl,hg H0 σ' ts as H' b _ s2 fun ρ2 p σ2 H2 s3=>⟨rfl,k ρ2 p σ2 H2 s3⟩⟩
end
section
variable{K:W.Frag}{E:FK}{X:Exc→Sl→Prop}{ρ:Sl}{nx bk ct:Sl→Prop}{rt:TV→Prop}{c:TT}{t u:TS}
end
end VL
end
section
namespace VL
open PySem PySem.Spec L2
variable[Tabs]
section
variable{K:W.Frag}{E:FK}{X:Exc→Sl→Prop}{ρ:Sl}{Q:TV→Prop}{te:TE}
theorem ZdK{cap:List (Option Nat)}{wi:TI}{g:TG}{tt:TT}(h:Iv K E X wi ρ fun n f _=>n≤1000000∧∃ I:Nat→List AV→Prop,I 0 []∧(∀ i ys,i<n→I i ys→Gv K g (f i) (capV cap ρ) fun ρ'=>Wk ρ' (capV cap ρ)∧Tv K E NE tt ρ' fun b=>if b=true then Ev K E NE te ρ' fun a=>∃ c,a.sto=some c∧I (i+1) (ys++[c]) else I (i+1) ys) ∧
  ∀ ys,I n ys→∃ a,Got (.own ys) a∧Q a):Ev K E X (tComp cap wi g tt te) ρ Q:=fun H0 σ ts as H QV s x k =>
 h H0 σ ts as H _ s x fun n f hd ⟨hn,I,i0,turn,fin⟩ u J H1 nr s1 ok D hD=>by
  have xo:XOk K E NE H1:=XOk.ne (x.t.same s1.same)
  have sD:Same H1 (upd H1 D (.lst [])):=Za0 hD
  have st:Stb [TV.av (.d hd.data)]:=Stb.cons Stb.nil
  have start:SR K H1 (capS cap σ) (capV cap ρ) [.ref D,u] [.av (.own []),.av (.d hd.data)] (upd H1 D (.lst [])):=by
   have m:Same H1 (hid (upd H1 D (.lst [])) (fun _=>0) fun b=>if b=D then 1 else 0):=fun b o e=>by
    have hb:b≠D:=Zam e hD
    unfold hid
    simp[hb]
    rw[Zaf hb]
    exact e
   refine⟨⟨fun _=>0,fun b=>if b=D then 1 else 0,RSl.cap s1 m cap,.cons (.av (.own Zak (.nil (p:=fun _=>0) fun _=>rfl) (q:=fun b=>if b=D then 1 else 0) fun b=>by simp)) (.cons (.av (.d (p:=fun _=>0) ((s1.top nr).same m) fun _=>rfl)) (.nil (p:=fun _=>0) fun _=>rfl) (r:=fun _=>0) fun b=>by simp) (fun b=>by simp),fun b=>by simp;split<;>omega,fun b z=>?_⟩,sD⟩
   by_cases hb:b=D
   ·rw[hb];exact hD
   ·simp[hb] at z
  refine⟨fun i m σ' H'=>m=n-i∧i≤n∧∃ ys,I i ys∧ys.length≤i∧SR K H1 σ' (capV cap ρ) [.ref D,u] [.av (.own ys),.av (.d hd.data)] H',⟨n,by simp,Nat.zero_le _,[],i0,Nat.le_refl _,start⟩,?_⟩
  rintro i m σ2 H2 ⟨rfl,hi,ys,iy,hly,s2⟩
  by_cases hlt:i<n
  ·obtain⟨g1,g2⟩:=s2.swap.turn ok hlt
   refine .inr ⟨g1,fun σ' H'=>∃ ys,I (i+1) ys∧ys.length≤i+1∧SR K H1 σ' (capV cap ρ) [.ref D,u] [.av (.own ys),.av (.d hd.data)] H',fun σ' H' p=>⟨n-(i+1),by omega,rfl,hlt,p⟩,fun w H3 hw=>?_⟩
   have s3:=g2 w H3 hw
   refine turn i ys hlt iy H1 σ2 _ _ H3 w _ s3 fun ρ4 ⟨wk,tv⟩ σ4 H4 s4=>?_
   refine tv H1 σ4 _ _ H4 _ s4 xo fun b qb H5 s5=>?_
   cases b with
   | true =>
    rw[if_pos rfl] at qb ⊢
    refine qb H1 σ4 _ _ H5 _ s5 xo fun a ⟨c,e2,e1⟩ z H6 s6=>?_
    have s7:=(s6.sto e2)
    have s8:SR K H1 σ4 ρ4 [z,.ref D,u] [.av c,.av (.own ys),.av (.d hd.data)] H6:=by
     obtain⟨⟨p,q,k1,k2,k3,k4⟩,e⟩:=s7
     refine⟨⟨p,q,k1,?_,k3,k4⟩,e⟩
     cases k2 with
     | cons r rs eq=>exact .cons r rs.swap eq
    obtain⟨vs,h1,h2,h3⟩:=s8.snocT st
    refine⟨vs,h1,small6 ?_,ys++[c],e1,by rw[List.length_append];simp;omega,wk _ _ _ _ _ _ h3⟩
    rw[h2]
    omega
   | false =>
    rw[if_neg Bool.false_ne_true] at qb ⊢
    exact⟨ys,qb,by omega,wk _ _ _ _ _ _ s5.swap⟩
  ·have e:i=n:=by omega
   subst e
   obtain⟨a,hg,q⟩:=fin ys iy
   exact .inl ⟨s2.swap.halt NR.av rfl ok (Nat.le_refl _),k _ q _ _ (s1.pop.gotG s2.rs hg)⟩
theorem Zlu{α:Type}{cap:List (Option Nat)}{g:TG}{tt:TT}{ti:TE}(h:Ev K E X ti ρ fun a=>∃ (xs:List α) (e:α→PyData) (I:Nat→List AV→Prop),(a.data=.list (xs.map e)∨a.data=.tuple (xs.map e))∧NR a∧xs.length≤1000000∧I 0 [] ∧
  (∀ i ys (hi:i<xs.length),I i ys→Gv K g (e xs[i]) (capV cap ρ) fun ρ'=>Wk ρ' (capV cap ρ)∧Tv K E NE tt ρ' fun b=>if b=true then Ev K E NE te ρ' fun a=>∃ c,a.sto=some c∧I (i+1) (ys++[c]) else I (i+1) ys) ∧
  ∀ ys,I xs.length ys→∃ a,Got (.own ys) a∧Q a):Ev K E X (tComp cap (iSeq K ti) g tt te) ρ Q :=
 ZdK (Zie (Zex h (fun a hh=>by
  obtain⟨xs,e,I,ha,na,hl,i0,turn,fin⟩:=hh
  exact⟨xs.map e,ha,na,by rw[List.length_map];exact hl,I,i0,fun i ys hi iy=>by
  rw[List.length_map] at hi
  show Gv K g ((xs.map e).getD i .none) _ _
  rw[Zcv hi]
  exact turn i ys hi iy,fun ys iy=>fin ys (by rw[List.length_map] at iy;exact iy)⟩)))
theorem ZeR{ρ:Sl}{B C:Prop}(h:B):Tv K E NE tAll ρ fun b=>if b=true then B else C:=ZgC (by rw[if_pos rfl];exact h)
end
end VL
end
section
namespace VL
open PySem PySem.Spec L2
variable[Tabs]
section
variable{K:W.Frag}{E:FK}{X:Exc→Sl→Prop}{ρ:Sl}{Q:TV→Prop}{te:TE}
theorem Zlv{l:Addr}{ds:List PyData}:ItOk K (Ite K l) (.ref l) (.list ds) ds.length fun i=>.tuple [.int i,ds.getD i .none]:=by
 intro G H sm rp
 obtain⟨l',ys,e',h3,h4⟩:=rp.list_inv
 cases e'
 have h5:=sm.seq h3
 refine⟨fun i hi=>?_,fun i hi=>⟨ys,h5,by rw[h4.length];exact hi⟩⟩
 obtain⟨w,h6,h7⟩:=h4.get (i:=i) (d:=ds.getD i .none) (by rw[List.getD_eq_getElem?_getD,List.getElem?_eq_getElem hi];rfl)
 refine⟨⟨ys,w,h5,h6⟩,fun x H' ⟨p,x0,hp,e1,e2,e3⟩=>?_⟩
 subst e1 e2
 have:=e3 ys h5
 rw[h6] at this
 cases this
 exact⟨Za0 hp,fun G' m k=>.tup (k p _ Zak hp) (.cons (.int i) (.cons (h7.same m) .nil))⟩
theorem Zlw{A:TA}{P:Nat→(Nat→PyData)→TV→Prop}(h:Ea K E X A ρ fun bs=>∃ a ds,bs=[a]∧a.data=.list ds∧NR a∧P ds.length (fun i=>.tuple [.int i,ds.getD i .none]) a.frz):Iv K E X (iEnum K A) ρ P:=fun H0 σ ts as H R s x k =>
 h H0 σ ts as H _ s x fun bs ⟨a,ds,eb,e,na,q⟩ vs H' s' hl=>by
  subst eb
  obtain⟨v,rfl,s'⟩:=ZbX s' hl
  have rp:=s'.top na
  rw[e] at rp
  obtain⟨l,xs,rfl,h1,h2⟩:=rp.list_inv
  refine⟨l,rfl,⟨xs,h1⟩,k _ _ _ q (.ref l) _ H' (TV.frz_nr na) s'.frzV ?_⟩
  rw[TV.frz_data,e]
  exact Zlv
theorem ZoU{α:Type}{nx bk ct:Sl→Prop}{rt:TV→Prop}{A:TA}{g:TG}{tb:TS}(h:Ea K E X A ρ fun bs=>∃ (a:TV) (xs:List α) (e:α→PyData),bs=[a]∧a.data=.list (xs.map e)∧(∃ c,a=.av c)∧∃ Iw:Nat→Sl→Prop,Iw 0 ρ∧(∀ i ρ' (hi:i<xs.length),Iw i ρ'→Gv K g (.tuple [.int i,e xs[i]]) ρ' fun ρ''=>Sv K E X tb ρ'' ⟨Iw (i+1),rt,nx,Iw (i+1)⟩)∧∀ ρ',Iw xs.length ρ'→nx ρ'):Sv K E X (tFor (iEnum K A) g tb) ρ ⟨nx,rt,bk,ct⟩ :=
 Zfu (Zlw fun H0 σ ts as H QV s x k=>h H0 σ ts as H QV s x fun bs ⟨a,xs,e,eb,ha,⟨c,hc⟩,Iw,i0,turn,fin⟩=>k bs ⟨a,xs.map e,eb,ha,by subst hc;exact NR.av,⟨c.data,by rw[hc];rfl⟩,Iw,i0,fun i ρ' hi w=>by
  rw[List.length_map] at hi
  show Gv K g (.tuple [.int i,(xs.map e).getD i .none]) ρ' _
  rw[Zcv hi]
  exact turn i ρ' hi w,fun ρ' w=>fin ρ' (by rw[List.length_map] at w;exact w)⟩)
end
end VL
end
section
namespace L2
open PySem PySem.Spec PyProof.Rows
noncomputable def Itv(K:W.Frag)(a:Addr)(n:Nat):It :=
  ⟨fun i H=>∃ xs x,SqL K H a xs∧xs.length=n∧i<n∧xs[n-1-i]?=some x,
   fun i H x H'=>H'=H∧∀ xs,SqL K H a xs→xs[n-1-i]?=some x,
   fun i H=>n≤i⟩
theorem ZjL{P:Program}{w:World}{K:W.Frag}{tg:Expr}(a it:Addr)(n:Nat):Turn P w K tg (Itv K a n) [it] it (fun i h=>i≤n∧h.IsRevIter it a ((n:Int)-1-(i:Int))) where
 mem:=by simp
 obj:=fun i h st b hb=>by
  have e:b=it:=by simpa using hb
  subst e
  obtain⟨_,o,e,c,d⟩:=st
  exact⟨o,e,fun v z=>by rw[d] at z;cases z⟩
 keep:=fun i h h' st k=>⟨st.1,st.2.at fun o e=>k it (by simp) o e⟩
 item:=by
  intro X hP hw hK hc i pins s σ H E I hf st hg
  subst hP hw hK
  obtain⟨xs,x,hq,hn,hi,hx⟩:=hg
  obtain⟨its,rv,p,hz⟩:=I.list hq
  obtain⟨u,hu,ru⟩:=rv.get hx
  obtain⟨f0,f1,f2,f3,f4,f5⟩:=hf it (by simp)
  have e1:(n:Int)-1-(i:Int)=((n-1-i:Nat):Int):=by omega
  have hit:=st.2
  rw[e1] at hit
  refine wpAny_pyNext_rev_item hit p.isList (x:=u) (by simpa using hu) fun h' st' sb=>?_
  have I1:Inv X pins σ H { s with heap:=h' }:=I.turned (t':=s.toks) (fun b o hb e=>(sb.2 b hb).trans e) f0 f1 f3 f4 f5
  have e2:((n-1-i:Nat):Int)-1=(n:Int)-1-((i+1:Nat):Int):=by omega
  rw[e2] at st'
  obtain⟨o,e,c,d⟩:=id st'
  exact⟨u,rfl,Zjs (s:={ s with heap:=h' }) e c d (by decide) ⟨x,H,I1,ru,⟨rfl,fun ys hy=>by rw[I.list_inj hy hq];exact hx⟩,⟨hi,st'⟩,fun b hb=>(hf b hb).1⟩⟩
 done:=by
  intro X hP hw hK hc i pins s σ H E I hf st hg
  subst hP hw hK
  have e:i=n:=Nat.le_antisymm st.1 hg
  subst e
  obtain⟨f0,f1,f2,f3,f4,f5⟩:=hf it (by simp)
  have e1:(i:Int)-1-(i:Int)=-1:=by omega
  have hit:=st.2
  rw[e1] at hit
  exact wpAny_pyNext_rev_end (I.ok.hd hc) hit fun h' eb=>⟨rfl,I.turned (t':=s.toks) (fun b o hb e=>eb b o hb e) f0 f1 f3 f4 f5⟩
 self:=fun _ _ _ _ _ st h=>wpAny_pyIter_revIter st.2 h
noncomputable def iRev(K:W.Frag)(ta:TA):TI:=fun σ H R=>ta σ H fun vs H1=>∃ a xs,vs=[.ref a]∧SqL K H1 a xs∧R (Itv K a xs.length) H1
theorem Zlx{X:Cx}{K:W.Frag}{tg a:Expr}{ta:TA}{p pos:Pos}(hK:X.K=K)(hg:Gl X "reversed")(hm:X.mg "reversed" = none)(ha:PA X [a] ta)(hs:starEach [a] X.env=[(false,eval a X.env)]:=by rfl) :
  PI X tg (.Call (.Name "reversed" p) [a] [] pos) (iRev K ta):=by
 subst hK
 intro pins s σ H R I h
 refine Call_ (ZcD I hg hm PyProof.Rows.boot_reversed (PyProof.Rows.callWith_type1 (thn (ha pos pins s σ H _ I h) fun us s1 h1=>?_) hs rfl))
 obtain⟨vs,H1,I1,r1,a,xs,e,hq,q⟩:=h1
 subst e
 cases r1 with
 | cons r rr =>
  cases rr
  cases (show _=Value.ref a from r)
  obtain⟨its,rv,p,hz⟩:=I1.list hq
  have hl:=rv.length
  refine call_reversed_list p.isList ?_
  have e0:((its.toArray.size:Nat):Int)-1=(xs.length:Int)-1-((0:Nat):Int):=by rw[List.size_toArray,← hl];omega
  rw[e0]
  have hit:(s1.heap.push (revObj a ((xs.length:Int)-1-((0:Nat):Int)))).IsRevIter s1.heap.objs.size a ((xs.length:Int)-1-((0:Nat):Int)):=⟨_,Heap.get?_push_size _ rfl,rfl,rfl⟩
  refine wpAny_pyIter_revIter hit ?_
  refine⟨_,[s1.heap.objs.size],_,Itv X.K a xs.length,H1,rfl,I1.kept (t':=s1.toks) (fun b o e=>Heap.get?_push_of_some _ e),ZjL a _ xs.length,⟨Nat.zero_le _,hit⟩,fun b hb=>?_,q⟩
  rw[List.mem_singleton.mp hb]
  exact I1.fpOk (Nat.le_refl _) (I1.hok.fresh (Nat.le_refl _))
section
variable{prog:Program}{w:World}{A:Around}{s:Shared}{R:Result→Shared→Prop}{I:Addr}{fp wr:List Addr}{G:Array GenState→Array GenState→Prop}{n:Nat}{P:Nat→Value→Prop}{St:Nat→Shared→Prop}
end
end L2
end
section
namespace L2
open PySem PySem.Spec PyProof.Rows
section
variable{prog:Program}{w:World}{A:Around}{E:Value→Shared→Prop}{s:Shared}
theorem Zdu{it l:Addr}{i:Nat}{items:Array Value}{x:Value}{Q:Value→Shared→Prop}(hit:s.heap.IsTupleIter it l i)(hl:s.heap.IsTuple l items)(hx:items[i]?=some x)
  (hQ:∀ h',h'.IsTupleIter it l (i+1)→Heap.SameBut it s.heap h'→Q x { s with heap:=h' }):wpAny (model prog w) A (Builtin.SmallTypes.nextOf (.ref it)) Q E s:=by
 obtain⟨o,ho,hc,hd⟩:=id hit
 obtain⟨ol,hol,_,nl,hdl⟩:=hl
 unfold Builtin.SmallTypes.nextOf
 refine wpAny_bind (wpAny_callSpecial?_slot (name:=Str.ofString "__next__") hit.typeIs F.slot_tuple_iterator_next
  (wpAny_call_entry F.slot_tuple_iterator_next hit.typeIs F.entry_tuple_iterator_next ?_ (F.args_tuple_iterator_next_1 _)))
 show wpAny _ _ (field (.ref it) 0 >>= _) _ _ s
 refine wpAny_bind (wpAny_field ho hd (x:=.ref l) rfl ?_)
 show wpAny _ _ (if (Value.ref l == Value.none)=true then _ else _) _ _ s
 rw[if_neg (show ¬ ((Value.ref l == Value.none)=true) from Bool.false_ne_true)]
 show wpAny _ _ (field (.ref it) 1 >>= _) _ _ s
 refine wpAny_bind (wpAny_field ho hd (x:=.int i 0) rfl ?_)
 show wpAny _ _ (seqItems? (.ref l) >>= _) _ _ s
 refine wpAny_bind (wpAny_seqItems hol hdl ?_)
 simp only[Int.toNat_natCast,hx]
 refine wpAny_bind (wpAny_setField ho hd (by simp) (wpAny_pure ⟨x,rfl,wpAny_pure (hQ _ ?_ (Heap.SameBut.update ..))⟩))
 exact⟨_,Heap.get?_update_self _ ho (Obj.isFreed_of_fields (Obj.data_mapFields hd _)),(Obj.cls_mapFields ..).trans hc,by
  rw[Obj.data_mapFields hd];simp[rawInt]⟩
theorem ZdE{it l:Addr}{i:Nat}{items:Array Value}{Q:Value→Shared→Prop}(hh:A.handled=none)(hit:s.heap.IsTupleIter it l i)(hl:s.heap.IsTuple l items)(hx:items[i]?=none)
  (hE:∀ h' e,Heap.ExtBut it s.heap h'→(∃ o,h'.get? e=some o∧o.cls=.type "StopIteration")→E (.ref e) { s with heap:=h' }):wpAny (model prog w) A (Builtin.SmallTypes.nextOf (.ref it)) Q E s:=by
 obtain⟨o,ho,hc,hd⟩:=id hit
 obtain⟨ol,hol,_,nl,hdl⟩:=hl
 unfold Builtin.SmallTypes.nextOf
 refine wpAny_bind (wpAny_callSpecial?_slot (name:=Str.ofString "__next__") hit.typeIs F.slot_tuple_iterator_next
  (wpAny_call_entry F.slot_tuple_iterator_next hit.typeIs F.entry_tuple_iterator_next ?_ (F.args_tuple_iterator_next_1 _)))
 show wpAny _ _ (field (.ref it) 0 >>= _) _ _ s
 refine wpAny_bind (wpAny_field ho hd (x:=.ref l) rfl ?_)
 show wpAny _ _ (if (Value.ref l == Value.none)=true then _ else _) _ _ s
 rw[if_neg (show ¬ ((Value.ref l == Value.none)=true) from Bool.false_ne_true)]
 show wpAny _ _ (field (.ref it) 1 >>= _) _ _ s
 refine wpAny_bind (wpAny_field ho hd (x:=.int i 0) rfl ?_)
 show wpAny _ _ (seqItems? (.ref l) >>= _) _ _ s
 refine wpAny_bind (wpAny_seqItems hol hdl ?_)
 simp only[Int.toNat_natCast,hx]
 refine wpAny_bind (wpAny_rule (wpAny_bind (wpAny_setField ho hd (by simp) ?_)))
 show wpAny _ _ (newExc (.type "StopIteration") [] >>= _) _ _ _
 refine wpAny_bind ?_
 simp only[newExc,newTuple]
 refine wpAny_bind (wpAny_newObj_type ?_ (by size_fits))
 refine wpAny_bind (m:=firstArgMember _ _) (wpAny_of_eq (a:=Value.none) (by first|rfl|(simp only[firstArgMember];rfl)) ?_)
 refine wpAny_newObj_type ?_ (by size_fits)
 simp only[raiseNew]
 refine wpAny_bind (wpAny_handled ?_)
 first|rw[show A.in1.handled=none from hh]|rw[hh]
 refine wpAny_bind (wpAny_pure (wpAny_throw ?_))
 exact hE _ _ (((Heap.SameBut.update ..).extBut.push _).push _) ⟨_,Heap.get?_push_size _ rfl,rfl⟩
end
theorem ZdZ{prog:Program}{w:World}{A:Around}(hh:A.handled=none)(it l:Addr)(hne:l≠it)(items:Array Value) :
  Draws prog w A it [it,l] items.size (fun i v=>items[i]?=some v) (fun i h=>h.IsTupleIter it l i∧h.IsTuple l items) where
 live:=fun _ _ st=>let ⟨o,ho,_⟩:=st.1;⟨o,ho⟩
 frame:=fun _ _ _ st hk=>⟨st.1.at fun o e=>hk it (by simp) o e,let ⟨o,e,r⟩:=st.2;⟨o,hk l (by simp) o e,r⟩⟩
 item:=fun i s Q E hi st hQ=>by
  refine Zdu st.1 st.2 (x:=items[i]) (by simp[hi]) fun h' hit' hs'=>?_
  exact hQ _ h' s.toks (by simp[hi]) ⟨hit',st.2.extBut hs'.extBut hne⟩ hs'
 done:=fun s Q E st hE=>ZdE hh st.1 st.2 (by simp) hE
theorem Zf9(l:Addr)(items:Array Value)(n:Nat)(dct:Option Addr)(sl:Array (Option Value)) :
  Meets (Builtin.«enumerate.__new__» ⟨[.type "enumerate",.ref l],[]⟩) (fun _ R s=>s.heap.get? l=some { cls:=.type "tuple",dict:=dct,data:=.seq items n,slots:=sl } ∧
   R (.ok (.ret (.ref (s.heap.push { cls:=.type "tuple_iterator",data:=.fields #[.ref l,.int 0 0] }).objs.size)))
    { s with heap:=(s.heap.push { cls:=.type "tuple_iterator",data:=.fields #[.ref l,.int 0 0] }).push { cls:=.type "enumerate",data:=.fields #[.none,.bool false,.ref s.heap.objs.size,rawInt 0,.none,.none] } }) :=
 .of_wp fun prog w A R s h=>by
  obtain⟨hp,g,d,tk,os⟩:=s;obtain⟨hl,h⟩:=h
  have hsub:=sub_enumerate
  have hL:Heap.IsTuple (Shared.heap ⟨hp,g,d,tk,os⟩) l items:=⟨_,hl,rfl,n,rfl⟩
  wp_walk using wpAny_loadPart' hl
  refine wpAny_stack_any fun st=>wpAny_pure ?_
  split
  ·rename_i c _ _ _ _ _
   cases (c == Value.type "enumerate")
   ·wp_walk using wpAny_loadPart' hl,wpAny_pyIter_tuple hL
    exact⟨_,rfl,h⟩
   ·wp_walk using wpAny_loadPart' hl,wpAny_pyIter_tuple hL
    exact⟨_,rfl,h⟩
  ·wp_walk using wpAny_loadPart' hl,wpAny_pyIter_tuple hL
   exact⟨_,rfl,h⟩
end L2
end
section
namespace L2
open PySem PySem.Spec PyProof.Rows
theorem ZcC{prog:Program}{w:World}{A:Around}{E:Value→Shared→Prop}{s:Shared}{l:Addr}{items:Array Value}{Q:Value→Shared→Prop}(hL:s.heap.IsTuple l items)
  (h:∀ h',IsEnum h' (s.heap.objs.size+1) s.heap.objs.size 0 .none→h'.IsTupleIter s.heap.objs.size l 0→h'.objs.size=s.heap.objs.size+2 →
   (∀ b o,s.heap.get? b=some o→h'.get? b=some o)→Q (.ref (s.heap.objs.size+1)) { s with heap:=h' }) :
  wpAny (model prog w) A (call (.type "enumerate") [.ref l]) Q E s:=by
 obtain⟨⟨c,dct,dt,sl⟩,hl,hc,n,hd⟩:=hL
 replace hc:c=.type "tuple" := hc
 replace hd:dt=.seq items n:=hd
 subst hc hd
 refine callType_new F.called_enumerate (by decide) (F.typeCall_enumerate_1 _) (F.newCall_enumerate_1 _) (fun obj=>F.args_object_init_2 obj _) F.entry_enumerate_new
  (Zf9 l items n dct sl) ⟨hl,?_⟩
 have hz:(s.heap.push { cls:=.type "tuple_iterator",data:=.fields #[.ref l,.int 0 0] }).objs.size=s.heap.objs.size+1:=Heap.size_push ..
 show _∧_
 rw[hz]
 have he:IsEnum ((s.heap.push { cls:=.type "tuple_iterator",data:=.fields #[.ref l,.int 0 0] }).push
   { cls:=.type "enumerate",data:=.fields #[.none,.bool false,.ref s.heap.objs.size,rawInt 0,.none,.none] }) (s.heap.objs.size+1) s.heap.objs.size 0 .none:=by
  have:=Heap.get?_push_size (s.heap.push { cls:=.type "tuple_iterator",data:=.fields #[.ref l,.int 0 0] })
   (o:={ cls:=.type "enumerate",data:=.fields #[.none,.bool false,.ref s.heap.objs.size,rawInt 0,.none,.none] }) rfl
  rw[hz] at this;exact this
 refine⟨⟨_,he,rfl⟩,h _ he ⟨_,Heap.get?_push_of_some _ (Heap.get?_push_size _ rfl),rfl,rfl⟩ (by rw[Heap.size_push,hz]) fun b o x=>Heap.get?_push_of_some _ (Heap.get?_push_of_some _ x)⟩
noncomputable def IteT(K:W.Frag)(a:Addr)(n:Nat):It :=
  ⟨fun i H=>∃ xs x,SqT K H a xs∧xs.length=n∧xs[i]?=some x,
   fun i H v H'=>∃ p x,H p=none∧v=.ref p∧H'=upd H p (.tup [.int i,x])∧∀ xs,SqT K H a xs→xs[i]?=some x,
   fun i H=>∃ xs,SqT K H a xs∧xs.length=n∧n≤i⟩
theorem Zhr{P:Program}{w:World}{K:W.Frag}{es:List Expr}{x1}{tp:Pos}(a e it:Addr)(n:Nat)(hne:e≠it)(hai:a≠it)(hae:a≠e):Turn P w K (.Tuple es x1 tp) (IteT K a n) [e,it] e (fun i h=>(i≤n∧∃ old,IsEnum h e it i old)∧h.IsTupleIter it a i) where
 mem:=by simp
 obj:=fun i h st b hb=>by
  obtain⟨⟨_,old,he⟩,o,hi,hc,hd⟩:=st
  have hb:b=e∨b=it:=by simpa using hb
  rcases hb with rfl|rfl
  ·exact⟨_,he,fun v z=>by cases (show Data.fields _=Data.cell v from z)⟩
  ·exact⟨o,hi,fun v z=>by rw[hd] at z;cases z⟩
 keep:=fun i h h' st k=>by
  obtain⟨⟨hl,old,he⟩,hi⟩:=st
  exact⟨⟨hl,old,k e (by simp) _ he⟩,hi.at fun o q=>k it (by simp) o q⟩
 item:=by
  intro X hP hw hK hc i pins s σ H E I hf st hg
  subst hP hw hK
  obtain⟨xs,x,hq,hn,hx⟩:=hg
  obtain⟨⟨hl,old,he⟩,hi⟩:=st
  obtain⟨is,rv,p,hz⟩:=I.tuple hq
  have hsz0:is.toArray.size=n:=by rw[List.size_toArray,← rv.length];exact hn
  have hi':i<is.toArray.size:=by rw[hsz0,← hn];exact (List.getElem?_eq_some_iff.mp hx).1
  refine wpAny_pyNext_enum_itemD (ZdZ (A:=X.A.in1) (I.ok.hd hc) it a hai is.toArray) he ⟨hi,p⟩ hi' hne (by simp[hne,hae.symm]) fun u h' tk hP ho hi2 ht hsz k=>?_
  refine⟨_,rfl,wpAny_letOwnedTupleGo_enum ho fun h2 he2 hs2=>?_⟩
  have fe:=hf e (by simp)
  have fi:=hf it (by simp)
  obtain⟨u',hu,ru⟩:=rv.get hx
  have eu:u=u':=by
   have:=hP
   simp only[List.getElem?_toArray] at this
   rw[hu] at this
   exact (Option.some.inj this).symm
  subst eu
  have I1:Inv X pins σ (upd H s.heap.objs.size (.tup [.int i,x])) { s with heap:=h',toks:=tk+1 }:=I.enumed fe fi k ht (.cons ⟨_,rfl⟩ (.cons ru .nil)) (by show 2≤sizeLine;decide)
  have he1:e≠s.heap.objs.size:=Nat.ne_of_lt (Heap.lt_size he)
  have hi1:it≠s.heap.objs.size:=by obtain⟨_,q,_⟩:=hi;exact Nat.ne_of_lt (Heap.lt_size q)
  have I2:=I1.turned (h':=h2) (t':=tk+1) (it:=e) (fun b o hb q=>(hs2.2 b hb).trans q) (by rw[Zaf he1];exact fe.1) fe.2.1 fe.2.2.2.1 fe.2.2.2.2.1 fe.2.2.2.2.2
  refine⟨.ref s.heap.objs.size,_,I2,rfl,⟨s.heap.objs.size,x,I.hok.fresh (Nat.le_refl _),rfl,rfl,fun ys hy=>by rw[I.tuple_inj hy hq];exact hx⟩,⟨⟨by rw[← hsz0];exact hi',u,by simpa using he2⟩,hi2.1.at fun o q=>(hs2.2 it hne.symm).trans q⟩,fun b hb=>?_⟩
  have hb:b=e∨b=it:=by simpa using hb
  rcases hb with rfl|rfl
  ·rw[Zaf he1];exact fe.1
  ·rw[Zaf hi1];exact fi.1
 done:=by
  intro X hP hw hK hc i pins s σ H E I hf st hg
  subst hP hw hK
  obtain⟨xs,hq,hn,hx⟩:=hg
  obtain⟨⟨hl,old,he⟩,hi⟩:=st
  obtain⟨is,rv,p,hz⟩:=I.tuple hq
  have hsz0:is.toArray.size=n:=by rw[List.size_toArray,← rv.length];exact hn
  obtain⟨f0,f1,f2,f3,f4,f5⟩:=hf it (by simp)
  have e1:i=is.toArray.size:=by rw[hsz0];exact Nat.le_antisymm hl hx
  rw[e1] at hi
  exact wpAny_pyNext_enum_endD (ZdZ (A:=X.A.in1) (I.ok.hd hc) it a hai is.toArray) he ⟨hi,p⟩ fun h' eb=>⟨rfl,I.turned (t':=s.toks) (fun b o hb e=>eb b o hb e) f0 f1 f3 f4 f5⟩
 self:=fun _ _ _ _ _ st h=>by
  obtain⟨⟨_,old,he⟩,_⟩:=st
  exact wpAny_pyIter_enum he h
noncomputable def iEnumT(K:W.Frag)(ta:TA):TI:=fun σ H R=>ta σ H fun vs H1=>∃ a xs,vs=[.ref a]∧SqT K H1 a xs∧R (IteT K a xs.length) H1
theorem Zd0{X:Cx}{K:W.Frag}{a:Expr}{ta:TA}{es:List Expr}{x1}{tp p pos:Pos}(hK:X.K=K)(hg:Gl X "enumerate")(hm:X.mg "enumerate" = none)(ha:PA X [a] ta)(hs:starEach [a] X.env=[(false,eval a X.env)]:=by rfl) :
  PI X (.Tuple es x1 tp) (.Call (.Name "enumerate" p) [a] [] pos) (iEnumT K ta):=by
 subst hK
 intro pins s σ H R I h
 refine Call_ (ZcD I hg hm PyProof.Rows.boot_enumerate (PyProof.Rows.callWith_type1 (thn (ha pos pins s σ H _ I h) fun us s1 h1=>?_) hs rfl))
 obtain⟨vs,H1,I1,r1,a,xs,e,hq,q⟩:=h1
 subst e
 cases r1 with
 | cons r rr =>
  cases rr
  cases (show _=Value.ref a from r)
  obtain⟨its,rv,p,hz⟩:=I1.tuple hq
  have ha:a<s1.heap.objs.size:=by obtain⟨o,e,_⟩:=id p;exact Heap.lt_size e
  refine ZcC p fun h' he hi hsz k=>?_
  refine wpAny_pyIter_enum he ?_
  have I2:Inv X pins σ H1 { s1 with heap:=h' }:=I1.kept (t':=s1.toks) k
  refine⟨_,[s1.heap.objs.size+1,s1.heap.objs.size],_,IteT X.K a xs.length,H1,rfl,I2,Zhr a _ _ xs.length (Nat.ne_of_gt (Nat.lt_succ_self _)) (Nat.ne_of_lt ha) (Nat.ne_of_lt (Nat.lt_succ_of_lt ha)),⟨⟨Nat.zero_le _,_,he⟩,hi⟩,fun b hb=>?_,q⟩
  have hb:b=s1.heap.objs.size+1∨b=s1.heap.objs.size:=by simpa using hb
  rcases hb with rfl|rfl
  ·exact I1.fpOk (Nat.le_succ _) (I1.hok.fresh (Nat.le_succ _))
  ·exact I1.fpOk (Nat.le_refl _) (I1.hok.fresh (Nat.le_refl _))
end L2
namespace VL
open PySem PySem.Spec L2
variable[Tabs]
section
variable{K:W.Frag}{E:FK}{X:Exc→Sl→Prop}{ρ:Sl}{Q:TV→Prop}{te:TE}
theorem ZjM{l:Addr}{ds:List PyData}:ItOk K (IteT K l ds.length) (.ref l) (.tuple ds) ds.length fun i=>.tuple [.int i,ds.getD i .none]:=by
 intro G H sm rp
 obtain⟨l',ys,e',h3,h4⟩:=rp.tuple_inv
 cases e'
 have h5:=sm.tupS h3
 refine⟨fun i hi=>?_,fun i hi=>⟨ys,h5,h4.length,hi⟩⟩
 obtain⟨w,h6,h7⟩:=h4.get (i:=i) (d:=ds.getD i .none) (by rw[List.getD_eq_getElem?_getD,List.getElem?_eq_getElem hi];rfl)
 refine⟨⟨ys,w,h5,h4.length,h6⟩,fun x H' ⟨p,x0,hp,e1,e2,e3⟩=>?_⟩
 subst e1 e2
 have:=e3 ys h5
 rw[h6] at this
 cases this
 exact⟨Za0 hp,fun G' m k=>.tup (k p _ Zak hp) (.cons (.int i) (.cons (h7.same m) .nil))⟩
theorem ZeS{A:TA}{P:Nat→(Nat→PyData)→TV→Prop}(h:Ea K E X A ρ fun bs=>∃ a ds,bs=[a]∧a.data=.tuple ds∧NR a∧P ds.length (fun i=>.tuple [.int i,ds.getD i .none]) a.frz):Iv K E X (iEnumT K A) ρ P:=fun H0 σ ts as H R s x k =>
 h H0 σ ts as H _ s x fun bs ⟨a,ds,eb,e,na,q⟩ vs H' s' hl=>by
  subst eb
  obtain⟨v,rfl,s'⟩:=ZbX s' hl
  have rp:=s'.top na
  rw[e] at rp
  obtain⟨l,xs,rfl,h1,h2⟩:=rp.tuple_inv
  refine⟨l,xs,rfl,h1,k _ _ _ q (.ref l) _ H' (TV.frz_nr na) s'.frzV ?_⟩
  rw[TV.frz_data,e,h2.length]
  exact ZjM
theorem Znp{α:Type}{nx bk ct:Sl→Prop}{rt:TV→Prop}{A:TA}{g:TG}{tb:TS}(h:Ea K E X A ρ fun bs=>∃ (a:TV) (xs:List α) (e:α→PyData),bs=[a]∧a.data=.tuple (xs.map e)∧NR a∧(∃ d,a.frz=.av (.d d))∧∃ Iw:Nat→Sl→Prop,Iw 0 ρ∧(∀ i ρ' (hi:i<xs.length),Iw i ρ'→Gv K g (.tuple [.int i,e xs[i]]) ρ' fun ρ''=>Sv K E X tb ρ'' ⟨Iw (i+1),rt,nx,Iw (i+1)⟩)∧∀ ρ',Iw xs.length ρ'→nx ρ'):Sv K E X (tFor (iEnumT K A) g tb) ρ ⟨nx,rt,bk,ct⟩ :=
 Zfu (ZeS fun H0 σ ts as H QV s x k=>h H0 σ ts as H QV s x (fun bs hh=>by
  obtain⟨a,xs,e,eb,ha,na,hc,Iw,i0,turn,fin⟩:=hh
  exact k bs ⟨a,xs.map e,eb,ha,na,hc,Iw,i0,fun i ρ' hi w=>by
  rw[List.length_map] at hi
  show Gv K g (.tuple [.int i,(xs.map e).getD i .none]) ρ' _
  rw[Zcv hi]
  exact turn i ρ' hi w,fun ρ' w=>fin ρ' (by rw[List.length_map] at w;exact w)⟩))
theorem Znq{l:Addr}{ds:List PyData}:ItOk K (Itv K l ds.length) (.ref l) (.list ds) ds.length fun i=>ds.getD (ds.length-1-i) .none:=by
 intro G H sm rp
 obtain⟨l',ys,e',h3,h4⟩:=rp.list_inv
 cases e'
 have h5:=sm.seq h3
 refine⟨fun i hi=>?_,fun i hi=>hi⟩
 have hi2:ds.length-1-i<ds.length:=by omega
 obtain⟨w,h6,h7⟩:=h4.get (i:=ds.length-1-i) (d:=ds.getD (ds.length-1-i) .none) (by rw[List.getD_eq_getElem?_getD,List.getElem?_eq_getElem hi2];rfl)
 refine⟨⟨ys,w,h5,h4.length,hi,h6⟩,fun x H' ⟨e1,e2⟩=>?_⟩
 subst e1
 have:=e2 ys h5
 rw[h6] at this
 cases this
 exact⟨.refl _,fun G' m _=>h7.same m⟩
theorem Znr{A:TA}{P:Nat→(Nat→PyData)→TV→Prop}(h:Ea K E X A ρ fun bs=>∃ a ds,bs=[a]∧a.data=.list ds∧NR a∧P ds.length (fun i=>ds.getD (ds.length-1-i) .none) a.frz):Iv K E X (iRev K A) ρ P:=fun H0 σ ts as H R s x k =>
 h H0 σ ts as H _ s x fun bs ⟨a,ds,eb,e,na,q⟩ vs H' s' hl=>by
  subst eb
  obtain⟨v,rfl,s'⟩:=ZbX s' hl
  have rp:=s'.top na
  rw[e] at rp
  obtain⟨l,xs,rfl,h1,h2⟩:=rp.list_inv
  refine⟨l,xs,rfl,h1,k _ _ _ q (.ref l) _ H' (TV.frz_nr na) s'.frzV ?_⟩
  rw[TV.frz_data,e,h2.length]
  exact Znq
theorem ZoV{α:Type}{nx bk ct:Sl→Prop}{rt:TV→Prop}{A:TA}{g:TG}{tb:TS}(h:Ea K E X A ρ fun bs=>∃ (a:TV) (xs:List α) (e:α→PyData),bs=[a]∧a.data=.list (xs.reverse.map e)∧(∃ c,a=.av c)∧∃ Iw:Nat→Sl→Prop,Iw 0 ρ∧(∀ i ρ' (hi:i<xs.length),Iw i ρ'→Gv K g (e xs[i]) ρ' fun ρ''=>Sv K E X tb ρ'' ⟨Iw (i+1),rt,nx,Iw (i+1)⟩)∧∀ ρ',Iw xs.length ρ'→nx ρ'):Sv K E X (tFor (iRev K A) g tb) ρ ⟨nx,rt,bk,ct⟩ :=
 Zfu (Znr fun H0 σ ts as H QV s x k=>h H0 σ ts as H QV s x fun bs ⟨a,xs,e,eb,ha,⟨c,hc⟩,Iw,i0,turn,fin⟩=>k bs ⟨a,xs.reverse.map e,eb,ha,by subst hc;exact NR.av,⟨c.data,by rw[hc];rfl⟩,Iw,i0,fun i ρ' hi w=>by
  rw[List.length_map,List.length_reverse] at hi
  have e1:(xs.reverse.map e).getD ((xs.reverse.map e).length-1-i) .none=e xs[i]:=by
   rw[List.length_map,List.length_reverse,Zcv (by rw[List.length_reverse];omega),List.getElem_reverse]
   congr 2
   omega
  show Gv K g ((xs.reverse.map e).getD ((xs.reverse.map e).length-1-i) .none) ρ' _
  rw[e1]
  exact turn i ρ' hi w,fun ρ' w=>fin ρ' (by rw[List.length_map,List.length_reverse] at w;exact w)⟩)
end
end VL
end
section
namespace L2
open PySem PySem.Spec PySem.Calls PyProof.Rows PySem.W
theorem ZfC{l:OpenLaw}{n:Nat}{q:Program}{loose:List Str}{XP:(Str→Option Value)→Heap→Prop}{YP:World→Heap→Prop}{d:DefRec}
  (hn:l.most=some n) (hdf:d.params.defaults=[])
  (call:∀ (w:World) (s₀ s₁:Shared) (mg mb:Str→Option Value) (fa:Addr) (o:Obj) (pm cd doc:Value) (a:Addr) (vs:List Value) (ns:List Int),
   Ground q loose [] XP w s₀ mg mb s₁.heap→YP w s₁.heap →
   s₁.heap.get? fa=some o→o.data=.func (docDef d.name d.params d.body d.scope pm cd doc)→s₁.heap.CodeRec cd d.name→mg d.name=some (.ref fa) →
   s₁.heap.get? a=some { cls:=.type "list",data:=.seq vs.toArray }→IntsAre vs ns→ns.length≤n→s₁.gens=#[]→(∀ x∈ns,Builtin.Int.intBits x≤2 ^ 20) →
   codeAny (model l.prog w) callerA (.call (.ref fa) ⟨[.ref a],[]⟩) (fun r s'=>r=.ok (.ret (.bool true))∧OldK s₁.heap s'.heap∧s'.os=s₁.os∧AllBare s'.gens) s₁) :
  WalkO q loose XP YP l.row.toRowW d [] (fun f vs=>PySem.call f vs):=by
 intro w s₀ s₁ mg mb G Y fa o pm cd doc dV kV ho hd hcd hD hmg hg args vals as hpre hlay hrd hwl hlo
 obtain rfl:dV=.none:=Dflts.none hD hdf
 obtain rfl:kV=.none:=Dflts.noKw hD
 obtain⟨a,vs,ns,rfl,rfl,hobj,hints,hlen⟩:=Att.ZhO hn hpre hwl
 refine enter_call (codeAny_mono (call w s₀ s₁ mg mb fa o pm cd doc a vs ns G Y ho (fd_plain hd) hcd hmg hobj hints hlen hg ?_) fun r s' hq=>?_)
 ·intro x hx
  have h1:=(layW_cons hlay).1
  have h2:=layableW_item h1 (.int x) (List.mem_map.mpr ⟨x,hx,rfl⟩)
  exact PyData.bits_of_layable (PyData.layable0_of (fun _=>rfl) (layable_int h2))
 obtain⟨rfl,h2,h3,h4⟩:=hq
 exact⟨.inl ⟨.bool true,.bool true,[],rfl,fun _=>rfl,.bool true,Att.ZhP l _,fun _=>⟨List.Pairwise.nil,fun _ hm=>(nomatch hm)⟩⟩,h2,h3,h4⟩
end L2
namespace VL
open PySem PySem.Spec PyProof.Rows L2
variable[Tabs]
variable{P:Program}{w:World}{K:W.Frag}{mg:Str→Option Value}{base:Heap}{CX:CXT}{x qual:Str}{st:Stmt}{N ps:List Str}{k:Nat}
end VL
end
section
namespace L2
open PySem PySem.Spec PyProof.Rows
open Classical
noncomputable def lend(C:Addr→Prop)(h:Heap)(H:Hp):Hp:=fun b=>if C b then (h.get? b).map (fun o=>HO.frz o (.own b)) else H b
noncomputable def unl(C:Addr→Prop)(H:Hp):Hp:=fun b=>if C b then none else H b
noncomputable def rel(C:Addr→Prop)(H H':Hp):Hp:=fun b=>if C b then H b else H' b
structure LendOk(C:Addr→Prop)(h:Heap)(H:Hp):Prop where
 no:∀ b,C b→H b=none
 obj:∀ b,C b→∃ o,h.get? b=some o
section
variable{C:Addr→Prop}{P:Program}{w:World}{H H':Hp}{h h':Heap}{fs ex:List Addr}{b:Addr}
theorem Zb9(hb:¬ C b):lend C h H b=H b:=if_neg hb
theorem ZeT(L:LendOk C h H)(hb:C b):∃ o,h.get? b=some o∧lend C h H b=some (.frz o (.own b)):=by
 obtain⟨o,e⟩:=L.obj b hb
 exact⟨o,e,by unfold lend;rw[if_pos hb,e];rfl⟩
theorem ZcP{o:HO}(L:LendOk C h H)(e:H b=some o):lend C h H b=some o:=by
 have hb:¬ C b:=fun z=>by rw[L.no b z] at e;cases e
 rw[Zb9 hb];exact e
theorem Zit(L:LendOk C h H):Same H (lend C h H):=fun b o e=>ZcP L e
theorem ZjN(L:LendOk C h H)(ok:HOk P w H h):HOk P w (lend C h H) h:=fun a o e=>by
 by_cases ha:C a
 ·obtain⟨ob,e1,e2⟩:=ZeT L ha
  rw[e2] at e
  cases e
  exact⟨e1,ob,e1⟩
 ·rw[Zb9 ha] at e
  exact (ok a o e).stay (fun _ _ _ q=>q) (fun _ q=>ZcP L q) (fun _ _ q=>ZcP L q) fun _ _ q=>ZcP L q
theorem ZaX(hb:¬ C b):unl C H b=H b:=if_neg hb
theorem Zd1(hb:C b):unl C H b=none:=if_pos hb
theorem Zc8(L:LendOk C h H)(un:Un fs ex (lend C h H) H' h h')(hb:C b):∃ o,h.get? b=some o∧H' b=some (.frz o (.own b)):=by
 obtain⟨o,e1,e2⟩:=ZeT L hb
 exact⟨o,e1,un.frzs b o _ e2⟩
theorem Ziu(L:LendOk C h H)(un:Un fs ex (lend C h H) H' h h')(hok:HOk P w H' h')(hfs:∀ b,C b→b∉fs):Un fs ex H (unl C H') h h' where
 keep:=fun b o e n hb hx=>by
  by_cases hc:C b
  ·obtain⟨o',e1,e2⟩:=Zc8 L un hc
   rw[e] at e1;cases e1
   exact (hok b _ e2).1
  ·exact un.keep b o e (by rw[Zb9 hc];exact n) hb hx
 slot:=fun b o e n hb hx=>un.slot b o e (by rw[Zb9 fun hc=>hfs b hc hb];exact n) hb hx
 free:=fun b o e n hx=>by
  by_cases hc:C b
  ·exact Zd1 hc
  ·rw[ZaX hc]
   exact un.free b o e (by rw[Zb9 hc];exact n) hx
 there:=un.there
 tups:=fun b xs e=>by
  have hc:¬ C b:=fun z=>by rw[L.no b z] at e;cases e
  rw[ZaX hc]
  exact un.tups b xs (ZcP L e)
 frzs:=fun b o u e=>by
  have hc:¬ C b:=fun z=>by rw[L.no b z] at e;cases e
  rw[ZaX hc]
  exact un.frzs b o u (ZcP L e)
 tbls:=fun b ps e=>by
  have hc:¬ C b:=fun z=>by rw[L.no b z] at e;cases e
  rw[ZaX hc]
  exact un.tbls b ps (ZcP L e)
theorem Ziv(L:LendOk C h H)(un:Un fs ex (lend C h H) H' h h')(hok:HOk P w H' h'):HOk P w (unl C H') h':=fun a o e=>by
 have ha:¬ C a:=fun z=>by rw[Zd1 z] at e;cases e
 rw[ZaX ha] at e
 have nc:∀ {b:Addr} {u:HO},H' b=some u→(∀ o,u≠.frz o (.own b))→unl C H' b=some u:=fun {b u} q n=>by
  have hc:¬ C b:=fun z=>by
   obtain⟨o',_,e2⟩:=Zc8 L un z
   rw[q] at e2
   cases e2
   exact n _ rfl
  rw[ZaX hc];exact q
 refine (hok a o e).stay (fun _ _ _ q=>q) (fun b q=>nc q fun o z=>by cases z) (fun b xs q=>nc q fun o z=>by cases z) fun b ob q=>?_
 have hc:¬ C b:=fun z=>by
  obtain⟨o',_,e2⟩:=Zc8 L un z
  rw[q] at e2
  cases e2
  exact ha z
 rw[ZaX hc];exact q
theorem ZgQ(hb:C b):rel C H H' b=H b:=if_pos hb
theorem ZdA(hb:¬ C b):rel C H H' b=H' b:=if_neg hb
theorem Zci(hC:∀ b,C b→∃ o,H b=some (.frz o (.own b))){o:HO}(e:H b=some o)(n:∀ ob,o≠.frz ob (.own b)):unl C H b=some o:=by
 have hc:¬ C b:=fun z=>by obtain⟨o',e2⟩:=hC b z;rw[e] at e2;cases e2;exact n _ rfl
 rw[ZaX hc];exact e
theorem ZgR(hC:∀ b,C b→∃ o,H b=some (.frz o (.own b)))(hok:HOk P w H h):HOk P w (unl C H) h:=fun a o e=>by
 have ha:¬ C a:=fun z=>by rw[Zd1 z] at e;cases e
 rw[ZaX ha] at e
 refine (hok a o e).stay (fun _ _ _ q=>q) (fun b q=>Zci hC q fun o z=>by cases z) (fun b xs q=>Zci hC q fun o z=>by cases z) fun b ob q=>?_
 have hc:¬ C b:=fun z=>by
  obtain⟨o',e2⟩:=hC b z
  rw[q] at e2
  cases e2
  exact ha z
 rw[ZaX hc];exact q
theorem Zns(hC:∀ b,C b→∃ o,H b=some (.frz o (.own b)))(hok0:HOk P w H h)(un:Un fs ex (unl C H) H' h h')(hfs:∀ b,C b→b∉fs∧b∉ex):Un fs ex H (rel C H H') h h' where
 keep:=fun b o e n hb hx=>by
  have hc:¬ C b:=fun z=>by obtain⟨o',e2⟩:=hC b z;rw[n] at e2;cases e2
  exact un.keep b o e (by rw[ZaX hc];exact n) hb hx
 slot:=fun b o e n hb hx=>un.slot b o e (by rw[ZaX fun hc=>(hfs b hc).1 hb];exact n) hb hx
 free:=fun b o e n hx=>by
  have hc:¬ C b:=fun z=>by obtain⟨o',e2⟩:=hC b z;rw[n] at e2;cases e2
  rw[ZdA hc]
  exact un.free b o e (by rw[ZaX hc];exact n) hx
 there:=un.there
 tups:=fun b xs e=>by
  by_cases hc:C b
  ·rw[ZgQ hc];exact e
  ·rw[ZdA hc];exact un.tups b xs (by rw[ZaX hc];exact e)
 frzs:=fun b o u e=>by
  by_cases hc:C b
  ·rw[ZgQ hc];exact e
  ·rw[ZdA hc];exact un.frzs b o u (by rw[ZaX hc];exact e)
 tbls:=fun b ps e=>by
  have hc:¬ C b:=fun z=>by obtain⟨o',e2⟩:=hC b z;rw[e] at e2;cases e2
  rw[ZdA hc];exact un.tbls b ps (by rw[ZaX hc];exact e)
theorem Zkx(hC:∀ b,C b→∃ o,H b=some (.frz o (.own b)))(hok0:HOk P w H h)(un:Un fs ex (unl C H) H' h h')(hfs:∀ b,C b→b∉fs∧b∉ex)(hb:C b):H' b=none:=by
 obtain⟨o,e⟩:=hC b hb
 exact un.free b o (hok0 b _ e).1 (Zd1 hb) (hfs b hb).2
theorem Zly(hC:∀ b,C b→∃ o,H b=some (.frz o (.own b)))(hok0:HOk P w H h)(un:Un fs ex (unl C H) H' h h')(hfs:∀ b,C b→b∉fs∧b∉ex)(hok:HOk P w H' h'):HOk P w (rel C H H') h':=fun a o e=>by
 by_cases ha:C a
 ·rw[ZgQ ha] at e
  obtain⟨ob,e2⟩:=hC a ha
  rw[e2] at e
  cases e
  have:=un.keep a ob (hok0 a _ e2).1 (Zd1 ha) (hfs a ha).1 (hfs a ha).2
  exact⟨this,ob,this⟩
 ·rw[ZdA ha] at e
  have nc:∀ {b:Addr} {u:HO},H' b=some u→rel C H H' b=some u:=fun {b u} q=>by
   have hc:¬ C b:=fun z=>by rw[Zkx hC hok0 un hfs z] at q;cases q
   rw[ZdA hc];exact q
  exact (hok a o e).stay (fun _ _ _ q=>q) (fun b q=>nc q) (fun b xs q=>nc q) fun b ob q=>nc q
end
structure CloOk(P:Program)(w:World)(K:W.Frag)(mg:Str→Option Value)(base:Heap)(CX:CXT)(k:Nat)(sp:Sp)(v:V)(G:Hp):Prop where
 at':∃ f fo fd,v=.ref f∧G f=some (.frz fo (.own f))∧fo.data=.func fd
 run:∀ f,v=.ref f→∀ (A:Around) (outer:List Env) (s:Shared) (H:Hp) (us:List Value) (vs:List V) (Q:VK) (E:XK),Room k A→Env0 P w K mg base A outer s H→Same G H→Vals vs us→sp vs H Q E →
  codeAny (model P w) A (.call (.ref f) ⟨us,[]⟩) (CR CX outer P w H s Q E) s
theorem CloOk.same{P:Program}{w:World}{K:W.Frag}{mg:Str→Option Value}{base:Heap}{CX:CXT}{k:Nat}{sp:Sp}{v:V}{G G':Hp}(c:CloOk P w K mg base CX k sp v G)(m:Same G G'):CloOk P w K mg base CX k sp v G' :=
 ⟨let ⟨f,fo,fd,e,h,d⟩:=c.at';⟨f,fo,fd,e,m _ _ h,d⟩,fun f e A outer s H us vs Q E hr e0 mm=>c.run f e A outer s H us vs Q E hr e0 (m.trans mm)⟩
section
variable{X:Cx}{CX:CXT}{k:Nat}{sp:Sp}{E:XK}{x:Str}{p pos:Pos}{e:Expr}{es:List Expr}{t:TA}{i:Nat}
theorem Zlz{pins:List (Addr×Obj)}{σ:St}{H:Hp}{s:Shared}{Q:VK}{us:List Value}{vs:List V}{f:Addr}(c:CloOk X.prog X.w X.K X.mg X.base CX k sp (.ref f) H)(hr:Room k X.A)(hx:Passes CX X E)
  (I:Inv X pins σ H s) (r:Vals vs us) (h:sp vs H Q E):wpAny (model X.prog X.w) X.A (call (.ref f) us) (EP X pins σ Q) X.xe s:=by
 refine wpAny_call (codeAny_mono (c.run f rfl X.A X.stack s H us vs Q E hr I.env0 (.refl H) r h) fun r s' hq=>?_)
 cases r with
 | error e=>exact hx pins σ H s e s' I hq
 | ok fl =>
  cases fl with
  | ret u=>exact I.after hq
  | next=>exact False.elim hq
  | brk=>exact False.elim hq
  | cont=>exact False.elim hq
noncomputable def tCallV(P:Program)(w:World)(K:W.Frag)(mg:Str→Option Value)(base:Heap)(CX:CXT)(k:Nat)(i:Nat)(E:XK)(t:TA):TE:=fun σ H Q =>
 ∃ v sp,σ[i]?=some (some v)∧CloOk P w K mg base CX k sp v H∧t σ H fun vs H1=>CloOk P w K mg base CX k sp v H1∧sp vs H1 Q E
theorem Ziw{pins:List (Addr×Obj)}{σ:St}{H:Hp}{s:Shared}{f:Addr}{fo:Obj}{fd:FuncData}(I:Inv X pins σ H s)(h:H f=some (.frz fo (.own f)))(d:fo.data=.func fd):PySem.W.FnAt f s.heap:=by
 have e:=(I.hok f _ h).1
 obtain⟨oc,od,dt,sl⟩:=fo
 cases (show dt=_ from d)
 exact⟨oc,od,fd,sl,e⟩
theorem ZjO(hr:Room k X.A)(hx:Passes CX X E)(ha:PA X (e::es) t)(hN:X.N[i]?=some x:=by rfl)(hv:Vis X.env.scope x:=by first|exact Or.inl rfl|exact Or.inr (Or.inl rfl)|exact Or.inr (Or.inr rfl))
  (hd:(x == ("__debug__" : Str))=false:=by decide) (hcd:(x == ("__classdict__" : Str))=false:=by decide)
  (he:starEach (e::es) X.env=(false,eval e X.env)::starEach es X.env:=by rfl) (hpl:(backTo pos (starEach es X.env)).any (·.1)=false:=by rfl) :
  PE X (.Call (.Name x p) (e::es) [] pos) (tCallV X.prog X.w X.K X.mg X.base CX k i E t):=by
 intro pins s σ H Q I ⟨v,sp,hσ,c,h⟩
 refine wpAny_Call_Name_kw (thn (Zkh (pos:=p) hN hv hd hcd pins s σ H (fun v' H'=>v'=v∧H'=H) I ⟨v,hσ,rfl,rfl⟩) fun u s0 ⟨v',H',I0,r0,ev,eH⟩=>?_)
 subst ev eH
 obtain⟨f,fo,fd,e1,e2,e3⟩:=c.at'
 subst e1
 obtain rfl:u=Value.ref f:=r0
 refine PySem.W.callWith_F (Ziw I0 e2 e3) (thn (ha pos pins s0 σ H' _ I0 h) fun us s1 ⟨vs,H1,I1,r,c1,q⟩=>?_) he hpl
 obtain⟨f',fo',fd',e1',e2',e3'⟩:=c1.at'
 cases e1'
 exact⟨Ziw I1 e2' e3',Zlz c1 hr hx I1 r q⟩
end
noncomputable def Own(X:Cx)(b:Addr):Prop:=∃ x,X.fn x=true∧X.env.cells.lookup x=some b
structure Lent(X:Cx)(σ:St)(H H2:Hp):Prop where
 same:Same H H2
 cell:∀ (i:Nat) (x:Str) (c:Addr) (v:V),X.N[i]?=some x→X.fn x=true→X.env.scope.names.lookup x=some .cell→X.env.cells.lookup x=some c→σ[i]?=some (some v)→∃ o u,H2 c=some (.frz o (.own c))∧o.data=.cell (some u)∧RelV v u
 out:∀ b,¬ Own X b→H2 b=H b
 own:∀ b,Own X b→H b=none∧∃ o v,H2 b=some (.frz o (.own b))∧o.data=.cell v
section
variable{X:Cx}{pins:List (Addr×Obj)}{σ:St}{H:Hp}{s:Shared}
theorem Inv.lendOk(I:Inv X pins σ H s):LendOk (Own X) s.heap H :=
 ⟨fun b ⟨x,_,e⟩=>I.freeC x b e,fun b ⟨x,_,e⟩=>let ⟨_,o,h,_⟩:=I.cell x b e;⟨o,h⟩⟩
theorem Inv.own_low(I:Inv X pins σ H s){b:Addr}(h:Own X b):X.s₀.heap.objs.size≤b:=let ⟨x,hf,e⟩:=h;I.ok.cab x b hf e
theorem Inv.own_fs(I:Inv X pins σ H s){b:Addr}(h:Own X b):b∉frs X.stack:=fun hb=>by
 rcases List.mem_cons.mp (I.stkSub b hb) with e|hb
 ·obtain⟨x,_,q⟩:=h
  exact I.cne x b q e
 ·obtain⟨_,o,ho,_⟩:=I.ok.funs.mem hb
  exact absurd (Nat.lt_of_lt_of_le (Heap.lt_size ho) (I.own_low h)) (Nat.lt_irrefl _)
theorem Inv.env0L(I:Inv X pins σ H s):Env0 X.prog X.w X.K X.mg X.base X.A X.stack s (lend (Own X) s.heap H):=by
 have e:=I.env0
 refine⟨e.frames,e.mod,fun b o q=>⟨(e.bs b o q).1,?_⟩,e.bsz,e.funs,fun b hb=>?_,ZjN I.lendOk e.hok,e.bare⟩
 ·rw[Zb9]
  ·exact (e.bs b o q).2
  ·intro h
   exact absurd (Nat.lt_of_lt_of_le (Heap.lt_size q) (Nat.le_trans I.ok.bsz (I.own_low h))) (Nat.lt_irrefl _)
 ·rw[Zb9 fun h=>I.own_fs h hb]
  exact e.frf b hb
theorem Inv.lent(I:Inv X pins σ H s):Lent X σ H (lend (Own X) s.heap H):=by
 refine⟨Zit I.lendOk,fun i x c v hN hf hk hc hσ=>?_,fun b h=>Zb9 h,fun b h=>⟨I.lendOk.no b h,?_⟩⟩
 ·obtain⟨m,hn,hl⟩:=I.loc
  obtain⟨u,r,l⟩:=hl i x v hN hσ (.inr (.inl hk))
  obtain⟨o,e1,e2⟩:=ZeT I.lendOk (b:=c) ⟨x,hf,hc⟩
  rcases l with⟨hl,_⟩|⟨_,c',hc',ob,e3,e4⟩
  ·have hl:X.env.scope.names.lookup x=some .local:=hl
   rw[hk] at hl
   cases hl
  ·rw[hc] at hc'
   cases hc'
   rw[e1] at e3
   cases e3
   exact⟨o,u,e2,e4,r⟩
 ·obtain⟨o,e1,e2⟩:=ZeT I.lendOk h
  obtain⟨x,_,hc⟩:=h
  obtain⟨v,ob,e3,e4⟩:=I.cell x b hc
  rw[e1] at e3
  cases e3
  exact⟨o,v,e2,e4⟩
end
noncomputable def tCallL(X:Cx)(sp:Sp)(dvs:List V)(E:XK)(t:TA):TE:=fun σ H Q=>t σ H fun vs H1=>∀ H2,Lent X σ H1 H2→sp (vs++dvs) H2 (fun v H3=>Q v (unl (Own X) H3)) E
noncomputable def PassesL(CX:CXT)(X:Cx)(E:XK):Prop:=∀ (pins:List (Addr×Obj)) (σ:St) (H:Hp) (s:Shared) (e:Value) (s':Shared),Inv X pins σ H s→CX X.stack (lend (Own X) s.heap H) s E e s'→X.xe e s'
section
variable{X:Cx}{CX:CXT}{k:Nat}{f:Addr}{fd:FuncData}{ps:List Str}{sp:Sp}{dvs:List V}{ds:List Value}{E:XK}{x:Str}{p pos:Pos}{e:Expr}{es:List Expr}{t:TA}
theorem ZlA{pins:List (Addr×Obj)}{σ:St}{H:Hp}{s:Shared}{Q:VK}{us:List Value}{vs:List V}(F:FnOk X.prog X.w X.K X.mg X.base CX k f fd ps sp)(hr:Room k X.A)(hb:Binds X.K fd ps ds)(hd:Vals dvs ds)(hx:PassesL CX X E)
  (I:Inv X pins σ H s) (r:Vals vs us) (h:∀ H2,Lent X σ H H2→sp (vs++dvs) H2 (fun v H3=>Q v (unl (Own X) H3)) E):wpAny (model X.prog X.w) X.A (call (.ref f) us) (EP X pins σ Q) X.xe s:=by
 have r2:Vals (vs++dvs) (us++ds):=r.append hd
 have h:=h _ I.lent
 have hl:(us++ds).length=ps.length:=by rw[← r2.length];exact F.len _ _ _ _ h
 refine wpAny_call (codeAny_mono (F.run X.A X.stack s _ ⟨us,[]⟩ (us++ds) (vs++dvs) _ E hr I.env0L (hb s us I.kIn hl) r2 h) fun r s' hq=>?_)
 cases r with
 | error e=>exact hx pins σ H s e s' I hq
 | ok fl =>
  cases fl with
  | ret u =>
   obtain⟨v,H',os,bare,un,hok,r,q⟩:=hq
   exact I.after ⟨v,unl (Own X) H',os,bare,Ziu I.lendOk un hok fun b hb=>I.own_fs hb,Ziv I.lendOk un hok,r,q⟩
  | next=>exact False.elim hq
  | brk=>exact False.elim hq
  | cont=>exact False.elim hq
theorem ZlB(c:Cal X.prog X.w X.K X.mg X.base CX k x ps dvs sp)(hr:Room k X.A)(hg:Gl X x)(hx:PassesL CX X E)(ha:PA X (e::es) t)(hdb:(x == ("__debug__" : Str))=false:=by decide)
  (he:starEach (e::es) X.env=(false,eval e X.env)::starEach es X.env:=by rfl) (hpl:(backTo pos (starEach es X.env)).any (·.1)=false:=by rfl) :
  PE X (.Call (.Name x p) (e::es) [] pos) (tCallL X sp dvs E t):=by
 obtain⟨f,fd,ds,h1,h2,h3,h4,h5⟩:=c.ex
 intro pins s σ H Q I h
 refine wpAny_Call_Name_kw (ZcJ I hg h2 ?_ hdb)
 refine PySem.W.callWith_K (h₀:=X.base) I.ok.mod.kin h3 (thn (ha pos pins s σ H _ I h) fun us s1 ⟨vs,H1,I1,r,q⟩=>⟨I1.kIn,?_⟩) he hpl
 exact ZlA h1 hr h4 h5 hx I1 r q
end
end L2
end
section
namespace L2
open PySem PySem.Spec PyProof.Rows
theorem ZeU{pos:Pos}{a b:Nat}{c cv:Value}(l:List Value)(h:TriplesOk l)(hc:codeAmong pos (l++[rawInt a,rawInt b,c])=some cv):codeAmong pos l=some cv∨(pos.line=a∧pos.col=b∧cv=c):=by
 fun_induction TriplesOk l with
 | case1 =>
  simp only[List.nil_append,rawInt,codeAmong] at hc
  split at hc
  ·rename_i hq
   simp only[Bool.and_eq_true,beq_iff_eq] at hq
   exact .inr ⟨by omega,by omega,(Option.some.inj hc).symm⟩
  ·cases hc
 | case2 a' t b' u x rest ih =>
  simp only[List.cons_append,codeAmong] at hc ⊢
  split at hc
  ·rename_i hq;rw[if_pos hq];exact .inl hc
  ·rename_i hq;rw[if_neg hq];exact ih h hc
 | case3 l h1 h2=>exact h.elim
noncomputable def Made(name qual:Str)(params:Arguments)(body:List Stmt)(scope:Scope)(cl:List (Str×Addr))(P:Addr)(H H':Hp)(f:Addr):Prop :=
 ∃ (c:Addr) (co:Obj) (doc pm ctv:Value),CodeO co qual∧(H c=none∨H c=some (.frz co (.own P)))∧c≠f∧H f=none∧H'=upd (upd H c (.frz co (.own P))) f (.frz (PySem.W.fnMade name qual params body scope cl doc pm c ctv) (.own f))
theorem Znt{H:Hp}{c:Addr}{o:HO}(h:H c=some o):upd H c o=H:=by
 funext b
 by_cases e:b=c
 ·rw[e,Zak,h]
 ·rw[Zaf e]
theorem Made.same{name qual:Str}{params:Arguments}{body:List Stmt}{scope:Scope}{cl:List (Str×Addr)}{P f:Addr}{H H':Hp}(m:Made name qual params body scope cl P H H' f):Same H H':=by
 obtain⟨c,co,doc,pm,ctv,_,hc,hne,hf,rfl⟩:=m
 intro b o e
 rw[Zaf (Zam e hf)]
 by_cases hb:b=c
 ·subst hb
  rcases hc with z|z
  ·rw[z] at e;cases e
  ·rw[Zak,← z,e]
 ·rw[Zaf hb];exact e
structure Clos(X:Cx)(scope:Scope)(cl:List (Str×Addr)):Prop where
 le:∀ x c,cl.lookup x=some c→X.env.cells.lookup x=some c
 has:∀ x,(x,NameKind.free)∈scope.names→∃ c,cl.lookup x=some c
 inj:∀ x y c,cl.lookup x=some c→cl.lookup y=some c→x=y
noncomputable def tDef(X:Cx)(name qual:Str)(params:Arguments)(body:List Stmt)(scope:Scope)(P:Addr)(pos:Pos)(i:Nat):TS:=fun D σ H =>
 ∃ q,H P=some (.tbq q)∧q pos.line pos.col=qual∧∀ cl f H',Clos X scope cl→Made name qual params body scope cl P H H' f→D.nx (σ.set i (some (.ref f))) H'
section
variable{X:Cx}{pins:List (Addr×Obj)}{σ:St}{H:Hp}{s:Shared}
theorem Inv.fnMade{P c:Addr}{q:Nat→Nat→Str}{ps:Array Value}{co fo:Obj}{h':Heap}{t':Nat}{pos:Pos}(I:Inv X pins σ H s)(hP:H P=some (.tbq q))(hPs:s.heap.get? P=some (PySem.W.tabObj ps))(ht:TriplesOk ps.toList)
  (hall:∀ pos cv,codeAmong pos ps.toList=some cv→∃ c o,cv=.ref c∧H c=some (.frz o (.own P))∧CodeO o (q pos.line pos.col))
  (hx:Heap.ExtBut P s.heap h') (hge:s.heap.objs.size≤c) (hlt:c<h'.objs.size) (hco:h'.get? c=some co) (hq:CodeO co (q pos.line pos.col)) (htb:h'.get? P=some (PySem.W.tabObj (ps++#[rawInt pos.line,rawInt pos.col,.ref c]))) (hfo:fo.isFreed=false) :
  Inv X pins σ (upd (upd H c (.frz co (.own P))) h'.objs.size (.frz fo (.own h'.objs.size))) { s with heap:=h'.push fo,toks:=t' }:=by
 have hc0:H c=none:=I.hok.fresh hge
 have hsz:s.heap.objs.size≤h'.objs.size:=Nat.le_trans hge (Nat.le_of_lt hlt)
 have hf0:H h'.objs.size=none:=I.hok.fresh hsz
 have hcP:c≠P:=fun z=>by rw[z,hP] at hc0;cases hc0
 have hfP:h'.objs.size≠P:=fun z=>by rw[z,hP] at hf0;cases hf0
 have hcf:c≠h'.objs.size:=Nat.ne_of_lt hlt
 have up:∀ {b:Addr} {u:HO},H b=some u→upd (upd H c (.frz co (.own P))) h'.objs.size (.frz fo (.own h'.objs.size)) b=some u:=fun {b u} e=>by
  rw[Zaf (Zam e hf0),Zaf (Zam e hc0)];exact e
 have kp:∀ b o,b≠P→s.heap.get? b=some o→(h'.push fo).get? b=some o:=fun b o hb e=>Heap.get?_push_of_some _ (hx b o hb e)
 have nP:∀ {b:Addr},H b=none→b≠P:=fun {b} n z=>by rw[z,hP] at n;cases n
 refine I.un ⟨fun b u q n _ _=>kp b u (nP n) q,fun b u q n _ _=>⟨u.slots,kp b u (nP n) q⟩,fun b u q n _=>?_,fun b u q _=>?_,fun b xs q=>up q,fun b u xs q=>up q,fun b ps q=>⟨#[],by simpa using up q⟩⟩ fun a u e=>?_
 ·have hb:=Heap.lt_size q
  rw[Zaf (Nat.ne_of_lt (Nat.lt_of_lt_of_le hb hsz)),Zaf (Nat.ne_of_lt (Nat.lt_of_lt_of_le hb hge))]
  exact n
 ·by_cases hb:b=P
  ·subst hb
   exact⟨_,Heap.get?_push_of_some _ htb⟩
  ·exact⟨u,kp b u hb q⟩
 ·by_cases haf:a=h'.objs.size
  ·subst haf
   rw[Zak] at e
   cases e
   exact⟨Heap.get?_push_size _ hfo,fo,Heap.get?_push_size _ hfo⟩
  ·rw[Zaf haf] at e
   by_cases hac:a=c
   ·subst hac
    rw[Zak] at e
    cases e
    exact⟨Heap.get?_push_of_some _ hco,co,Heap.get?_push_of_some _ hco⟩
   ·rw[Zaf hac] at e
    by_cases haP:a=P
    ·subst haP
     rw[hP] at e
     cases e
     refine⟨_,Heap.get?_push_of_some _ htb,?_,fun pos' cv z=>?_⟩
     ·have:=TriplesOk_snoc pos.line pos.col (.ref c) ps.toList ht
      simpa using this
     ·have z':codeAmong pos' (ps.toList++[rawInt pos.line,rawInt pos.col,.ref c])=some cv:=by simpa using z
      rcases ZeU ps.toList ht z' with z|⟨e1,e2,e3⟩
      ·obtain⟨c',o',r1,r2,r3⟩:=hall pos' cv z
       exact⟨c',o',r1,up r2,r3⟩
      ·refine⟨c,co,e3,?_,?_⟩
       ·rw[Zaf hcf,Zak]
       ·rw[e1,e2];exact hq
    ·refine (I.hok a u e).stay (fun b u' hb z=>kp b u' ?_ z) (fun b z=>up z) (fun b xs z=>up z) fun b o z=>up z
     rcases hb with r|r
     ·rw[r];exact haP
     ·exact fun z=>by rw[z,hP] at r;cases r
theorem ZgS{name qual:Str}{params:Arguments}{body:List Stmt}{scope:Scope}{pos:Pos}{i:Nat}{c0 P:Addr}(hN:X.N.Nodup)(hi:X.N[i]?=some name)(hx:Loc X.env.scope name)(hd0:params.defaults=[])(hk0:params.kw_defaults=[])
  (ha:annTrees params none X.env=[]) (hq:qualnameIn X.env name name=qual) (hcode:X.env.code=.ref c0) (hC:PySem.W.codeHdIn X.K c0 P=true) (hfr:∀ y∈scope.names,y.2=.free→X.env.scope.names.lookup y.1=some .cell∨X.env.scope.names.lookup y.1=some .free)
  (hB:X.base.BuiltinsAt X.mg mainGlobals) (hf:X.fn name=true∨X.env.scope.names.lookup name=some .local:=by first|exact .inl rfl|exact .inr rfl|assumption) :
  PS X (.FunctionDef name params body [] none [] scope none name pos) (tDef X name qual params body scope P pos i):=by
 intro pins s σ H D I ⟨q,hP,hqp,h⟩
 refine PySem.W.nestDef_K hd0 hk0 ha ?_
 rw[hq]
 obtain⟨cl,hcl,hle,hhas⟩:=Zes (scope:=scope) (env:=X.env) fun y hy e=>I.ok.has y.1 (hfr y hy e)
 have C:Clos X scope cl:=⟨hle,hhas,fun x y c e1 e2=>I.ok.inj x y c (hle x c e1) (hle y c e2)⟩
 obtain⟨ps,hPs,ht,hall⟩:=I.hok P _ hP
 have hG:s.heap.Ns mainGlobals X.mg:=I.mod.glob.keeps I.bk
 have hCd:=PySem.W.codeHd_of_K I.kIn hC
 obtain⟨bm,ob,b1,b2,b3,_,b5,b6,b7,b8⟩:=hB
 have nP:∀ {b:Addr} {o:Obj},X.base.get? b=some o→b≠P:=fun {b o} e z=>by
  have:=(I.bs b o e).2
  rw[z,hP] at this;cases this
 have hBA:s.heap.BuiltinsAt X.mg P:=⟨bm,ob,b1,b2,b3,nP b5,I.bk bm ob b5,b6,b7,b8⟩
 have hgP:mainGlobals≠P:=by
  obtain⟨o,es,ep,e,_⟩:=I.mod.glob
  exact nP e
 cases hca:codeAmong pos ps.toList with
 | none =>
  refine PySem.W.makeFunction_K hcl I.ok.glob hG hcode hCd hPs ht hca hgP hBA fun c' ctv doc h' tk hx' hge hlt hrec htb=>?_
  obtain⟨c2,co,vs,t,ec,e1,e2,e3⟩:=hrec
  cases ec
  have I1:=I.fnMade (t':=tk) (fo:=PySem.W.fnMade name qual params body scope cl doc ((X.mg "__name__").getD .none) c' ctv) hP hPs ht hall hx' hge hlt e1 (hqp▸⟨vs,t,e2,e3⟩) htb rfl
  refine Zcd (v:=.ref h'.objs.size) I1 hN hi hx rfl (fun s' I2 _=>?_) hf
  refine⟨_,_,I2,h cl _ _ C ⟨c',co,doc,_,ctv,⟨vs,t,e2,e3⟩,.inl (I.hok.fresh hge),Nat.ne_of_lt hlt,I.hok.fresh (Nat.le_trans hge (Nat.le_of_lt hlt)),rfl⟩⟩
 | some cv =>
  obtain⟨c,co,rfl,hcH,hco⟩:=hall pos cv hca
  refine PySem.W.makeFunction_hit hcl I.ok.glob hG hcode hCd hPs ht hca hBA fun ctv doc h' tk hk hsz=>?_
  have hf0:H h'.objs.size=none:=I.hok.fresh hsz
  have I1:Inv X pins σ (upd H h'.objs.size (.frz (PySem.W.fnMade name qual params body scope cl doc ((X.mg "__name__").getD .none) c ctv) (.own h'.objs.size))) { s with heap:=h'.push (PySem.W.fnMade name qual params body scope cl doc ((X.mg "__name__").getD .none) c ctv),toks:=tk }:=by
   refine I.born hf0 (Heap.get?_none_of_le hsz) (fun b u e=>Heap.get?_push_of_some _ (hk b u e)) ⟨Heap.get?_push_size _ rfl,_,Heap.get?_push_size _ rfl⟩
  refine Zcd (v:=.ref h'.objs.size) I1 hN hi hx rfl (fun s' I2 _=>?_) hf
  refine⟨_,_,I2,h cl _ _ C ⟨c,co,doc,(X.mg "__name__").getD .none,ctv,hqp▸hco,.inr hcH,(fun z=>by rw[z,hf0] at hcH;cases hcH),hf0,?_⟩⟩
  rw[Znt hcH]
end
end L2
end
section
namespace L2
open PySem PySem.Spec PyProof.Rows
noncomputable def envF(qual:Str)(scope:Scope)(cl:List (Str×Addr))(L f:Addr)(cd:Value):Env :=
 { scope:=scope,locals:=L,globals:=mainGlobals,cells:=cellsFrom (L+1) scope.names cl,qual:=qual ++ ".<locals>.",func:=some f,code:=cd,frame:=some L,builtins:=builtinsNs }
theorem newEnvF{M:Model}{A:Around}{E:Value→Shared→Prop}{s:Shared}{scope:Scope}{cl:List (Str×Addr)}{binds:List (Str×Value)}{qual:Str}{f:Addr}{cd:Value}{Q:Env→Shared→Prop}
  (h:wpAny M A (forIn binds PUnit.unit fun (x:Str×Value) _=>do storeName (envF qual scope cl s.heap.objs.size f cd) x.1 x.2;pure (ForInStep.yield PUnit.unit)) (fun _ s'=>Q (envF qual scope cl s.heap.objs.size f cd) s') E
   { s with heap:=pushCells (s.heap.push { cls:=.type "frame",data:=.dict #[] }) scope.names }) :
  wpAny M A (newFunctionEnv scope mainGlobals cl binds (qual ++ ".<locals>.") (some f) cd none builtinsNs) Q E s:=by
 simp only[newFunctionEnv,Option.isSome_none,Bool.false_eq_true,if_false]
 refine wpAny_bind (wpAny_alloc ?_)
 refine wpAny_bind (wpAny_layCells _ (fun name kind cells=>by cases hkc:kind == NameKind.cell<;>simp[hkc]) _ _ _ _ ?_)
 rw[show ({ s with heap:=s.heap.push { cls:=.type "frame",data:=.dict #[] } }:Shared).heap.objs.size=s.heap.objs.size+1 from Heap.size_push ..]
 exact wpAny_bind (thn h fun _ s' q=>wpAny_pure q)
noncomputable def cxF(CX:CXT)(P:Program)(w:World)(K:W.Frag)(mg:Str→Option Value)(base:Heap)(N:List Str)(qual:Str)(scope:Scope)(cl:List (Str×Addr))(f:Addr)(cd:Value)(A:Around)(outer:List Env)(s:Shared)(H:Hp)(E:XK):Cx where
 prog:=P
 w:=w
 K:=K
 mg:=mg
 base:=base
 A:=A.deeper (envF qual scope cl s.heap.objs.size f cd)
 N:=N
 s₀:=s
 H₀:=H
 env:=envF qual scope cl s.heap.objs.size f cd
 outer:=outer
 stack:=envF qual scope cl s.heap.objs.size f cd::outer
 ex:=[]
 calm:=true
 fn:=fun x=>scope.names.lookup x == some .cell
 pn:=[]
 xe:=fun e s'=>wpAny (model P w) (A.deeper (envF qual scope cl s.heap.objs.size f cd)) (leaving (envF qual scope cl s.heap.objs.size f cd) e) (fun _ s''=>CX outer H s E e s'') (fun e' s''=>CX outer H s E e' s'') s'
structure FnScopeF(N ps:List Str)(sc:Scope):Prop where
 kind:sc.kind=.function
 co:sc.isCoroutine=false
 gen:sc.isGenerator=false
 nd:N.Nodup
 pre:N.take ps.length=ps
 par:∀ x∈ps,sc.names.lookup x=some .local∨sc.names.lookup x=some .cell
noncomputable def FreeOk(N:List Str)(scope:Scope)(cl:List (Str×Addr))(h:Heap)(σ:St):Prop :=
 σ.length=N.length∧∀ (i:Nat) (x:Str) (v:V),N[i]?=some x→σ[i]?=some (some v)→scope.names.lookup x=some .free∧(∀ y∈scope.names,y.1=x→y.2≠.cell)∧∃ c o u,cl.lookup x=some c∧h.get? c=some o∧o.data=.cell (some u)∧RelV v u
section
variable{CX:CXT}{P:Program}{w:World}{K:W.Frag}{mg:Str→Option Value}{base:Heap}{N ps:List Str}{qual:Str}{scope:Scope}{cl:List (Str×Addr)}{f:Addr}{cd:Value}{A:Around}{outer:List Env}{s:Shared}{H:Hp}{E:XK}{σ:St}
theorem ZlC(S:FnScopeF N ps scope)(hd:A.handled=none)(e0:Env0 P w K mg base A outer s H)(hfr:∀ x,(x,NameKind.free)∈scope.names→∃ c,cl.lookup x=some c)(hinj:∀ x y c,cl.lookup x=some c→cl.lookup y=some c→x=y)
  (hno:∀ x c,cl.lookup x=some c→H c=none∧∃ v,s.heap.IsCell c v) (F:FreeOk N scope cl s.heap σ) :
  Inv (cxF CX P w K mg base N qual scope cl f cd A outer s H E) [] σ H { s with heap:=pushCells (s.heap.push { cls:=.type "frame",data:=.dict #[] }) scope.names }:=by
 have e1:(s.heap.push { cls:=.type "frame",data:=.dict #[] }).objs.size=s.heap.objs.size+1:=Heap.size_push ..
 have k1:∀ b o,s.heap.get? b=some o→(pushCells (s.heap.push { cls:=.type "frame",data:=.dict #[] }) scope.names).get? b=some o :=
  fun b o e=>pushCells_keeps _ _ b o (Heap.get?_push_of_some _ e)
 have kC:(pushCells (s.heap.push { cls:=.type "frame",data:=.dict #[] }) scope.names).Ns s.heap.objs.size fun _=>none :=
  (Heap.Ns.new s.heap (.type "frame")).keeps (pushCells_keeps scope.names _)
 have clLt:∀ x c,cl.lookup x=some c→c<s.heap.objs.size:=fun x c e=>by
  obtain⟨_,v,q⟩:=hno x c e
  exact q.lt
 have cells:∀ x c,(cellsFrom (s.heap.objs.size+1) scope.names cl).lookup x=some c→s.heap.objs.size+1≤c∨cl.lookup x=some c:=fun x c e=>ZbO x _ _ _ c e
 have noA:∀ b:Addr,b∉(cxF CX P w K mg base N qual scope cl f cd A outer s H E).ex:=fun b z=>absurd (show b∈([]:List Addr) from z) (by simp)
 refine⟨⟨e0.mod,S.kind,rfl,rfl,Nat.le_refl _,?_,?_,?_,fun _=>hd,Around.frames_deeper e0.frames,.inr ⟨rfl,rfl⟩,fun b z=>absurd z (noA b),e0.bs,e0.bsz,fun b _ _=>noA b,fun b z=>absurd z (noA b),e0.funs,e0.frf⟩,
  rfl,e0.bare,Un.kept k1,?_,?_,e0.hok.fresh (Nat.le_refl _),?_,fun p hp=>absurd (show p∈([]:List (Addr×Obj)) from hp) (by simp),e0.hok.kept k1,F.1⟩
 ·exact Zbv scope.names _ cl hinj fun x c h=>Nat.lt_succ_of_lt (clLt x c h)
 ·intro x hx
  have hx:scope.names.lookup x=some .cell∨scope.names.lookup x=some .free:=hx
  refine Option.isSome_iff_exists.mp (PySem.W.cellsFrom_some scope.names _ cl ?_)
  rcases hx with h|h
  ·exact .inl h
  ·exact .inr (Option.isSome_iff_exists.mpr (hfr x (PySem.mem_of_lookup h)))
 ·intro x c hx hc
  have hx:scope.names.lookup x=some .cell:=by simpa [cxF] using hx
  have:=Zbw x (s.heap.objs.size+1) scope.names (s.heap.objs.size+1) cl (Nat.le_refl _) (.inl (PySem.mem_of_lookup hx)) c hc
  exact Nat.le_trans (Nat.le_succ _) this
 ·refine⟨_,kC,fun i x v h1 h2 h3=>?_⟩
  obtain⟨q1,q2,c,o,u,q3,q4,q5,r⟩:=F.2 i x v h1 h2
  refine⟨u,r,.inr ⟨.inr q1,c,?_,o,k1 c o q4,q5⟩⟩
  show (cellsFrom (s.heap.objs.size+1) scope.names cl).lookup x=some c
  rw[Zbx _ _ _ q2]
  exact q3
 ·intro x c e
  have e:(cellsFrom (s.heap.objs.size+1) scope.names cl).lookup x=some c:=e
  rw[← e1] at e
  exact Za6 scope.names _ cl (fun y d hy=>by
   obtain⟨_,v,q⟩:=hno y d hy
   exact⟨v,q.keeps fun b o z=>Heap.get?_push_of_some _ z⟩) x c e
 ·intro x c e
  rcases cells x c e with q|q
  ·exact e0.hok.fresh (Nat.le_trans (Nat.le_succ _) q)
  ·exact (hno x c q).1
noncomputable def setAll:Nat→List V→St→St
 | _,[],σ=>σ
 | j,v::vs,σ=>setAll (j+1) vs (σ.set j (some v))
theorem ZgT{X:Cx}{M:Model}{A:Around}{E:Value→Shared→Prop}(hN:X.N.Nodup):∀ (ps:List Str) (us:List Value) (vs:List V) (j:Nat) (σ:St) (H:Hp) (s:Shared) (Q:PUnit→Shared→Prop),Vals vs us→ps.length=us.length →
  (∀ i x,ps[i]?=some x→X.N[j+i]?=some x∧Loc X.env.scope x∧(X.fn x=true∨X.env.scope.names.lookup x=some .local))→Inv X [] σ H s→(∀ s',Inv X [] (setAll j vs σ) H s'→Q ⟨⟩ s') →
  wpAny M A (forIn (ps.zip us) PUnit.unit fun (x:Str×Value) _=>do storeName X.env x.1 x.2;pure (ForInStep.yield PUnit.unit)) Q E s
 | [],us,vs,j,σ,H,s,Q,r,hl,hp,I,h=>by
  cases us with
  | nil =>
   cases r
   rw[List.zip_nil_left,List.forIn_nil]
   exact wpAny_pure (h s I)
  | cons _ _=>simp at hl
 | x::ps,us,vs,j,σ,H,s,Q,r,hl,hp,I,h=>by
  cases r with
  | nil=>simp at hl
  | cons r rs =>
   rw[List.zip_cons_cons,List.forIn_cons]
   obtain⟨h1,h2,h3⟩:=hp 0 x rfl
   refine wpAny_bind (wpAny_bind (Zcd I hN h1 h2 r (fun s' I' _=>wpAny_pure ?_) h3))
   exact ZgT hN ps _ _ (j+1) _ H s' Q rs (by simpa using hl) (fun i y hy=>by
    have:=hp (i+1) y (by simpa using hy)
    rwa [show j+(i+1)=j+1+i by omega] at this) I' h
noncomputable def CellOf(cl:List (Str×Addr))(b:Addr):Prop:=∃ x,cl.lookup x=some b
theorem Znu{k:Nat}{name:Str}{params:Arguments}{body:List Stmt}{doc pm ctv:Value}{c:Addr}{co:Obj}{Pt:Addr}{sp:Sp}{G:Hp}(S:FnScopeF N ps scope)
  (hf:G f=some (.frz (PySem.W.fnMade name qual params body scope cl doc pm c ctv) (.own f))) (hc:G c=some (.frz co (.own Pt))) (hco:CodeO co qual)
  (hfr:∀ x,(x,NameKind.free)∈scope.names→∃ c,cl.lookup x=some c) (hinj:∀ x y c,cl.lookup x=some c→cl.lookup y=some c→x=y)
  (hcl:∀ x d,cl.lookup x=some d→∃ o v,G d=some (.frz o (.own d))∧o.data=.cell v)
  (hbind:∀ (s:Shared) (us:List Value),us.length=ps.length→BindsTo s (PySem.W.fnX name qual params body scope cl .none .none doc pm none (.ref c) ctv) ⟨us,[]⟩ (ps.zip us))
  (len:∀ vs H Q E,sp vs H Q E→vs.length=ps.length)
  (hσ:∀ h:Heap,(∀ x d o,cl.lookup x=some d→G d=some (.frz o (.own d))→h.get? d=some o)→FreeOk N scope cl h σ)
  (hbody:∀ (A:Around) (outer:List Env) (s:Shared) (H:Hp) (vs:List V) (Q:VK) (E:XK),Room k (A.deeper (envF qual scope cl s.heap.objs.size f (.ref c)))→Same G H→sp vs H Q E →
   ∃ t,PSs (cxF CX P w K mg base N qual scope cl f (.ref c) A outer s (unl (CellOf cl) H) E).nox body t∧t { nx:=fun _ H'=>(∀ b,CellOf cl b→H' b=none)→Q .non (rel (CellOf cl) H H'),rt:=fun v H'=>(∀ b,CellOf cl b→H' b=none)→Q v (rel (CellOf cl) H H') } (setAll 0 vs σ) (unl (CellOf cl) H)) :
  CloOk P w K mg base CX (k+1) sp (.ref f) G:=by
 refine⟨⟨f,_,_,rfl,hf,rfl⟩,fun f' ef A outer s H us vs Q E hr e0 m r hsp=>?_⟩
 cases ef
 have hl:=len _ _ _ _ hsp
 have hlu:us.length=ps.length:=by rw[← r.length];exact hl
 have hfo:=(e0.hok f _ (m _ _ hf)).1
 have hcob:=(e0.hok c _ (m _ _ hc)).1
 obtain⟨ws,t,d1,d2⟩:=hco
 have hC:∀ b,CellOf cl b→∃ o,H b=some (.frz o (.own b)):=fun b ⟨x,e⟩=>by
  obtain⟨o,v,z,_⟩:=hcl x b e
  exact⟨o,m _ _ z⟩
 have hfs:∀ b,CellOf cl b→b∉frs outer∧b∉([]:List Addr):=fun b hb=>by
  refine⟨fun z=>?_,by simp⟩
  obtain⟨o,e⟩:=hC b hb
  rw[e0.frf b z] at e;cases e
 have e1:Env0 P w K mg base A outer s (unl (CellOf cl) H):=by
  refine⟨e0.frames,e0.mod,fun b o q=>⟨(e0.bs b o q).1,?_⟩,e0.bsz,e0.funs,fun b hb=>?_,ZgR hC e0.hok,e0.bare⟩
  ·by_cases hb:CellOf cl b
   ·exact Zd1 hb
   ·rw[ZaX hb];exact (e0.bs b o q).2
  ·rw[ZaX fun z=>(hfs b z).1 hb];exact e0.frf b hb
 have lim:s.heap.NoLimit:=e0.mod.nolimit.keeps fun b o e=>(e0.bs b o e).1
 refine codeAny_call_function hr.depth hfo rfl S.co S.gen rfl ⟨c,co,ws,t,rfl,hcob,d1,d2⟩ (hbind s us hlu _ _ _ _ ?_)
 refine newEnvF (f:=f) (cd:=.ref c) ?_
 obtain⟨t,ht,hq⟩:=hbody A outer s H vs Q E (hr.deeper _) m hsp
 have I0:Inv (cxF CX P w K mg base N qual scope cl f (.ref c) A outer s (unl (CellOf cl) H) E) [] σ (unl (CellOf cl) H) { s with heap:=pushCells (s.heap.push { cls:=.type "frame",data:=.dict #[] }) scope.names } :=
  ZlC S hr.hd e1 hfr hinj (fun x d e=>⟨Zd1 ⟨x,e⟩,by
   obtain⟨o,v,z,y⟩:=hcl x d e
   exact⟨v,o,(e0.hok d _ (m _ _ z)).1,y⟩⟩) (hσ s.heap fun x d o e z=>(e0.hok d _ (m _ _ z)).1)
 refine ZgT (X:=cxF CX P w K mg base N qual scope cl f (.ref c) A outer s (unl (CellOf cl) H) E) S.nd ps us vs 0 σ _ _ _ r hlu.symm (fun i x hx=>?_) I0 fun s1 I=>?_
 ·have hxm:=List.mem_of_getElem? hx
  refine⟨?_,S.par x hxm,?_⟩
  ·rw[Nat.zero_add]
   have hi:i<ps.length:=(List.getElem?_eq_some_iff.mp hx).1
   rw[← S.pre,List.getElem?_take_of_lt hi] at hx
   exact hx
  ·rcases S.par x hxm with z|z
   ·exact .inr z
   ·refine .inl ?_
    show (scope.names.lookup x == some NameKind.cell)=true
    rw[z];rfl
 ·refine⟨I.nolimit,codeAny_func ?_⟩
  refine wpAny_mono (ht [] s1 _ _ _ (I.wish _) hq) (fun fl s' hs=>?_) fun e s' hs=>?_
  ·replace hs:=SP.unwish hs
   have fin:∀ {σ':St} {H':Hp} {v:V} {u:Value},Inv (cxF CX P w K mg base N qual scope cl f (.ref c) A outer s (unl (CellOf cl) H) E) [] σ' H' s'→RelV v u→((∀ b,CellOf cl b→H' b=none)→Q v (rel (CellOf cl) H H'))→CE outer P w H s Q u s' :=
    fun {σ' H' v u} J rv q=>⟨v,rel (CellOf cl) H H',J.os,J.bare,Zns hC e0.hok J.base hfs,Zly hC e0.hok J.base hfs J.hok,rv,q fun b hb=>Zkx hC e0.hok J.base hfs hb⟩
   cases fl with
   | ret u =>
    obtain⟨v,σ',H',J,rv,q⟩:=hs
    exact fin J rv q
   | next =>
    obtain⟨σ',H',J,q⟩:=hs
    exact fin (v:=V.non) (u:=Value.none) J rfl q
   | brk =>
    obtain⟨_,_,_,q⟩:=hs
    exact False.elim q
   | cont =>
    obtain⟨_,_,_,q⟩:=hs
    exact False.elim q
  ·exact False.elim hs
end
end L2
end
section
namespace L2
open PySem PySem.Spec PyProof.Rows
noncomputable def MadeAt(X:Cx)(name qual:Str)(params:Arguments)(body:List Stmt)(scope:Scope)(P:Addr)(v:V)(G:Hp):Prop :=
 ∃ (f c:Addr) (co:Obj) (doc pm ctv:Value) (cl:List (Str×Addr)),v=.ref f∧Clos X scope cl∧CodeO co qual∧G c=some (.frz co (.own P))∧G f=some (.frz (PySem.W.fnMade name qual params body scope cl doc pm c ctv) (.own f))
theorem MadeAt.same{X:Cx}{name qual:Str}{params:Arguments}{body:List Stmt}{scope:Scope}{P:Addr}{v:V}{G G':Hp}(m:Same G G')(h:MadeAt X name qual params body scope P v G):MadeAt X name qual params body scope P v G':=by
 obtain⟨f,c,co,doc,pm,ctv,cl,e,h1,h2,h3,h4⟩:=h
 exact⟨f,c,co,doc,pm,ctv,cl,e,h1,h2,m _ _ h3,m _ _ h4⟩
end L2
namespace VL
open PySem PySem.Spec PyProof.Rows L2
variable[Tabs]
section
variable{K:W.Frag}{E:FK}{X:Exc→Sl→Prop}{ρ:Sl}{Q:TV→Prop}{nx bk ct:Sl→Prop}{rt:TV→Prop}
theorem ZgU{Y:Cx}{name qual:Str}{params:Arguments}{body:List Stmt}{scope:Scope}{P:Addr}{q:Nat→Nat→Str}{pos:Pos}{i:Nat}(hP:(P,q)∈Tabs.ts)(hq:q pos.line pos.col=qual)(hi:i<ρ.length)
  (h:nx (ρ.set i (some (.obj (MadeAt Y name qual params body scope P))))):Sv K E X (tDef Y name qual params body scope P pos i) ρ ⟨nx,rt,bk,ct⟩:=fun H0 σ ts as H D st s x f=>by
 refine⟨q,s.same _ _ (x.t _ hP),hq,fun cl fa H' C m=>f.nx _ h _ _ ?_⟩
 have s':=s.ext m.same
 have mm:MadeAt Y name qual params body scope P (.ref fa) H':=by
  obtain⟨c,co,doc,pm,ctv,h1,h2,h3,h4,rfl⟩:=m
  exact⟨fa,c,co,doc,pm,ctv,cl,rfl,C,h1,by rw[Zaf h3,Zak],Zak⟩
 refine SR.store (v:=.ref fa) (a:=.obj (MadeAt Y name qual params body scope P)) ?_ hi
 obtain⟨⟨p,q,h1,h2,h3,h4⟩,e⟩:=s'
 refine⟨⟨p,q,h1,.cons (.av (.obj (p:=fun _=>0) ?_ (fun G1 G2 mm hh=>hh.same mm) fun _=>rfl)) h2 (fun b=>by simp),h3,h4⟩,e⟩
 obtain⟨f',c,co,doc,pm,ctv,cl',e1,k1,k2,k3,k4⟩:=mm
 have nm:∀ {b:Addr} {ob:Obj} {y:HO},H' b=some (.frz ob y)→VL.hid H' p q b=some (.frz ob y):=fun {b ob y} z=>ZeQ (SR.lsts h1 h2) z fun z=>(show False from z)
 exact⟨f',c,co,doc,pm,ctv,cl',e1,k1,k2,nm k3,nm k4⟩
theorem Znv{P:Program}{w:World}{mg:Str→Option Value}{base:Heap}{CX:CXT}{k i:Nat}{A:TA}{E':XK}{Pre:List AV→Prop}{Post:List AV→AV→Prop}(hi:ρ[i]?=some (some (.obj (CloOk P w K mg base CX k (spR K Pre Post NP)))))
  (h:Ea K E X A ρ (ClR Pre Post NP [] Q fun _=>True)):Ev K E X (tCallV P w K mg base CX k i E' A) ρ Q:=fun H0 σ ts as H QV s x kk=>by
 obtain⟨v,e1,e2,_⟩:=s.atO hi
 refine⟨v,_,e1,e2,h H0 σ ts as H _ s x fun bs ⟨cs,sh,pre,q,_⟩ vs H' s' hl=>?_⟩
 obtain⟨v',e1',e2',_⟩:=s'.atO hi
 rw[e1] at e1'
 cases e1'
 obtain⟨rp,s2⟩:=SR.lent sh hl s'
 exact⟨e2',x.t.same s2.same,cs,by simpa using rp,by simpa using pre,fun c hc v H2 r=>let ⟨a,g,z⟩:=q c (by simpa using hc);kk a z v H2 (s2.gotG r g),fun e z=>z.elim⟩
end
noncomputable def setV:Nat→List AV→Sl→Sl
 | _,[],ρ=>ρ
 | j,c::cs,ρ=>setV (j+1) cs (ρ.set j (some c))
section
variable{K:W.Frag}{H0 H G:Hp}
theorem RSl.set0:∀ {σ:L2.St} {ρ:Sl} {p:Fp} {j:Nat} {v:V} {a:AV},RSl K G H σ ρ p→(∀ b,p b=0)→RA K G H v a Z0→j<ρ.length→RSl K G H (σ.set j (some v)) (ρ.set j (some a)) Z0
 | _,_,_,_,_,_,.nil _,_,_,hj=>by simp at hj
 | _,_,_,0,_,_,.no rs,z,ra,_=>.so ra rs fun b=>by simp[Z0,z b]
 | _,_,_,j+1,_,_,.no rs,z,ra,hj=>.no (RSl.set0 rs z ra (by simpa using hj))
 | _,_,_,0,_,_,.so (q:=q) r rs e,z,ra,_=>.so ra rs fun b=>by have:=e b;have:=z b;simp only[Z0];omega
 | _,_,_,j+1,_,_,.so (p:=p) (q:=q) r rs e,z,ra,hj=>.so r (RSl.set0 rs (fun b=>by have:=e b;have:=z b;omega) ra (by simpa using hj)) fun b=>by have:=e b;have:=z b;simp only[Z0];omega
theorem RSl.setAll:∀ {vs:List V} {cs:List AV} {j:Nat} {σ:L2.St} {ρ:Sl},RAs K G H vs cs Z0→j+vs.length≤ρ.length→RSl K G H σ ρ Z0→RSl K G H (L2.setAll j vs σ) (setV j cs ρ) Z0:=by
 intro vs
 induction vs with
 | nil =>
  intro cs j σ ρ r _ s
  cases r
  exact s
 | cons v vs ih =>
  intro cs j σ ρ r hl s
  cases r with
  | @cons _ c _ cs' p1 q1 _ r rs e =>
   have z1:p1=Z0:=by funext b;have:=e b;simp only[Z0] at this ⊢;omega
   have z2:q1=Z0:=by funext b;have:=e b;simp only[Z0] at this ⊢;omega
   subst z1 z2
   simp only[List.length_cons] at hl
   exact ih rs (by rw[List.length_set];omega) (RSl.set0 s (fun _=>rfl) r (by omega))
theorem SR.startF{vs:List V}{cs:List AV}{σ:L2.St}{ρ:Sl}(r:RAs K H H vs cs Z0)(hl:vs.length≤ρ.length)(s:RSl K H H σ ρ Z0):SR K H (L2.setAll 0 vs σ) (setV 0 cs ρ) [] [] H:=by
 have hid0:VL.hid H (fun _=>0) (fun _=>0)=H:=by funext b;simp[VL.hid]
 refine⟨⟨Z0,fun _=>0,?_,.nil fun _=>rfl,fun _=>by simp[Z0],fun b z=>by simp[Z0] at z⟩,.refl H⟩
 show RSl K (VL.hid H (fun _=>0) (fun _=>0)) H _ _ _
 rw[hid0]
 exact RSl.setAll r (by omega) s
end
mutual
noncomputable def AV.plain:AV→Bool
 | .d _=>true
 | .own xs=>AV.plains xs
 | .tup xs=>AV.plains xs
 | .dic _=>true
 | .obj _=>false
noncomputable def AV.plains:List AV→Bool
 | []=>true
 | x::xs=>x.plain && AV.plains xs
end
section
variable{K:W.Frag}{G G' H H':Hp}
theorem DicAt.low{o:HO}{kvs:List (PyData×PyData)}(h:DicAt K G o kvs)(m:Low G G'):DicAt K G' o kvs:=by
 rcases h with⟨ks,ds,e,r,z⟩|⟨ks,ds,e,r,z⟩|⟨ks,ds,n,e,r,z⟩
 ·exact .inl ⟨ks,ds,e,Reps.low m r,z⟩
 ·exact .inr (.inl ⟨ks,ds,e,Reps.low m r,z⟩)
 ·exact .inr (.inr ⟨ks,ds,n,e,Reps.low m r,z⟩)
theorem RA.lowB(hG:Low G G'):(∀ {v:V} {a:AV} {p:Fp},RA K G H v a p→a.plain=true→(∀ b o,0<p b→H b=some o→H' b=some o)→RA K G' H' v a p)∧∀ {vs:List V} {xs:List AV} {p:Fp},RAs K G H vs xs p→AV.plains xs=true→(∀ b o,0<p b→H b=some o→H' b=some o)→RAs K G' H' vs xs p :=
 RA.ind (M:=fun v a p=>a.plain=true→(∀ b o,0<p b→H b=some o→H' b=some o)→RA K G' H' v a p) (N:=fun vs xs p=>AV.plains xs=true→(∀ b o,0<p b→H b=some o→H' b=some o)→RAs K G' H' vs xs p) (fun r e _ _=>.d (Rep.low hG r) e) (fun {a _ _ _ _} h i e hp hH=>.own (hH a _ (by have:=e a;simp at this;omega) h) (i (by simpa [AV.plain] using hp) fun b o z=>hH b o (by have:=e b;omega)) e)
  (fun h i hp hH=>.tup (hG _ _ h (by intro _ _ z;cases z)) (i (by simpa [AV.plain] using hp) hH)) (fun {a _ _ _} h d e _ hH=>.dic (hH a _ (by have:=e a;simp at this;omega) h) (d.low hG) e) (fun _ _ _ hp=>by simp[AV.plain] at hp) (fun e _ _=>.nil e) fun i j e hp hH=>by
   simp only[AV.plains,Bool.and_eq_true] at hp
   exact .cons (i hp.1 fun b o z=>hH b o (by have:=e b;omega)) (j hp.2 fun b o z=>hH b o (by have:=e b;omega)) e
theorem RA.low(hG:Low G G'){v:V}{a:AV}{p:Fp}(hp:a.plain=true)(hH:∀ b o,0<p b→H b=some o→H' b=some o)(h:RA K G H v a p):RA K G' H' v a p:=(RA.lowB hG).1 h hp hH
theorem RAs.low(hG:Low G G'){vs:List V}{xs:List AV}{p:Fp}(hp:AV.plains xs=true)(hH:∀ b o,0<p b→H b=some o→H' b=some o)(h:RAs K G H vs xs p):RAs K G' H' vs xs p:=(RA.lowB hG).2 h hp hH
theorem RA.there{v:V}{a:AV}{p:Fp}(h:RA K G H v a p):∀ b,0<p b→∃ o,H b=some o∧Mu o:=RA.lstB.1 h
theorem Rs.rel{C:Addr→Prop}{v:V}{c:AV}(hC:∀ b,C b→∃ o,H b=some (.frz o (.own b)))(hno:∀ b,C b→H' b=none)(r:Rs K (unl C H) H' v c):Rs K H (rel C H H') v c:=by
 obtain⟨sm,p,h1,h2,ra⟩:=r
 have up:∀ b o,H' b=some o→L2.rel C H H' b=some o:=fun b o e=>by
  rw[ZdA fun z=>by rw[hno b z] at e;cases e];exact e
 refine⟨fun b o e=>?_,p,h1,fun b z=>?_,ra.mono (fun b o e=>?_) fun b o _ e=>up b o e⟩
 ·by_cases hc:C b
  ·rw[ZgQ hc];exact e
  ·rw[ZdA hc];exact sm b o (by rw[ZaX hc];exact e)
 ·obtain⟨o,e,_⟩:=ra.there b z
  have hc:¬ C b:=fun y=>by rw[hno b y] at e;cases e
  have:=h2 b z
  rw[ZaX hc] at this
  exact this
 ·unfold VL.hid at e ⊢
  split at e
  ·rename_i y;rw[if_pos y];exact up b o e
  ·cases e
theorem Rs.unl{C:Addr→Prop}{H1:Hp}{v:V}{c:AV}(hp:c.plain=true)(hC:∀ b,C b→H1 b=none∧∃ o v,H b=some (.frz o (.own b))∧o.data=.cell v)(m:Same H1 H)(r:Rs K H H' v c):Rs K H1 (unl C H') v c:=by
 obtain⟨sm,p,h1,h2,ra⟩:=r
 have at':∀ b,C b→∃ o,H' b=some (.frz o (.own b)):=fun b z=>by
  obtain⟨_,o,_,e,_⟩:=hC b z
  exact⟨o,sm _ _ e⟩
 have lo:Low H' (L2.unl C H'):=fun b o e n=>Zci at' e fun ob z=>n ob b z
 refine⟨fun b o e=>?_,p,h1,fun b z=>?_,RA.low (fun b o e n=>?_) hp (fun b o z e=>?_) ra⟩
 ·have hc:¬ C b:=fun z=>by rw[(hC b z).1] at e;cases e
  rw[ZaX hc]
  exact sm b o (m b o e)
 ·have:=h2 b z
  cases e:H1 b with
  | none=>rfl
  | some o=>rw[m b o e] at this;cases this
 ·unfold VL.hid at e ⊢
  split at e
  ·rename_i y;rw[if_pos y];exact lo b o e n
  ·cases e
 ·obtain⟨o',e',mu⟩:=ra.there b z
  rw[e] at e'
  cases e'
  refine lo b o e fun ob c z=>?_
  subst z
  exact (show False from mu)
end
section
variable{Y:Cx}{CX:CXT}{k:Nat}{name qual:Str}{params:Arguments}{body:List Stmt}{scope:Scope}{Pt:Addr}{N ps:List Str}{cap:List (Option Nat)}{Pre:List AV→Prop}{Post:List AV→AV→Prop}{H0 H1 H2:Hp}{σ:L2.St}{ρ:Sl}{ts:List V}{as:List TV}{v:V}
theorem ZgV(S:FnScopeF N ps scope)(hcap:capOk Y.N Y.env.scope scope N cap=true)(hnf:∀ y∈Y.env.scope.names,y.2≠.free)(hfn:∀ x,Y.fn x=true)
  (hbind:∀ (cl:List (Str×Addr)) (doc pm ctv:Value) (c:Addr) (s:Shared) (us:List Value),us.length=ps.length→BindsTo s (PySem.W.fnX name qual params body scope cl .none .none doc pm none (.ref c) ctv) ⟨us,[]⟩ (ps.zip us))
  (hlen:∀ cs,Pre cs→cs.length=ps.length) (hdat:∀ cs,Pre cs→AV.plains cs=true)
  (hm:MadeAt Y name qual params body scope Pt v H1) (L:Lent Y σ H1 H2) (s:SR Y.K H0 σ ρ ts as H1)
  (hbody:∀ (cl:List (Str×Addr)) (f c:Addr) (A:Around) (outer:List Env) (s:Shared) (H:Hp) (E:XK),Room k (A.deeper (envF qual scope cl s.heap.objs.size f (.ref c))) →
   ∃ t,PSs (cxF CX Y.prog Y.w Y.K Y.mg Y.base N qual scope cl f (.ref c) A outer s H E).nox body t∧∀ cs,Pre cs→Sv Y.K (toF E) NE t (setV 0 cs (capV cap ρ)) (finR (Post cs))) :
  CloOk Y.prog Y.w Y.K Y.mg Y.base CX (k+1) (spR Y.K Pre Post NP) v H2:=by
 obtain⟨f,c,co,doc,pm,ctv,cl,rfl,C,hco,hc,hf⟩:=hm
 have own:∀ x d,cl.lookup x=some d→Own Y d:=fun x d e=>⟨x,hfn x,C.le x d e⟩
 refine Znu (σ:=capS cap σ) (G:=H2) S (L.same _ _ hf) (L.same _ _ hc) hco C.has C.inj (fun x d e=>(L.own d (own x d e)).2) (fun s us hl=>hbind cl doc pm ctv c s us hl) (fun vs H Q E h=>Zds h hlen) (fun h hh=>?_) fun A outer s' H vs Q E hr m hsp=>?_
 ·refine⟨by unfold capS;rw[List.length_map,Zcf hcap],fun i x w h1 h2=>?_⟩
  unfold capS at h2
  rw[List.getElem?_map] at h2
  cases e:cap[i]? with
  | none=>rw[e] at h2;cases h2
  | some o =>
   rw[e] at h2
   cases o with
   | none=>cases h2
   | some j =>
    have h2:(σ[j]?).join=some w:=Option.some.inj h2
    obtain⟨q1,q2,q3,q4⟩:=ZdI hcap h1 e
    have q5:σ[j]?=some (some w):=by
     cases es:σ[j]? with
     | none=>rw[es] at h2;cases h2
     | some w'=>rw[es] at h2;cases w' with
      | none=>cases h2
      | some w''=>have:some w''=some w:=h2;rw[this]
    have q2':Y.env.scope.names.lookup x=some .cell:=by
     rcases q2 with z|z
     ·exact z
     ·exact absurd rfl (hnf _ (PySem.mem_of_lookup z))
    obtain⟨d,hd⟩:=C.has x (PySem.mem_of_lookup q3)
    obtain⟨o,u,r1,r2,r3⟩:=L.cell j x d w q1 (hfn x) q2' (C.le x d hd) q5
    exact⟨q3,q4,d,o,u,hd,hh x d o hd r1,r2,r3⟩
 ·obtain⟨t,h1,h2⟩:=hbody cl f c A outer s' (unl (CellOf cl) H) E hr
  refine⟨t,h1,?_⟩
  obtain⟨tb,cs,rp,pre,q,_⟩:=hsp
  have hC:∀ b,CellOf cl b→∃ o,H b=some (.frz o (.own b)):=fun b ⟨x,e⟩=>by
   obtain⟨_,o,_,z,_⟩:=L.own b (own x b e)
   exact⟨o,m _ _ z⟩
  have lo:Low H (unl (CellOf cl) H):=fun b o e n=>Zci hC e fun ob z=>n ob b z
  have sm:Same H1 (unl (CellOf cl) H):=fun b o e=>by
   have hb:¬ CellOf cl b:=fun⟨x,z⟩=>by rw[(L.own b (own x b z)).1] at e;cases e
   rw[ZaX hb]
   exact m _ _ (L.same _ _ e)
  have r1:RAs Y.K (unl (CellOf cl) H) (unl (CellOf cl) H) vs cs Z0:=RAs.low lo (hdat cs pre) (fun b o z=>by simp[Z0] at z) rp
  have r2:RSl Y.K (unl (CellOf cl) H) (unl (CellOf cl) H) (capS cap σ) (capV cap ρ) Z0:=RSl.cap s sm cap
  have hl:vs.length≤(capV cap ρ).length:=by
   unfold capV
   rw[List.length_map,Zcf hcap,rp.len,hlen cs pre]
   have:=congrArg List.length S.pre
   rw[List.length_take] at this
   omega
  have tb':TabsIn (unl (CellOf cl) H):=fun p hp=>lo _ _ (tb p hp) fun _ _ z=>by cases z
  refine h2 cs pre _ _ [] [] _ _ Stb.nil (SR.startF r1 hl r2) (XOk.ne tb') ⟨fun ρ z σ' H' s'' hno=>?_,fun _ z=>z.elim,fun _ z=>z.elim,fun a ⟨c,r,z⟩ v σ' ρ' H' s'' hno=>?_⟩
  ·exact q _ z _ _ (Rs.rel hC hno (SR.rs (v:=.non) (s''.push fun _=>.non)))
  ·refine q _ z _ _ (Rs.rel hC hno ?_)
   rcases r with rfl|⟨nr,rfl⟩
   ·exact s''.rs
   ·refine⟨s''.same,fun _=>0,fun _=>by simp,fun b z=>by simp at z,.d ?_ fun _=>rfl⟩
    have hid0:VL.hid H' (fun _=>0) (fun _=>0)=H':=by funext b;simp[VL.hid]
    rw[hid0]
    exact s''.top nr
end
end VL
end
section
namespace VL
open PySem PySem.Spec PyProof.Rows L2
variable[Tabs]
inductive ShL(K:W.Frag)(Y:Cx)(ρ:Sl):TV→AV→Prop
 | d {b:TV} {x:PyData}:NR b→b.data=x→ShL K Y ρ b (.d x)
 | o {φ ψ:V→Hp→Prop}:(∀ v G1 G2,Same G1 G2→ψ v G1→ψ v G2)→(∀ (H0:Hp) (σ:L2.St) (ts:List V) (as:List TV) (H1 H2:Hp) (v:V),SR K H0 σ ρ ts as H1→Lent Y σ H1 H2→φ v H1→ψ v H2)→ShL K Y ρ (.av (.obj φ)) (.obj ψ)
inductive ShLs(K:W.Frag)(Y:Cx)(ρ:Sl):List TV→List AV→Prop
 | nil:ShLs K Y ρ [] []
 | cons {b:TV} {c:AV} {bs:List TV} {cs:List AV}:ShL K Y ρ b c→ShLs K Y ρ bs cs→ShLs K Y ρ (b::bs) (c::cs)
section
variable{K:W.Frag}{Y:Cx}{H0 H1 H2:Hp}{σ:L2.St}{ρ:Sl}{ts:List V}{as:List TV}
theorem SR.lentL(L:Lent Y σ H1 H2):∀ {vs:List V} {bs:List TV} {cs:List AV},ShLs K Y ρ bs cs→vs.length=bs.length→SR K H0 σ ρ (vs++ts) (bs++as) H1→RAs K H2 H2 vs cs Z0∧SR K H0 σ ρ ts as H1
 | [],_,_,.nil,_,s=>⟨.nil fun _=>rfl,s⟩
 | [],_,_,.cons _ _,e,_=>by simp at e
 | v::vs,_,_,.nil,e,_=>by simp at e
 | v::vs,b::bs,c::cs,.cons h t,e,s=>by
  have s':SR K H0 σ ρ (v::(vs++ts)) (b::(bs++as)) H1:=s
  obtain⟨r,s2⟩:=SR.lentL L t (by simpa using e) s'.pop
  refine⟨.cons (p:=Z0) (q:=Z0) ?_ r fun _=>rfl,s2⟩
  cases h with
  | d nr ed=>exact .d (ed▸(s'.top nr).same L.same) fun _=>rfl
  | o mono up =>
   refine .obj (up H0 σ ts as H1 H2 v s2 L ?_) (mono v) fun _=>rfl
   obtain⟨⟨p,q,h1,h2,h3,h4⟩,sm⟩:=s'
   cases h2 with
   | cons r rs e=>cases r with
    | av r=>cases r with
     | obj h m z=>exact m _ _ Zbu h
variable{E:FK}{X:Exc→Sl→Prop}{Q:TV→Prop}{Pre:List AV→Prop}{Post:List AV→AV→Prop}
end
section
variable{P:Program}{w:World}{K:W.Frag}{mg:Str→Option Value}{base:Heap}{CX:CXT}{x qual:Str}{st:Stmt}{N ps:List Str}{k:Nat}
noncomputable def Zd2(K:W.Frag):Sp:=fun vs H Q _=>TabsIn H∧∃ (a:Addr) (ns:List Int),vs=[.ref a]∧SqL K H a (ns.map V.int)∧ns.length≤63∧(∀ x∈ns,Builtin.Int.intBits x≤2 ^ 20)∧∀ H',Same H H'→Q (.bl true) H'
theorem ZjP{f:Addr}{fd:FuncData}{dV:Value}(F:FunD K x qual st dV f fd)(Sc:FnScope N ps (defScope st))(hps:ps.length=1)
  (hbody:∀ (cdv:Value) (A:Around) (outer:List Env) (s:Shared) (H:Hp) (E:XK),Room k (A.deeper (envOfC qual (defScope st) s.heap.objs.size f cdv)) →
   ∃ t,PSs (cxOf CX P w K mg base N qual (defScope st) f cdv A outer s H E).nox (defBody st) t∧∀ ns:List Int,ns.length≤63→(∀ x∈ns,Builtin.Int.intBits x≤2 ^ 20)→Sv K (toF E) NE t (ini N [dI ns]) (fin (.d (.bool true)))) :
  FnOk P w K mg base CX (k+1) f fd ps (Zd2 K):=by
 refine F.ok (k:=k) Sc (fun vs H Q E h=>?_) fun cdv A outer s H vs Q E hr h=>?_
 ·obtain⟨_,a,ns,rfl,_⟩:=h
  exact hps.symm
 ·obtain⟨tb,a,ns,rfl,hS,hl,hb,q⟩:=h
  obtain⟨t,h1,h2⟩:=hbody cdv A outer s H E hr
  refine⟨t,h1,ZgF (E:=E) (S:=fun ds c=>∃ ns:List Int,ds=[dI ns]∧(ns.length≤63∧∀ x∈ns,Builtin.Int.intBits x≤2 ^ 20)∧c=.d (.bool true)) ⟨tb,[dI ns],.cons (.ints hS) .nil,.inl ⟨_,⟨ns,rfl,⟨hl,hb⟩,rfl⟩,fun v H' r=>?_⟩⟩ fun ds c hc=>?_⟩
  ·obtain⟨sm,p,_,_,ra⟩:=r
   cases ra with
   | d rp _=>rw[Rep.bl_inv rp];exact q _ sm
  ·obtain⟨ns,rfl,⟨hl,hb⟩,rfl⟩:=hc
   exact h2 ns hl hb
end
end VL
namespace L2
open PySem PySem.Spec PySem.Calls PyProof.Rows PySem.W
noncomputable def H00(ts:List (Addr×(Nat→Nat→Str)))(sc:Option (Addr×HO)):Hp:=fun b=>match ts.lookup b with
 | some q=>some (.tbq q)
 | none=>match sc with
  | some (a,o)=>if b=a then some o else none
  | none=>none
theorem Zix{ts:List (Addr×(Nat→Nat→Str))}(nd:(ts.map Prod.fst).Nodup){p:Addr×(Nat→Nat→Str)}(h:p∈ts):ts.lookup p.1=some p.2:=by
 induction ts with
 | nil=>cases h
 | cons q r ih =>
  rw[List.map_cons,List.nodup_cons] at nd
  rw[show (q::r)=((q.1,q.2)::r) from rfl,List.lookup_cons]
  rcases List.mem_cons.mp h with e|h
  ·subst e
   rw[beq_self_eq_true]
  ·have hne:p.1≠q.1:=fun z=>nd.1 (z▸List.mem_map_of_mem h)
   rw[beq_false_of_ne hne]
   exact ih nd.2 h
theorem ZbY{ts:List (Addr×(Nat→Nat→Str))}{b:Addr}{q:Nat→Nat→Str}(h:ts.lookup b=some q):(b,q)∈ts:=by
 induction ts with
 | nil=>cases h
 | cons p r ih =>
  rw[show (p::r)=((p.1,p.2)::r) from rfl,List.lookup_cons] at h
  cases e:b == p.1 with
  | true =>
   rw[e] at h
   cases h
   rw[beq_iff_eq.mp e]
   exact .head _
  | false=>rw[e] at h;exact .tail _ (ih h)
theorem Ziy{P:Program}{w:World}{K:W.Frag}{mg mb:Str→Option Value}{CX:CXT}{k:Nat}{fa a:Addr}{fd:FuncData}{x:Str}{sp:Sp}{s₁:Shared}{vs:List Value}{ns:List Int}{ts:List (Addr×(Nat→Nat→Str))}
  (nd:(ts.map Prod.fst).Nodup) (KX:K.In s₁.heap) (hns:s₁.heap.Ns mainGlobals mg) (hb:s₁.heap.Ns builtinsNs mb) (hbb:∀ x:Str,x ≠ "__name__" → mb x=bootBuiltins x) (hlim:s₁.heap.NoLimit) (hg:s₁.gens=#[])
  (ha:s₁.heap.get? a=some { cls:=.type "list",data:=.seq vs.toArray }) (hi:IntsAre vs ns) (hl:ns.length≤sizeLine) (hr:Room k callerA)
  (hts:∀ p∈ts,s₁.heap.get? p.1=some (tabObj #[])∧K.lookup p.1=none∧isCodeTable s₁.heap p.1) (hbm:s₁.heap.BuiltinsAt mg mainGlobals)
  (F:∀ base:Heap,K.In base→base.Ns mainGlobals mg→base.BuiltinsAt mg mainGlobals→FnOk P w K mg base CX k fa fd [x] sp) (hbind:∀ (s:Shared) (u:Value),BindsTo s fd ⟨[u],[]⟩ [(x,u)])
  (hsp:∀ H:Hp,(∀ p∈ts,H p.1=some (.tbq p.2))→SqL K H a (ns.map V.int)→sp [.ref a] H (fun v H'=>v=.bl true∧Same H H') fun _ _ _=>False)
  (hCX:∀ H e s',CX [] H s₁ (fun _ _ _=>False) e s'→False) :
  codeAny (model P w) callerA (.call (.ref fa) ⟨[.ref a],[]⟩) (fun r s'=>r=.ok (.ret (.bool true))∧OldK s₁.heap s'.heap∧s'.os=s₁.os∧AllBare s'.gens) s₁:=by
 have rv:=Zfo hi
 have lenV:=hi.length
 have core:∀ H:Hp,(∀ p∈ts,H p.1=some (.tbq p.2))→SqL K H a (ns.map V.int)→HOk P w H s₁.heap→(∀ b o,H b=some o→(∃ p∈ts,b=p.1)∨(b=a∧∃ ob u,o=.frz ob u))→(∀ b o,H b=some o→K.lookup b=none) →
   codeAny (model P w) callerA (.call (.ref fa) ⟨[.ref a],[]⟩) (fun r s'=>r=.ok (.ret (.bool true))∧OldK s₁.heap s'.heap∧s'.os=s₁.os∧AllBare s'.gens) s₁:=by
  intro H hT hS hok hA hK
  have noA:∀ {b:Addr} {o:Obj},s₁.heap.get? b=some o→(∀ vs n,o.data≠.seq vs n)→(∀ vs,o.data≠.fields vs)→H b=none:=fun {b o} e n1 n2=>by
   cases q:H b with
   | none=>rfl
   | some u =>
    rcases hA b u q with⟨p,hp,rfl⟩|⟨rfl,_⟩
    ·rw[(hts p hp).1] at e
     cases e
     exact absurd rfl (n2 _)
    ·rw[ha] at e
     cases e
     exact absurd rfl (n1 _ _)
  have nsK:∀ {b:Addr} {m:Str→Option Value},s₁.heap.Ns b m→(hidT s₁.heap H).Ns b m:=fun {b m} ⟨o,es,ep,e,d,r⟩ =>
   ⟨o,es,ep,ZeG e (noA e (fun _ _ z=>by rw[d] at z;cases z) fun _ z=>by rw[d] at z;cases z),d,r⟩
  have hKb:K.In (hidT s₁.heap H):=fun b o e=>ZeG (KX b o e) (by
   cases q:H b with
   | none=>rfl
   | some u=>rw[hK b u q] at e;cases e)
  have hM:Mod K mg (hidT s₁.heap H):=⟨hKb,nsK hns,⟨mb,nsK hb,hbb⟩,let ⟨mc,h1,h2⟩:=hlim;⟨mc,nsK h1,h2⟩⟩
  have hB:(hidT s₁.heap H).BuiltinsAt mg mainGlobals:=by
   obtain⟨bm,o,b1,b2,b3,b4,b5,b6,b7,b8⟩:=hbm
   exact⟨bm,o,b1,b2,b3,b4,ZeG b5 (noA b5 (fun _ _ z=>by rw[b8] at z;cases z) fun _ z=>by rw[b8] at z;cases z),b6,b7,b8⟩
  have e0:Env0 P w K mg (hidT s₁.heap H) callerA [] s₁ H:=⟨rfl,hM,fun b o e=>ZkO e,Nat.le_of_eq (ZhB _ _),trivial,fun b hb=>absurd (show b∈([]:List Addr) from hb) (by simp),hok,.of_eq hg⟩
  refine codeAny_mono ((F _ hKb (nsK hns) hB).run callerA [] s₁ H ⟨[.ref a],[]⟩ [.ref a] [.ref a] _ _ hr e0 (hbind s₁ (.ref a)) (.cons rfl .nil) (hsp H hT hS)) fun r s' h=>?_
  cases r with
  | error e=>exact (hCX H e s' h).elim
  | ok fl =>
   cases fl with
   | next=>exact False.elim h
   | brk=>exact False.elim h
   | cont=>exact False.elim h
   | ret u =>
    obtain⟨v,H',os,bare,un,hok',r',q',sm⟩:=h
    subst q'
    obtain rfl:u=Value.bool true:=r'
    refine⟨rfl,⟨fun b o e=>?_,fun b o e=>un.there b o e (by simp)⟩,os,bare⟩
    cases q:H b with
    | none=>exact .inl (un.keep b o e q (by intro z;exact absurd (show b∈([]:List Addr) from z) (by simp)) (by simp))
    | some u =>
     rcases hA b u q with⟨p,hp,rfl⟩|⟨rfl,ob,y,rfl⟩
     ·obtain⟨e1,_,e3⟩:=hts p hp
      rw[e1] at e
      cases e
      obtain⟨ps,e4,_⟩:=hok' p.1 _ (sm _ _ (hT p hp))
      exact .inr (.inl ⟨e3,rfl,#[],ps,rfl,by rw[Array.empty_append];exact e4⟩)
     ·have e1:=(hok b _ q).1
      have e2:=(hok' b _ (sm _ _ q)).1
      rw[e] at e1
      cases e1
      exact .inl e2
 have naT:∀ p∈ts,p.1≠a:=fun p hp z=>by
  have:=(hts p hp).1
  rw[z,ha] at this
  cases this
 have lka:ts.lookup a=none:=by
  cases e:ts.lookup a with
  | none=>rfl
  | some q=>exact absurd rfl (naT _ (ZbY e))
 have tbl:∀ {sc:Option (Addr×HO)} {b:Addr} {q:Nat→Nat→Str},ts.lookup b=some q→ObjOk P w (H00 ts sc) s₁.heap b (.tbq q):=fun {sc b q} e =>
  ⟨#[],(hts _ (ZbY e)).1,trivial,fun pos cv z=>by simp[codeAmong] at z⟩
 have hT:∀ sc,∀ p∈ts,H00 ts sc p.1=some (.tbq p.2):=fun sc p hp=>by unfold H00;rw[Zix nd hp]
 cases hk:K.lookup a with
 | some o =>
  have e:=KX a o hk
  rw[ha] at e
  cases e
  refine core (H00 ts none) (hT none) (.inr ⟨_,vs.toArray,_,hk,rfl,rfl,rfl,by rw[List.size_toArray,lenV];exact hl,by simpa using rv⟩) (fun b u z=>?_) (fun b u z=>?_) fun b u z=>?_
  ·unfold H00 at z
   cases e:ts.lookup b with
   | none=>rw[e] at z;cases z
   | some q=>rw[e] at z;cases z;exact tbl e
  ·unfold H00 at z
   cases e:ts.lookup b with
   | none=>rw[e] at z;cases z
   | some q=>exact .inl ⟨_,ZbY e,rfl⟩
  ·unfold H00 at z
   cases e:ts.lookup b with
   | none=>rw[e] at z;cases z
   | some q=>exact (hts _ (ZbY e)).2.1
 | none =>
  have hsa:H00 ts (some (a,.frz { cls:=.type "list",data:=.seq vs.toArray } (.lst (ns.map V.int)))) a=some (.frz { cls:=.type "list",data:=.seq vs.toArray } (.lst (ns.map V.int))):=by
   unfold H00;rw[lka];exact if_pos rfl
  refine core (H00 ts (some (a,.frz { cls:=.type "list",data:=.seq vs.toArray } (.lst (ns.map V.int))))) (hT _) (.inl (.inr ⟨_,hsa⟩)) (fun b u z=>?_) (fun b u z=>?_) fun b u z=>?_
  ·by_cases hb:b=a
   ·subst hb
    rw[hsa] at z
    cases z
    exact⟨ha,by rw[List.length_map];exact hl,vs,_,rv,ha⟩
   ·unfold H00 at z
    cases e:ts.lookup b with
    | none=>rw[e] at z;have z':=(if_neg hb).symm.trans z;cases z'
    | some q=>rw[e] at z;cases z;exact tbl e
  ·by_cases hb:b=a
   ·subst hb
    rw[hsa] at z
    cases z
    exact .inr ⟨rfl,_,_,rfl⟩
   ·unfold H00 at z
    cases e:ts.lookup b with
    | none=>rw[e] at z;have z':=(if_neg hb).symm.trans z;cases z'
    | some q=>exact .inl ⟨_,ZbY e,rfl⟩
  ·by_cases hb:b=a
   ·rw[hb];exact hk
   ·unfold H00 at z
    cases e:ts.lookup b with
    | none=>rw[e] at z;have z':=(if_neg hb).symm.trans z;cases z'
    | some q=>exact (hts _ (ZbY e)).2.1
theorem ZjQ{l:PySem.W.OpenLaw}{n k:Nat}{q:Program}{loose:List Str}{XP:(Str→Option Value)→Heap→Prop}{YP:World→Heap→Prop}{d:DefRec}{K:Params→W.Frag}{CX:World→CXT}{sp:World→Sp}{x:Str}{ts:List (Addr×(Nat→Nat→Str))}
  (nd:(ts.map Prod.fst).Nodup) (hn:l.most=some n) (hn2:n≤sizeLine) (hdf:d.params.defaults=[]) (hr:Room k callerA)
  (hY:∀ (w:World) (h:Heap),YP w h→(K w.params).In h) (hYt:∀ (w:World) (h:Heap),YP w h→∀ p∈ts,h.get? p.1=some (tabObj #[])) (hK:∀ (w:World) (p:Addr×(Nat→Nat→Str)),p∈ts→(K w.params).lookup p.1=none∧∃ c,codeHdIn (K w.params) c p.1=true)
  (F:∀ (w:World) (mg:Str→Option Value) (fa:Addr) (h:Heap),(K w.params).In h→h.Ns mainGlobals mg→mg d.name=some (.ref fa) →
   ∃ fd:FuncData,(∀ (s:Shared) (u:Value),BindsTo s fd ⟨[u],[]⟩ [(x,u)]) ∧
    ∀ base:Heap,(K w.params).In base→base.Ns mainGlobals mg→base.BuiltinsAt mg mainGlobals→FnOk l.prog w (K w.params) mg base (CX w) k fa fd [x] (sp w))
  (hsp:∀ (w:World) (H:Hp) (a:Addr) (ns:List Int),ns.length≤n→(∀ x∈ns,Builtin.Int.intBits x≤2 ^ 20)→(∀ p∈ts,H p.1=some (.tbq p.2))→SqL (K w.params) H a (ns.map V.int)→sp w [.ref a] H (fun v H'=>v=.bl true∧Same H H') fun _ _ _=>False)
  (hCX:∀ (w:World) (H:Hp) (s:Shared) (e:Value) (s':Shared),CX w [] H s (fun _ _ _=>False) e s'→False) :
  PySem.W.WalkO q loose XP YP l.row.toRowW d [] (fun f vs=>PySem.call f vs):=by
 refine ZfC hn hdf fun w s₀ s₁ mg mb fa o pm cd doc a vs ns G Y ho hd hcd hmg hobj hints hlen hg hbits=>?_
 have KX:=hY w _ Y
 obtain⟨fd,hb,hF⟩:=F w mg fa _ KX G.T.g hmg
 have hbm:s₁.heap.BuiltinsAt mg mainGlobals:=by
  obtain⟨bm,ob,b1,b2,b3,b4,b5,b6⟩:=G.T.bmain
  have hne:bm≠mainGlobals:=fun z=>by
   obtain⟨o,es,ep,e,d,_⟩:=G.T.g
   rw[z,e] at b3
   cases b3
   rw[d] at b6
   cases b6
  exact⟨bm,ob,b1,b2,hne,hne,b3,b4,b5,b6⟩
 refine Ziy nd KX G.T.g G.T.b G.T.builtins G.T.nolimit hg hobj hints (Nat.le_trans hlen hn2) hr (fun p hp=>?_) hbm hF hb (fun H hT hS=>hsp w H a ns hlen hbits hT hS) fun H e s'=>hCX w H s₁ e s'
 obtain⟨h1,c,h2⟩:=hK w p hp
 have h3:=hYt w _ Y p hp
 exact⟨h3,h1,((codeHd_of_K KX h2).tab h3).isCodeTable⟩
end L2
end
section
namespace L2
open PySem PySem.Spec PyProof.Rows
section
variable{X:Cx}{pins:List (Addr×Obj)}{σ:St}{H:Hp}{s:Shared}{a:Addr}{y v:V}{u r:Value}{A:Around}{E:Value→Shared→Prop}
theorem Ziz{H':Hp}{Q:Unit→Shared→Prop}(hu:A.units+1<cLine)(I:Inv X pins σ H s)(g:DPut H a y v H')(ry:RelV y u)(rv:RelV v r)(h:∀ s',Inv X pins σ H' s'→Q () s') :
  wpAny (model X.prog X.w) A (dictSet a u r) Q E s:=by
 rcases g with⟨kvs,k,e,ey,l,eH⟩|⟨kvs,k,b,e,ey,eb,l,eH⟩
 ·subst ey eH
  obtain⟨z,hd,vs,rel,dd⟩:=Zmq I.hok e
  have hz:vs.length≤sizeLine:=by rw[← rel.length];exact z
  have hl:(putK kvs k v).length≤sizeLine:=by have:=Za8 kvs k v;omega
  refine wpAny_dictSet_pairs (hsz:=hz) (Zf0 ry) dd fun h' dd' hs=>h _ ?_
  have he:∃ q,h'.get? a=some q:=let ⟨q,_,_,hq,_⟩:=dd';⟨q,hq⟩
  exact Zbb I (by rw[e];exact True.intro) hs he (Zko hl hd (rel.put k rv) dd')
 ·subst ey eH
  cases (show u=Value.ref b from ry)
  obtain⟨z,hd,xs,rel,dd⟩:=ZkY I.hok e
  have hz:xs.length≤sizeLine:=by rw[← Paired.length rel];exact z
  have hl:(putK kvs k v).length≤sizeLine:=by have:=Za8 kvs k v;omega
  refine wpAny_dictSet_heap (hsz:=hz) (show A.units<cLine by omega) (Zdy I.hok eb) dd fun h' dd' hs=>h _ ?_
  obtain⟨q,es,ep,hq,h2,h3,h4,_,h5⟩:=dd'
  refine Zbb I (by rw[e];exact True.intro) hs ⟨q,hq⟩ ⟨hl,hd,_,(rel.put k eb rv).keeps fun c ys ec=>?_,q,es,ep,hq,h2,h3,h4,h5⟩
  rw[Zaf (Zej ec e (fun z=>nomatch z))]
  exact ec
theorem ZiA{kvs:List ((Key×List Key)×V)}{k:Key×List Key}{b:Addr}{Q:Unit→Shared→Prop}(hu:A.units+2<cLine)(I:Inv X pins σ H s)(e:H a=some (.dN kvs))(eb:KeyN H b k)(l:kvs.length<sizeLine)(ry:RelV (.ref b) u)(rv:RelV v r)(h:∀ s',Inv X pins σ (upd H a (.dN (putK kvs k v))) s'→Q () s') :
  wpAny (model X.prog X.w) A (dictSet a u r) Q E s:=by
 cases (show u=Value.ref b from ry)
 obtain⟨z,hd,xs,rel,dd⟩:=ZhZ I.hok (.inl e)
 have hz:xs.length≤sizeLine:=by rw[← Paired.length rel];exact z
 have hl:(putK kvs k v).length≤sizeLine:=by have:=Za8 kvs k v;omega
 refine wpAny_dictSet_heap (hsz:=hz) (show (pairKind (mixKind X.prog X.w)).room A from ⟨by omega,by show A.units+1<cLine;omega⟩) (Zdq I.hok eb) dd fun h' dd' hs=>h _ ?_
 obtain⟨q,es,ep,hq,h2,h3,h4,_,h5⟩:=dd'
 refine Zbb I (by rw[e];exact True.intro) hs ⟨q,hq⟩ ⟨hl,hd,_,(rel.put k eb rv).keeps fun c ys ec=>?_,q,es,ep,hq,h2,h3,h4,h5⟩
 rw[Zaf (Zej ec e (fun z=>nomatch z))]
 exact ec
theorem ZlD{H':Hp}{Q:Unit→Shared→Prop}(hu:A.units+2<cLine)(I:Inv X pins σ H s)(g:DPut0 H a y v H')(ry:RelV y u)(rv:RelV v r)(h:∀ s',Inv X pins σ H' s'→Q () s') :
  wpAny (model X.prog X.w) A (dictSet a u r) Q E s:=by
 have big:([]:List (Key×V)).length<sizeLine:=by decide
 have big':([]:List (List Key×V)).length<sizeLine:=by decide
 rcases g with g|⟨k,rfl,e,rfl⟩|⟨k,b,rfl,eb,e,rfl⟩|⟨kvs,k,b,e,rfl,eb,l,rfl⟩|⟨k,b,rfl,eb,e,rfl⟩
 ·exact Ziz (by omega) I g ry rv h
 ·have x:=I.hok a _ e
  obtain⟨q,hq⟩:∃ q,s.heap.get? a=some q:=by obtain⟨_,_,_,_,q,_,_,hq,_⟩:=x;exact⟨q,hq⟩
  have J:Inv X pins σ (upd H a (.dK [])) s:=Zbb (t':=s.toks) I (by rw[e];exact True.intro) (Heap.SameBut.refl a s.heap) ⟨q,hq⟩ (ZjB x)
  refine Ziz (by omega) J (DPut.k (k:=k) (v:=v) Zak big) ry rv fun s' J'=>h s' ?_
  rw[ZcI] at J'
  exact J'
 ·have x:=I.hok a _ e
  obtain⟨q,hq⟩:∃ q,s.heap.get? a=some q:=by obtain⟨_,_,_,_,q,_,_,hq,_⟩:=x;exact⟨q,hq⟩
  have J:Inv X pins σ (upd H a (.dT [])) s:=Zbb (t':=s.toks) I (by rw[e];exact True.intro) (Heap.SameBut.refl a s.heap) ⟨q,hq⟩ (Zk8 x)
  refine Ziz (by omega) J (DPut.t (k:=k) (v:=v) Zak (by rw[Zaf (Zej eb e (fun z=>nomatch z))];exact eb) big') ry rv fun s' J'=>h s' ?_
  rw[ZcI] at J'
  exact J'
 ·exact ZiA hu I e eb l ry rv h
 ·have x:ObjOk X.prog X.w H s.heap a (.dK []):=by
   rcases e with e|e
   ·exact I.hok a _ e
   ·exact ZjB (I.hok a _ e)
  obtain⟨q,hq⟩:∃ q,s.heap.get? a=some q:=by obtain⟨_,_,_,_,q,_,_,hq,_⟩:=x;exact⟨q,hq⟩
  have mu:Mut (H a):=by rcases e with e|e<;>rw[e]<;>exact True.intro
  have J:Inv X pins σ (upd H a (.dN [])) s:=Zbb (t':=s.toks) I mu (Heap.SameBut.refl a s.heap) ⟨q,hq⟩ (Zmx x)
  have nt:∀ c ys,H c=some (.tup ys)→upd H a (.dN []) c=some (.tup ys):=fun c ys ec=>by
   rw[Zaf (by rcases e with e|e<;>exact Zej ec e (fun z=>nomatch z))];exact ec
  refine ZiA hu J Zak (let ⟨c,e1,e2⟩:=eb;⟨c,nt _ _ e1,nt _ _ e2⟩) (by decide) ry rv fun s' J'=>h s' ?_
  rw[ZcI] at J'
  exact J'
end
noncomputable def tDisp1(tk tv:TE):TE:=fun σ H Q=>∀ p,H p=none→tk σ (upd H p (.dK [])) fun x H1=>tv σ H1 fun y H2=>∃ H',DPut0 H2 p x y H'∧Q (.ref p) H'
theorem ZjR{X:Cx}{k v:Expr}{tk tv:TE}{pos:Pos}(hu:X.A.units+64<cLine)(hk:PE X k tk)(hv:PE X v tv):PE X (.Dict [some k] [v] pos) (tDisp1 tk tv):=by
 intro pins s σ H Q I q
 have hn:=I.hok.fresh (Nat.le_refl s.heap.objs.size)
 have I1:=I.laid (a:=s.heap.objs.size) (o:=.dK []) (h':=s.heap.push { cls:=.type "dict",data:=.dict #[] }) (t':=s.toks) (fun _ _ q=>Heap.get?_push_of_some _ q) (Nat.le_refl _) (Zgx s.heap I.big)
 refine wpAny_Dict_any rfl rfl (by simp) (by show 1≤15;decide) ?_
 refine pairTrees_cons_walk (thn (hk pins _ σ _ _ I1 (q _ hn)) fun u s1 ⟨x,H1,I2,rx,q1⟩=>thn (hv pins s1 σ H1 _ I2 q1) fun w2 s2 ⟨y,H2,I3,ry,H',g,q2⟩=>pairTrees_nil_walk ?_)
 unfold storeAll
 rw[List.forIn_cons]
 refine wpAny_bind (wpAny_bind (ZlD (by omega) I3 g rx ry fun s' J=>wpAny_pure ?_))
 show wpAny _ _ (forIn [] PUnit.unit _) _ _ _
 rw[List.forIn_nil]
 exact wpAny_pure ⟨.ref s.heap.objs.size,H',J,rfl,q2⟩
noncomputable def tAsgD(tk tv:TE)(n:Nat):TS:=tAsg (tDisp1 tk tv) (gName n)
theorem ZlE{X:Cx}{i:Nat}{x:Str}{e:Expr}{tk tv:TE}{pos pos':Pos}(hN:X.N.Nodup)(hi:X.N[i]?=some x)(hx:Loc X.env.scope x)(he:PE X e (tDisp1 tk tv))(hs:swapsWith e (some (.Name x pos')) pos.line X.env=pure false:=by rfl)(hf:X.fn x=true∨X.env.scope.names.lookup x=some .local:=by first|exact .inl rfl|exact .inr rfl|assumption) :
  PS X (.Assign [.Name x pos'] e pos) (tAsgD tk tv i):=Zag hN hi hx he hs hf
noncomputable def tLsRg(ta:TA):TE:=fun σ H Q=>ta σ H fun vs H1=>∃ j:Int,vs=[.int j]∧-(2 ^ 62)≤j∧j≤1000000∧∀ p,H1 p=none→Q (.ref p) (upd H1 p (.lst ((List.range j.toNat).map fun i:Nat=>V.int (i:Int))))
theorem ZfD:∀ (l:List Value) (k:Nat),(∀ (i:Nat) (v:Value),l[i]?=some v→∃ t,v=Value.int ((k+i:Nat):Int) t)→Vals ((List.range' k l.length).map fun i:Nat=>V.int (i:Int)) l
 | [],_,_=>.nil
 | u::l,k,h=>by
  rw[List.length_cons,List.range'_succ,List.map_cons]
  refine .cons (h 0 u rfl) (ZfD l (k+1) fun i v e=>?_)
  obtain⟨t,z⟩:=h (i+1) v (by simpa using e)
  exact⟨t,by rw[z];congr 2;omega⟩
theorem Zga{n:Nat}{acc:Array Value}(h:ItemsOf (fun i v=>∃ t,v=.int ((0:Int)+(i:Int)*1) t) acc n):Vals ((List.range n).map fun i:Nat=>V.int (i:Int)) acc.toList:=by
 obtain⟨h0,h2⟩:=h
 have:=ZfD acc.toList 0 fun i v e=>by
  obtain⟨t,z⟩:=h2 i v (by simpa using e)
  exact⟨t,by rw[z];congr 1;omega⟩
 rw[Array.length_toList,h0,← List.range_eq_range'] at this
 exact this
theorem ZfE{X:Cx}{e:Expr}{ta:TA}{p p2 pos pos2:Pos}(hc:X.calm=true)(hg:Gl X "list")(hm:X.mg "list" = none)(hg2:Gl X "range")(hm2:X.mg "range" = none)(ha:PA X [e] ta)
  (hs:starEach [e] X.env=[(false,eval e X.env)]:=by rfl) (hs2:starEach [.Call (.Name "range" p2) [e] [] pos2] X.env=[(false,eval (.Call (.Name "range" p2) [e] [] pos2) X.env)]:=by rfl) :
  PE X (.Call (.Name "list" p) [.Call (.Name "range" p2) [e] [] pos2] [] pos) (tLsRg ta):=by
 intro pins s σ H Q I h
 refine wpAny_Call_Name_kw (ZcD I hg hm PyProof.Rows.boot_list ?_)
 refine PyProof.Rows.callWith_type1 ?_ hs2 rfl
 rw[hs2]
 show wpAny _ _ (spliced ((false,eval (.Call (.Name "range" p2) [e] [] pos2) X.env)::[])) _ _ s
 refine Calls.spliced_cons ?_
 refine wpAny_Call_Name_kw (ZcD I hg2 hm2 boot_range ?_)
 refine PyProof.Rows.callWith_type1 (thn (ha pos2 pins s σ H _ I h) fun us s1 ⟨vs,H1,I1,r1,q1⟩=>?_) hs rfl
 obtain⟨j,e,q1,q2,q⟩:=q1
 subst e
 cases r1 with
 | cons r rr =>
  cases rr
  obtain⟨t,rfl⟩:=r
  refine call_range_1 ?_
  refine Calls.spliced_nil ?_
  have hsz:(s1.heap.push { cls:=.type "range",data:=.fields #[.int 0 s1.toks,.int j t,.int 1 (s1.toks+1)] }).objs.size=s1.heap.objs.size+1:=Heap.size_push ..
  refine call_list_range (n:=j.toNat) (I1.ok.hd hc) (IsRange.new ..) (small_one (by decide) (by decide) (by omega) (by omega)) ?_ (by omega) fun h' tk acc c hk hD hI=>?_
  ·rw[rangeSize_one];split<;>omega
  ·have hl':H1 (s1.heap.objs.size+1)=none:=I1.hok.fresh (Nat.le_succ _)
   have hD2:h'.get? (s1.heap.objs.size+1)=some { cls:=.type "list",dict:=none,data:=.seq acc c,slots:=#[] }:=by
    rw[← hsz];exact hD
   have I2:Inv X pins σ (upd H1 (s1.heap.objs.size+1) (.lst ((List.range j.toNat).map fun i:Nat=>V.int (i:Int)))) { s1 with heap:=h',toks:=tk }:=by
    refine I1.laid (t':=tk) (o:=.lst ((List.range j.toNat).map fun i:Nat=>V.int (i:Int))) (fun b u e=>hk b u (Heap.get?_push_of_some _ e)) (Nat.le_succ _) ⟨?_,acc.toList,c,Zga hI,by simpa using hD2⟩
    rw[List.length_map,List.length_range,sizeLine_eq]
    omega
   refine⟨.ref (s1.heap.objs.size+1),_,I2,?_,q _ hl'⟩
   show Value.ref _=Value.ref _
   rw[show ({ s1 with heap:=s1.heap.push { cls:=.type "range",data:=.fields #[.int 0 s1.toks,.int j t,.int 1 (s1.toks+1)] },toks:=s1.toks+1+1 }:Shared).heap.objs.size=s1.heap.objs.size+1 from hsz]
end L2
namespace VL
open PySem PySem.Spec PyProof.Rows L2
variable[Tabs]
section
variable{K:W.Frag}{E:FK}{X:Exc→Sl→Prop}{ρ:Sl}{Q:TV→Prop}{te:TE}{A:TA}
theorem SR.pints{H0 H:Hp}{σ:L2.St}{ts:List V}{as:List TV}(s:SR K H0 σ ρ ts as H):∀ ns:List Int,SR K H0 σ ρ (ns.map V.int++ts) ((ns.map fun k=>AV.d (.int k)).map TV.av++as) H
 | []=>s
 | n::ns=>(SR.pints s ns).push fun _=>.int n
noncomputable abbrev rgI(n:Nat):List Int:=(List.range n).map fun i:Nat=>(i:Int)
theorem ZlF(h:Ea K E X A ρ fun bs=>∃ j:Int,bs=[.av (.d (.int j))]∧(-(2 ^ 62)≤j∧j≤1000000)∧Q (.av (.own ((rgI j.toNat).map fun k=>AV.d (.int k))))):Ev K E X (tLsRg A) ρ Q:=fun H0 σ ts as H QV s x k =>
 h H0 σ ts as H _ s x fun bs ⟨j,eb,hj,q⟩ vs H' s' hl=>by
  subst eb
  obtain⟨v,rfl,s'⟩:=ZbX s' hl
  obtain rfl:=s'.top_d.int_inv
  refine⟨j,rfl,hj.1,hj.2,fun p hp=>k _ q _ _ ?_⟩
  have:=SR.new (s'.pop.pints (rgI j.toNat)) (by simp) hp
  have e:(rgI j.toNat).map V.int=(List.range j.toNat).map fun i:Nat=>V.int (i:Int):=by rw[List.map_map];rfl
  rw[e] at this
  exact this
theorem SR.putT{H0 H:Hp}{σ:L2.St}{ts:List V}{as:List TV}{α:Type}[DecidableEq α]{f:α→PyData}{c:α}{z:PyData}{v w:V}{l:Addr}{b:TV}(F:KEnc f)(s:SR K H0 σ ρ (v::w::.ref l::ts) (.av (.d z)::b::.av (.dic [])::as) H)(st:Stb as)(eb:b.data=f c)(nb:NR b) :
  ∃ H',DPut0 H l w v H'∧SR K H0 σ ρ (.ref l::ts) (.av (.dic (encD f [(c,z)]))::as) H':=by
 have hx:=s.pop.top nb
 rw[eb] at hx
 obtain⟨⟨p,q,h1,h2,h3,h4⟩,sm⟩:=s
 cases h2 with
 | @cons _ _ _ _ q1 q2 _ r rs eq =>
 cases r with
 | av r =>
 cases r with
 | d rp eqz =>
 cases rs with
 | @cons _ _ _ _ q3 q4 _ r3 rs eq3 =>
 cases rs with
 | @cons _ _ _ _ q5 q6 _ r rs eq2 =>
 cases r with
 | av r =>
 cases r with
 | @dic _ o _ _ hl hd ep =>
  have hd2:DicAt K H o (encD f ([]:List (α×PyData))):=hd.mono Zbu
  obtain⟨o2,p1,p2,p3⟩:=Zf8 (v:=v) F hd2 hx (by simp)
  have ql:q5 l=1:=by have:=ep l;simpa using this
  have tot:∀ b,q b=q1 b+(q3 b+(q5 b+q6 b)):=fun b=>by have:=eq b;have:=eq3 b;have:=eq2 b;omega
  have m0:Same (VL.hid H p q) (VL.hid (upd H l o2) p q):=ZcL fun b u y _=>⟨y,fun z=>by subst z;have:=tot b;omega⟩
  have k2:∀ b u,0<p b+q6 b→H b=some u→upd H l o2 b=some u:=fun b u y e=>by
   rw[Zaf (fun z=>by subst z;have:=h3 b;have:=tot b;omega)];exact e
  have s2:Same H0 (upd H l o2):=sm.updF (h4 l (by have:=tot l;omega))
  refine⟨upd H l o2,p1 l hl,SR.of_le (p:=p) (q:=q) (p':=p) (q':=fun b=>(if b=l then 1 else 0)+q6 b) s2 h3 h4 (fun b=>?_) (h1.mono m0 fun b u y e=>k2 b u (by omega) e) (.cons (.av (.dic Zak (p3 _ z (hd.mono m0) (rp.same m0)) fun _=>rfl)) (rs.monoS m0 st fun b o y e=>k2 b o (by omega) e) fun _=>rfl)⟩
  have:=ep b
  have:=tot b
  show p b+((if b=l then 1 else 0)+q6 b)≤p b+q b
  omega
theorem ZjS{α:Type}[DecidableEq α]{f:α→PyData}{tk tv:TE}{n:Nat}{nx bk ct:Sl→Prop}{rt:TV→Prop}(F:KEnc f)(hn:n<ρ.length)(h:Ev K E X tk ρ fun b=>∃ c,b.data=f c∧NR b∧Ev K E X tv ρ fun a=>∃ z,a.sto=some (.d z)∧nx (ρ.set n (some (.dic (encD f [(c,z)]))))) :
  Sv K E X (tAsgD tk tv n) ρ ⟨nx,rt,bk,ct⟩:=fun H0 σ ts as H D st s x fi=>by
 intro p hp
 refine h H0 σ _ _ _ _ (s.newD hp) x fun b ⟨c,eb,nb,h2⟩ w H1 s1=>h2 H0 σ _ _ H1 _ s1 x fun a ⟨z,ea,q⟩ v H2 s2=>?_
 obtain⟨H',g,s3⟩:=SR.putT F (s2.sto ea) st eb nb
 exact⟨H',g,fi.nx _ q _ _ (s3.store hn)⟩
end
end VL
end
section
namespace L2
open PySem PySem.Spec PyProof.Rows
noncomputable def posOf(s:Stmt):Pos:=match s with
 | .FunctionDef _ _ _ _ _ _ _ _ _ p=>p
 | _=>⟨0,0,0,0⟩
structure TxM(K:W.Frag)(mg:Str→Option Value)(x:Str)(st:Stmt)(ps:List Str)(c0 Pt:Addr):Prop where
 ex:∃ (f:Addr) (oc kV doc pm ct:Value) (od an:Option Addr) (osl:Array (Option Value)),
  K.lookup f=some ⟨oc,od,.func (PySem.W.fnOf x x (defArgs st) (defBody st) (defScope st) .none kV doc pm an (.ref c0) ct),osl⟩∧PySem.W.codeIn K (.ref c0) x=true∧mg x=some (.ref f)∧PySem.W.keepIn K (.ref f)=true ∧
  Binds K (PySem.W.fnOf x x (defArgs st) (defBody st) (defScope st) .none kV doc pm an (.ref c0) ct) ps []
 tab:PySem.W.codeHdIn K c0 Pt=true
theorem Znw{K:W.Frag}{h:Heap}{mg:Str→Option Value}{x:Str}{st:Stmt}{ps:List Str}{f c0 Pt:Addr}{oc kV doc pm ct:Value}{od an:Option Addr}{sl:Array (Option Value)}(X:K.In h)(G:h.Ns mainGlobals mg)
  (a:PySem.W.nsIn K mainGlobals x=some (some (.ref f))) (l:K.lookup f=some ⟨oc,od,.func (PySem.W.fnOf x x (defArgs st) (defBody st) (defScope st) .none kV doc pm an (.ref c0) ct),sl⟩)
  (c:PySem.W.codeIn K (.ref c0) x=true) (k:PySem.W.keepIn K (.ref f)=true) (m:PySem.W.codeHdIn K c0 Pt=true)
  (hb:∀ (us:List Value),us.length=ps.length→bindArgs (PySem.W.fnOf x x (defArgs st) (defBody st) (defScope st) .none kV doc pm an (.ref c0) ct) ⟨us,[]⟩=pure (ps.zip us)):TxM K mg x st ps c0 Pt :=
 ⟨⟨f,oc,kV,doc,pm,ct,od,an,sl,l,c,PySem.W.mg_of X G a,k,.all hb⟩,m⟩
end L2
namespace VL
open PySem PySem.Spec PyProof.Rows L2
variable[Tabs]
theorem valRM{P:Program}{w:World}{K:W.Frag}{mg:Str→Option Value}{base:Heap}{CX:CXT}{x:Str}{st:Stmt}{N ps:List Str}{k:Nat}{c0 Pt:Addr}{Pre:List AV→Prop}{Post:List AV→AV→Prop}(T:TxM K mg x st ps c0 Pt)(Sc:FnScope N ps (defScope st))(hS:∀ cs,Pre cs→cs.length=ps.length)
  (hbody:∀ (f:Addr) (A:Around) (outer:List Env) (s:Shared) (H:Hp) (E:XK),Room k (A.deeper (envOfC x (defScope st) s.heap.objs.size f (.ref c0))) →
   ∃ t,PSs (cxOf CX P w K mg base N x (defScope st) f (.ref c0) A outer s H E).nox (defBody st) t∧∀ cs,Pre cs→Sv K (toF E) NE t (inA N cs) (finR (Post cs))) :
  Cal P w K mg base CX (k+1) x ps [] (spR K Pre Post NP):=by
 obtain⟨f,oc,kV,doc,pm,ct,od,an,osl,lk,hcd,hm,hk,hb⟩:=T.ex
 refine⟨f,_,[],Zju lk hcd Sc (fun vs H Q E h=>Zds h hS) fun A outer s H vs Q E hr h=>?_,hm,hk,hb,.nil⟩
 obtain⟨t,h1,h2⟩:=hbody f A outer s H E hr
 exact⟨t,h1.nox,bodyR h fun cs pre=>h2 cs pre⟩
end VL
end
section
namespace L2
open PySem PySem.Spec PyProof.Rows
theorem ZfF{X:Cx}{P:Program}{w:World}{K:W.Frag}{mg:Str→Option Value}{base:Heap}{CX:CXT}{k:Nat}{E:XK}{x:Str}{p pos:Pos}{e:Expr}{es:List Expr}{t:TA}{i:Nat}(hP:X.prog=P)(hw:X.w=w)(hK:X.K=K)(hm:X.mg=mg)(hb:X.base=base)
  (hr:Room k X.A) (hx:Passes CX X E) (ha:PA X (e::es) t) (hN:X.N[i]?=some x:=by rfl) (hv:Vis X.env.scope x:=by first|exact Or.inl rfl|exact Or.inr (Or.inl rfl)|exact Or.inr (Or.inr rfl))
  (hd:(x == ("__debug__" : Str))=false:=by decide) (hcd:(x == ("__classdict__" : Str))=false:=by decide)
  (he:starEach (e::es) X.env=(false,eval e X.env)::starEach es X.env:=by rfl) (hpl:(backTo pos (starEach es X.env)).any (·.1)=false:=by rfl) :
  PE X (.Call (.Name x p) (e::es) [] pos) (tCallV P w K mg base CX k i E t):=by
 subst hP hw hK hm hb
 exact ZjO hr hx ha hN hv hd hcd he hpl
end L2
namespace VL
open PySem PySem.Spec PyProof.Rows L2
variable[Tabs]
noncomputable def spF{Θ:Type}(K:W.Frag)(Pre:Θ→List AV→Prop)(Post:Θ→List AV→AV→Prop):Sp:=fun vs H Q E=>∃ θ,spR K (Pre θ) (Post θ) NP vs H Q E
section
variable{P:Program}{w:World}{K:W.Frag}{mg:Str→Option Value}{base:Heap}{CX:CXT}{x:Str}{st:Stmt}{N ps:List Str}{dvss:List (List V)}{k:Nat}{Θ:Type}{Pre:Θ→List AV→Prop}{Post:Θ→List AV→AV→Prop}
end
section
variable{K:W.Frag}{E:FK}{X:Exc→Sl→Prop}{ρ:Sl}{Q:TV→Prop}{Θ:Type}{Pre:Θ→List AV→Prop}{Post:Θ→List AV→AV→Prop}
theorem ZlG{Y:Cx}{A:TA}{E':XK}(h:Ea K E X A ρ fun bs=>∃ θ cs,ShLs K Y ρ bs cs∧Pre θ (cs++[])∧∀ c,Post θ (cs++[]) c→c.plain=true∧∃ a,Got c a∧Q a):Ev K E X (tCallL Y (spF K Pre Post) [] E' A) ρ Q:=fun H0 σ ts as H QV s x k =>
 h H0 σ ts as H _ s x fun bs ⟨θ,cs,sh,pre,q⟩ vs H1 s' hl H2 L=>by
  obtain⟨rp,s2⟩:=SR.lentL L sh hl s'
  refine⟨θ,(x.t.same s2.same).same L.same,cs++[],rp.app ZeA,pre,fun c hc v H3 r=>?_,fun e z=>z.elim⟩
  obtain⟨pl,a,g,z⟩:=q c hc
  exact k a z v _ (s2.gotG (Rs.unl pl L.own L.same r) g)
theorem ZlH{A:TA}(h:Ea K E X A ρ fun bs=>NRs bs∧bs.length≤1000∧Q (.bor (.tuple (bs.map TV.data)))):Ev K E X (tTup A) ρ Q:=fun H0 σ ts as H QV s x k =>
 h H0 σ ts as H _ s x fun bs ⟨nr,hz,q⟩ vs H2 s2 hl=>by
  obtain⟨rp,s3⟩:=SR.reps nr.all hl s2
  exact⟨Nat.le_of_lt (small1000 (by omega)),fun p hp=>k _ q _ _ ((s3.ext (Za0 hp)).pushB (.tup Zak (rp.same (Za0 hp))))⟩
end
end VL
end
section
namespace VL
open PySem PySem.Spec L2
variable[Tabs]
section
variable{K:W.Frag}{G G' H H' H0:Hp}{σ:St}{ρ:Sl}{ts:List V}{as:List TV}{v x y:V}{a b:TV}
end
section
variable{K:W.Frag}{E:FK}{X:Exc→Sl→Prop}{ρ:Sl}{Q:TV→Prop}{DV:VEnds}{ta tb tc te ti tj:TE}{i j:Int}{n:Nat}{r r':R2}{t u:TS}{a b:TV}
theorem ZjT{g g':Int→Int→Bool}(h:Ev K E X ta ρ fun a=>Ev K E X tb ρ fun b=>∃ i j,a=.av (.d (.int i))∧b=.av (.d (.int j))∧(g i j=true→Ev K E X tc ρ fun c=>∃ k,c=.av (.d (.int k))∧Q (.av (.d (.bool (g' j k)))))∧(g i j=false→Q (.av (.d (.bool false))))) :
  Ev K E X (tChain (rI0 fun i j=>.bl (g i j)) (rI0 fun i j=>.bl (g' i j)) ta tb tc) ρ Q:=fun H0 σ ts as H QV s x k=>by
 refine h H0 σ ts as H _ s x fun a h2 v1 H1 s1=>h2 H0 σ _ _ H1 _ s1 x fun b ⟨i,j,ea,eb,h3,h4⟩ v2 H2 s2=>?_
 subst ea eb
 have e2:=s2.top_d.int_inv
 have e1:=s2.pop.top_d.int_inv
 subst e1 e2
 refine⟨i,j,rfl,rfl,g i j,rfl,?_⟩
 by_cases z:g i j=true
 ·rw[if_pos z]
  refine h3 z H0 σ _ _ H2 _ s2.pop.pop x fun c ⟨k',ec,q⟩ v3 H3 s3=>?_
  subst ec
  have e3:=s3.top_d.int_inv
  subst e3
  exact⟨j,k',rfl,rfl,k _ q _ _ (s3.pop.bl _)⟩
 ·rw[if_neg z]
  exact k _ (h4 (by simpa using z)) _ _ (s2.pop.pop.bl _)
theorem is_N(ha:a.data=.none)(q:Q (.av (.d (.bool true))))(na:NR a:=by first|exact NR.av|exact NR.bor):Op K E X (fun x y H Q=>y=.non∧Q (.bl (decide (x=.non))) H) a (.av (.d .none)) Q:=fun H0 σ ρ ts as H x y QV s _ k=>by
 have r:=s.pop.top na
 have r2:=s.top_d
 rw[ha] at r
 cases r
 cases r2
 exact⟨rfl,k _ q _ _ (s.pop.pop.bl _)⟩
noncomputable def someD:PyData→Bool
 | .tuple _=>true
 | .list _=>true
 | .int _=>true
 | .str _=>true
 | _=>false
theorem ZjU{H:Hp}{v:V}{x:PyData}(hx:someD x=true)(r:Rep K H v x):v≠.non:=by
 intro e
 subst e
 cases r<;>simp[someD] at hx
theorem is_S(ha:someD a.data=true)(q:Q (.av (.d (.bool false))))(na:NR a:=by first|exact NR.av|exact NR.bor):Op K E X (fun x y H Q=>y=.non∧Q (.bl (decide (x=.non))) H) a (.av (.d .none)) Q:=fun H0 σ ρ ts as H x y QV s _ k=>by
 have r:=s.pop.top na
 have r2:=s.top_d
 cases r2
 refine⟨rfl,?_⟩
 show QV (.bl (decide (x=.non))) H
 rw[decide_eq_false (ZjU ha r)]
 exact k _ q _ _ (s.pop.pop.bl _)
end
end VL
end
section
namespace L2
open PySem PySem.Spec PyProof.Rows
theorem ZgW:∀ {ks:List Int} {its:List Value},Vals (ks.map V.int) its→IntsAre its ks
 | [],_,.nil=>.nil
 | k::ks,_,.cons r t=>by
  obtain⟨t',rfl⟩:=r
  exact .cons k t' (ZgW t)
noncomputable def ddI(σ:List Int)(k:Int):List Int:=if k∈σ then σ else σ++[k]
theorem ZlI(σ:List Int)(k:Int):step_dedup σ k=ddI σ k:=by
 unfold step_dedup ddI
 have e:σ.any (· == k)=decide (k∈σ):=by
  rw[Bool.eq_iff_iff,List.any_eq_true,decide_eq_true_iff]
  exact⟨fun⟨x,h1,h2⟩=>by rw[← beq_iff_eq.mp h2];exact h1,fun h=>⟨k,h,by simp⟩⟩
 rw[e]
 by_cases h:k∈σ<;>simp[h]
theorem Zhs(ks:List Int):(List.range ks.length).map (fun i=>ks.getD i 0)=ks:=by
 refine List.ext_getElem (by simp) fun i h1 h2=>?_
 simp[List.getD_eq_getElem?_getD,List.getElem?_eq_getElem h2]
theorem ZlJ(ks:List Int):firstMet (fun i=>ks.getD i 0) ks.length=ks.foldl ddI []:=by
 unfold firstMet
 rw[Zhs]
 have:(step_dedup:List Int→Int→List Int)=ddI:=funext fun σ=>funext fun k=>ZlI σ k
 rw[this]
noncomputable def setS(ks:List Int):Int→Bool:=fun k=>(ks.foldl ddI []).any (· == k)
noncomputable def setN(ks:List Int):Nat:=(ks.foldl ddI []).length
noncomputable def rSetOf(K:W.Frag):List V→Hp→VK→Prop:=fun xs H Q=>∃ (l:Addr) (ks:List Int),xs=[.ref l]∧SqL K H l (ks.map V.int)∧ks.length≤4000∧∀ p,H p=none→Q (.ref p) (upd H p (.set (setS ks) (setN ks)))
theorem ZbZ{X:Cx}{K:W.Frag}(hK:X.K=K)(hc:X.calm=true):CallR X (.type "set") (rSetOf K):=by
 subst hK
 intro pins s σ H xs us Q I r h
 obtain⟨l,ks,rfl,hq,hz,q⟩:=h
 obtain⟨u,rfl,ru⟩:=r.one
 cases (show u=Value.ref l from ru)
 obtain⟨its,rv,pl,_⟩:=I.list hq
 have hl:its.toArray.size=ks.length:=by rw[List.size_toArray,← rv.length,List.length_map]
 refine call_set_list (I.ok.hd hc) pl.isList (ZgW (by simpa using rv)) (by rw[hl];unfold scanBound;omega) fun h' tk hS hk=>?_
 rw[hl,ZlJ] at hS
 have hn:H s.heap.objs.size=none:=I.hok.fresh (Nat.le_refl _)
 refine⟨.ref s.heap.objs.size,_,I.laid (t':=tk) (o:=.set (setS ks) (setN ks)) (fun b o e=>hk b o (Heap.lt_size e) e) (Nat.le_refl _) hS,rfl,q _ hn⟩
noncomputable def rLenSet:List V→Hp→VK→Prop:=fun xs H Q=>∃ (p:Addr) (S:Int→Bool) (n:Nat),xs=[.ref p]∧H p=some (.set S n)∧Q (.int n) H
theorem ZbG{X:Cx}:CallR X (.builtin "len") rLenSet:=by
 intro pins s σ H xs us Q I r h
 obtain⟨p,S,n,rfl,hp,q⟩:=h
 obtain⟨u,rfl,ru⟩:=r.one
 cases (show u=Value.ref p from ru)
 obtain⟨o,es,ep,t,e1,hex,hd,_,_,hb,hf,hn⟩:=(show ObjOk X.prog X.w H s.heap p (.set S n) from I.hok p _ hp)
 subst hn
 exact PySem.call_len_set e1 hex hd hf (by unfold scanBound at hb;omega) ⟨.int es.size,H,I.tok _,⟨_,rfl⟩,q⟩
end L2
namespace VL
open PySem PySem.Spec PyProof.Rows L2
variable[Tabs]
section
variable{K:W.Frag}{E:FK}{X:Exc→Sl→Prop}{ρ:Sl}{Q:TV→Prop}{te ti:TE}{A:TA}
theorem Rep.intsL{H:Hp}{v:V}{ks:List Int}(h:Rep K H v (.list (ks.map .int))):∃ l,v=.ref l∧SqL K H l (ks.map V.int):=by
 cases h with
 | @lst a xs ds h1 h2 =>
  refine⟨a,rfl,?_⟩
  have:xs=ks.map V.int:=by
   clear h1
   induction ks generalizing xs with
   | nil=>cases h2;rfl
   | cons k ks ih=>cases h2 with
    | cons r rs=>rw[r.int_inv,ih rs];rfl
  rw[← this];exact h1
noncomputable def SetAt(n:Nat):V→Hp→Prop:=fun v H=>∃ p S,v=.ref p∧H p=some (.set S n)
theorem SR.pushSet{H0 H:Hp}{σ:L2.St}{ts:List V}{as:List TV}{l:Addr}{S:Int→Bool}{n:Nat}(h:SR K H0 σ ρ ts as H)(hl:H l=none):SR K H0 σ ρ (.ref l::ts) (.av (.obj (SetAt n))::as) (upd H l (.set S n)):=by
 obtain⟨⟨p,q,h1,h2,h3,h4⟩,e⟩:=h
 have zl:p l+q l=0:=by
  rcases Nat.eq_zero_or_pos (p l+q l) with w|w
  ·exact w
  ·obtain⟨_,w,_⟩:=SR.lsts h1 h2 l w;rw[hl] at w;cases w
 have s2:Same H (upd H l (.set S n)):=Za0 hl
 have m:Same (VL.hid H p q) (VL.hid (upd H l (.set S n)) p q):=Zc2 s2
 refine⟨⟨p,q,h1.mono m (fun b o _=>s2 b o),.cons (.av (.obj (p:=fun _=>0) ⟨l,S,rfl,?_⟩ (fun G1 G2 m ⟨p,S,e1,e2⟩=>⟨p,S,e1,m _ _ e2⟩) fun _=>rfl)) (h2.mono m s2) (fun b=>by simp),h3,h4⟩,e.trans s2⟩
 unfold VL.hid
 rw[if_pos zl]
 exact Zak
theorem Zc9{a:TV}{ks:List Int}(ha:a.data=.list (ks.map .int))(hz:ks.length≤4000)(q:Q (.av (.obj (SetAt (setN ks)))))(na:NR a:=by first|exact NR.av|exact NR.bor):Bi K E X (rSetOf K) [a] Q:=fun H0 σ ρ ts as H vs QV s hl _ k=>by
 obtain⟨v,rfl,s⟩:=ZbX s hl
 have r:=s.top na
 rw[ha] at r
 obtain⟨l,rfl,hq⟩:=Rep.intsL r
 exact⟨l,ks,rfl,hq,hz,fun p hp=>k _ q _ _ (s.pop.pushSet hp)⟩
theorem Zcj{n:Nat}(q:Q (.av (.d (.int (n:Nat))))):Bi K E X rLenSet [.av (.obj (SetAt n))] Q:=fun H0 σ ρ ts as H vs QV s hl _ k=>by
 obtain⟨v,rfl,s⟩:=ZbX s hl
 have:∃ p S,v=.ref p∧H p=some (.set S n):=by
  obtain⟨⟨p,q,h1,h2,h3,h4⟩,e⟩:=s
  cases h2 with
  | cons r _ _ =>
   cases r with
   | av r =>
    cases r with
    | obj f _ _ =>
     obtain⟨p',S,e1,e2⟩:=f
     exact⟨p',S,e1,Zbu _ _ e2⟩
 obtain⟨p,S,rfl,hp⟩:=this
 exact⟨p,S,n,rfl,hp,k _ q _ _ (s.pop.int _)⟩
end
end VL
end
section
namespace L2
open PySem PySem.Spec PyProof.Rows
end L2
namespace VL
open PySem PySem.Spec PyProof.Rows L2
variable[Tabs]
section
variable{K:W.Frag}{G H:Hp}
end
section
variable{K:W.Frag}{E:FK}{X:Exc→Sl→Prop}{ρ:Sl}{Q:TV→Prop}{DV:VEnds}{te ti:TE}{n:Nat}
theorem ZlK{b:Bool}(q:Q (.av (.d (.int (if b then 1 else 0))))):Bi K E X (fun xs H Q=>(∃ i,xs=[.int i]∧Q (.int i) H)∨∃ k,xs=[.bl k]∧Q (.int (if k then 1 else 0)) H) [.av (.d (.bool b))] Q:=fun H0 σ ρ ts as H vs QV s hl _ k=>by
 obtain⟨v,rfl,s⟩:=ZbX s hl
 have r:=s.top_d
 cases r
 exact .inr ⟨b,rfl,k _ q _ _ (s.pop.int _)⟩
end
end VL
end
section
namespace L2
open PySem PySem.Spec PyProof.Rows
section
variable{X:Cx}{x x':Str}{C C':Value}{np hpos np' hpos' pos:Pos}{body suite suite':List Stmt}{b₀ b₁:Stmt}{tb:FK→TS}{th th':TS}
end
end L2
namespace VL
open PySem PySem.Spec PyProof.Rows L2
variable[Tabs]
section
variable{K:W.Frag}{F:FK}{X:Exc→Sl→Prop}{ρ:Sl}{DV:VEnds}
end
end VL
end
section
namespace HT
open PySem PySem.Spec PyProof.Rows
end HT
namespace L2
open PySem PySem.Spec PyProof.Rows
section
variable{X:Cx}{K:W.Frag}
end
end L2
namespace VL
open PySem PySem.Spec PyProof.Rows L2
variable[Tabs]
section
variable{K:W.Frag}{E:FK}{X:Exc→Sl→Prop}{ρ:Sl}{Q:TV→Prop}{te:TE}{tl th:TO}
end
end VL
end
section
namespace L2
open PySem PySem.Spec PyProof.Rows
noncomputable def tCallLX(X:Cx)(sp:Sp)(dvs:List V)(F:FK)(t:TA):TE:=fun σ H Q=>t σ H fun vs H1=>∀ H2,Lent X σ H1 H2→sp (vs++dvs) H2 (fun v H3=>Q v (unl (Own X) H3)) fun c d H3=>F c d σ (unl (Own X) H3)
theorem passEL{P:Program}{w:World}{X:Cx}{E:XK}(h:E=E0:=by rfl):PassesL (CXE P w) X E:=by
 subst h
 intro _ _ _ _ _ _ _ h
 obtain⟨_,_,_,_,_,_,_,_,_,_,_,_,_,z⟩:=h
 exact z.elim
section
variable{X:Cx}{pins:List (Addr×Obj)}{σ:St}{H:Hp}{s:Shared}{F:FK}{k:Nat}{f:Addr}{fd:FuncData}{ps:List Str}{sp:Sp}{dvs:List V}{ds:List Value}{x:Str}{p pos:Pos}{e:Expr}{es:List Expr}{t:TA}
theorem ZfG{e:Value}{s':Shared}(I:Inv X pins σ H s)(h:CXE X.prog X.w X.stack (lend (Own X) s.heap H) s (fun c d H'=>F c d σ (unl (Own X) H')) e s'):XE X F e s':=by
 obtain⟨ea,cls,d,B,H',rfl,x,os,bare,un,hB,inB,thB,f⟩:=h
 refine ZdU I ⟨ea,cls,d,B,unl (Own X) H',rfl,x,os,bare,Ziu I.lendOk un (hB.kept x.stays) (fun b hb=>I.own_fs hb),ZgR (fun b hb=>?_) hB,fun b o e n nf=>?_,thB,f⟩
 ·obtain⟨o,_,e⟩:=Zc8 I.lendOk un hb
  exact⟨o,e⟩
 ·by_cases hc:Own X b
  ·obtain⟨o',e1,e2⟩:=Zc8 I.lendOk un hc
   rw[e] at e1
   cases e1
   exact (hB b _ e2).1
  ·exact inB b o e (by rw[Zb9 hc];exact n) nf
theorem ZjV{Q:VK}{us:List Value}{vs:List V}(Fk:FnOk X.prog X.w X.K X.mg X.base (CXE X.prog X.w) k f fd ps sp)(hr:Room k X.A)(hb:Binds X.K fd ps ds)(hd:Vals dvs ds)
  (I:Inv X pins σ H s) (r:Vals vs us) (h:∀ H2,Lent X σ H H2→sp (vs++dvs) H2 (fun v H3=>Q v (unl (Own X) H3)) fun c d H3=>F c d σ (unl (Own X) H3)):wpAny (model X.prog X.w) X.A (PySem.call (.ref f) us) (EP X pins σ Q) (XE X F) s:=by
 have r2:Vals (vs++dvs) (us++ds):=r.append hd
 have h:=h _ I.lent
 have hl:(us++ds).length=ps.length:=by rw[← r2.length];exact Fk.len _ _ _ _ h
 refine wpAny_call (codeAny_mono (Fk.run X.A X.stack s _ ⟨us,[]⟩ (us++ds) (vs++dvs) _ _ hr I.env0L (hb s us I.kIn hl) r2 h) fun z s' hq=>?_)
 cases z with
 | error e=>exact ZfG I hq
 | ok fl =>
  cases fl with
  | ret u =>
   obtain⟨v,H',os,bare,un,hok,r,q⟩:=hq
   exact I.after ⟨v,unl (Own X) H',os,bare,Ziu I.lendOk un hok fun b hb=>I.own_fs hb,Ziv I.lendOk un hok,r,q⟩
  | next=>exact False.elim hq
  | brk=>exact False.elim hq
  | cont=>exact False.elim hq
theorem ZjW(c:Cal X.prog X.w X.K X.mg X.base (CXE X.prog X.w) k x ps dvs sp)(hr:Room k X.A)(hg:Gl X x)(ha:PA (X.wish (XE X F)) (e::es) t)(hdb:(x == ("__debug__" : Str))=false:=by decide)
  (he:starEach (e::es) X.env=(false,eval e X.env)::starEach es X.env:=by rfl) (hpl:(backTo pos (starEach es X.env)).any (·.1)=false:=by rfl) :
  PE (X.wish (XE X F)) (.Call (.Name x p) (e::es) [] pos) (tCallLX (X.wish (XE X F)) sp dvs F t):=by
 obtain⟨f,fd,ds,h1,hm,hk,hb,hv⟩:=c.ex
 intro pins s σ H Q I h
 refine wpAny_Call_Name_kw (ZcJ (X:=X.wish (XE X F)) I hg hm ?_ hdb)
 refine PySem.W.callWith_K (h₀:=X.base) I.ok.mod.kin hk (thn (ha pos pins s σ H _ I h) fun us s1 ⟨vs,H1,I1,r,q⟩=>⟨I1.kIn,?_⟩) he hpl
 exact thn (ZjV h1 hr hb hv I1.unwish r fun H2 L=>q H2 ⟨L.same,L.cell,L.out,L.own⟩) fun _ _ z=>z.wish
end
structure TxMD(K:W.Frag)(mg:Str→Option Value)(x:Str)(st:Stmt)(ps:List Str)(dvss:List (List V))(c0 Pt:Addr):Prop where
 ex:∃ (f:Addr) (oc dV kV doc pm ct:Value) (od an:Option Addr) (osl:Array (Option Value)),
  K.lookup f=some ⟨oc,od,.func (PySem.W.fnOf x x (defArgs st) (defBody st) (defScope st) dV kV doc pm an (.ref c0) ct),osl⟩∧PySem.W.codeIn K (.ref c0) x=true∧mg x=some (.ref f)∧PySem.W.keepIn K (.ref f)=true ∧
  ∀ dvs∈dvss,∃ ds,Binds K (PySem.W.fnOf x x (defArgs st) (defBody st) (defScope st) dV kV doc pm an (.ref c0) ct) ps ds∧Vals dvs ds
 tab:PySem.W.codeHdIn K c0 Pt=true
theorem ZlL{K:W.Frag}{h:Heap}{mg:Str→Option Value}{x:Str}{st:Stmt}{ps:List Str}{f c0 Pt Tt:Addr}{oc kV doc pm ct oc':Value}{od an od':Option Addr}{sl sl':Array (Option Value)}{i:Int}{tk:Tok}{n:Nat}(X:K.In h)(G:h.Ns mainGlobals mg)
  (a:PySem.W.nsIn K mainGlobals x=some (some (.ref f))) (l:K.lookup f=some ⟨oc,od,.func (PySem.W.fnOf x x (defArgs st) (defBody st) (defScope st) (.ref Tt) kV doc pm an (.ref c0) ct),sl⟩)
  (d:K.lookup Tt=some ⟨oc',od',.seq #[.int i tk] n,sl'⟩) (c:PySem.W.codeIn K (.ref c0) x=true) (k:PySem.W.keepIn K (.ref f)=true) (m:PySem.W.codeHdIn K c0 Pt=true)
  (hb:∀ (s:Shared) (us:List Value),K.In s.heap→us.length=ps.length→BindsTo s (PySem.W.fnOf x x (defArgs st) (defBody st) (defScope st) (.ref Tt) kV doc pm an (.ref c0) ct) ⟨us,[]⟩ (ps.zip us))
  (hb2:∀ (s:Shared) (us:List Value),K.In s.heap→us.length+1=ps.length→BindsTo s (PySem.W.fnOf x x (defArgs st) (defBody st) (defScope st) (.ref Tt) kV doc pm an (.ref c0) ct) ⟨us,[]⟩ (ps.zip (us++[.int i tk]))):TxMD K mg x st ps [[],[.int i]] c0 Pt :=
 ⟨⟨f,oc,.ref Tt,kV,doc,pm,ct,od,an,sl,l,c,PySem.W.mg_of X G a,k,fun dvs hd=>by
  rcases List.mem_cons.mp hd with e|hd
  ·subst e
   exact⟨[],fun s us KX hl=>by rw[List.append_nil] at hl ⊢;exact hb s us KX hl,.nil⟩
  ·have e:dvs=[.int i]:=by simpa using hd
   subst e
   exact⟨[.int i tk],fun s us KX hl=>hb2 s us KX (by simpa using hl),.cons ⟨tk,rfl⟩ .nil⟩⟩,m⟩
end L2
namespace VL
open PySem PySem.Spec PyProof.Rows L2
variable[Tabs]
section
variable{P:Program}{w:World}{K:W.Frag}{mg:Str→Option Value}{base:Heap}{x:Str}{st:Stmt}{N ps:List Str}{dvss:List (List V)}{k:Nat}{Θ:Type}{PreF:Θ→List AV→Prop}{PostF:Θ→List AV→AV→Prop}{PXF:Θ→List AV→Exc→Prop}{Pre:List AV→Prop}{Post:List AV→AV→Prop}{PX:List AV→Exc→Prop}
noncomputable def spFX(K:W.Frag)(Pre:Θ→List AV→Prop)(Post:Θ→List AV→AV→Prop)(PX:Θ→List AV→Exc→Prop):Sp:=fun vs H Q E=>∃ θ,spR K (Pre θ) (Post θ) (PX θ) vs H Q E
theorem valRFX(T:Tx K mg x st ps dvss)(Sc:FnScope N ps (defScope st))(hS:∀ θ cs,PreF θ cs→cs.length=ps.length)
  (hbody:∀ (θ:Θ) (f:Addr) (cdv:Value) (A:Around) (outer:List Env) (s:Shared) (H:Hp) (E:XK),Room k (A.deeper (envOfC x (defScope st) s.heap.objs.size f cdv)) →
   ∃ t,PSs ((cxOf (CXE P w) P w K mg base N x (defScope st) f cdv A outer s H E).wish (XE (cxOf (CXE P w) P w K mg base N x (defScope st) f cdv A outer s H E) (toF E))) (defBody st) t∧∀ cs,PreF θ cs→Sv K (toF E) (fun e _=>PXF θ cs e) t (inA N cs) (finR (PostF θ cs))) :
  ∀ dvs∈dvss,Cal P w K mg base (CXE P w) (k+1) x ps dvs (spFX K PreF PostF PXF) :=
 T.calX (k:=k) Sc (fun vs H Q E ⟨θ,h⟩=>Zds h (hS θ)) fun f cdv A outer s H vs Q E hr ⟨θ,h⟩ =>
  let ⟨t,h1,h2⟩:=hbody θ f cdv A outer s H E hr
  ⟨t,h1,bodyR h fun cs pre=>h2 cs pre⟩
theorem valRMX{c0 Pt:Addr}(T:TxMD K mg x st ps dvss c0 Pt)(Sc:FnScope N ps (defScope st))(hS:∀ cs,Pre cs→cs.length=ps.length)
  (hbody:∀ (f:Addr) (A:Around) (outer:List Env) (s:Shared) (H:Hp) (E:XK),Room k (A.deeper (envOfC x (defScope st) s.heap.objs.size f (.ref c0))) →
   ∃ t,PSs ((cxOf (CXE P w) P w K mg base N x (defScope st) f (.ref c0) A outer s H E).wish (XE (cxOf (CXE P w) P w K mg base N x (defScope st) f (.ref c0) A outer s H E) (toF E))) (defBody st) t∧∀ cs,Pre cs→Sv K (toF E) (fun e _=>PX cs e) t (inA N cs) (finR (Post cs))) :
  ∀ dvs∈dvss,Cal P w K mg base (CXE P w) (k+1) x ps dvs (spR K Pre Post PX):=by
 obtain⟨f,oc,dV,kV,doc,pm,ct,od,an,osl,lk,hcd,hm,hk,hb⟩:=T.ex
 intro dvs hd
 obtain⟨ds,b1,b2⟩:=hb dvs hd
 refine⟨f,_,ds,Zju lk hcd Sc (fun vs H Q E h=>Zds h hS) fun A outer s H vs Q E hr h=>?_,hm,hk,b1,b2⟩
 obtain⟨t,h1,h2⟩:=hbody f A outer s H E hr
 exact⟨t,h1.xmono fun e s z=>ZgH z,bodyR h fun cs pre=>h2 cs pre⟩
end
section
variable{K:W.Frag}{E:FK}{X:Exc→Sl→Prop}{ρ:Sl}{Q:TV→Prop}{Θ:Type}{Pre:Θ→List AV→Prop}{Post:Θ→List AV→AV→Prop}{PX:Θ→List AV→Exc→Prop}{te ti:TE}
theorem XRep.low{G G':Hp}(m:Low G G'){e:Exc}{c:Value}{d:Option Addr}(h:XRep K G e c d):XRep K G' e c d:=by
 obtain⟨h1,h2|⟨a,vs,h2,h3,h4,h5⟩⟩:=h
 ·exact⟨h1,.inl h2⟩
 ·exact⟨h1,.inr ⟨a,vs,h2,m _ _ h3 (fun ob c z=>by cases z),h4,Reps.low m h5⟩⟩
theorem ZiB{A:TA}(h:Ea K E X A ρ fun bs=>∃ θ,ClR (Pre θ) (Post θ) (PX θ) [] Q (fun e=>X e ρ) bs):Ev K E X (tCallX (spFX K Pre Post PX) [] E A) ρ Q:=fun H0 σ ts as H QV s x k =>
 h H0 σ ts as H _ s x fun bs ⟨θ,cs,sh,pre,q,qx⟩ vs H' s' hl=>by
  obtain⟨rp,s2⟩:=SR.lent sh hl s'
  exact⟨θ,x.t.same s2.same,cs++[],rp.app ZeA,pre,fun c hc v H2 r=>let ⟨a,g,z⟩:=q c hc;k a z v H2 (s2.gotG r g),fun e z c d H2 sm xr=>x.x e ρ (qx e z) c d σ H2 (s2.ext sm).pops xr⟩
theorem ZjX{Y:Cx}{A:TA}(h:Ea K E X A ρ fun bs=>∃ θ cs,ShLs K Y ρ bs cs∧Pre θ (cs++[])∧(∀ c,Post θ (cs++[]) c→c.plain=true∧∃ a,Got c a∧Q a)∧∀ e,PX θ (cs++[]) e→X e ρ):Ev K E X (tCallLX Y (spFX K Pre Post PX) [] E A) ρ Q:=fun H0 σ ts as H QV s x k =>
 h H0 σ ts as H _ s x fun bs ⟨θ,cs,sh,pre,q,qx⟩ vs H1 s' hl H2 L=>by
  obtain⟨rp,s2⟩:=SR.lentL L sh hl s'
  refine⟨θ,(x.t.same s2.same).same L.same,cs++[],rp.app ZeA,pre,fun c hc v H3 r=>?_,fun e z c d H3 sm xr=>?_⟩
  ·obtain⟨pl,a,g,z⟩:=q c hc
   exact k a z v _ (s2.gotG (Rs.unl pl L.own L.same r) g)
  ·have lo:Low H3 (unl (Own Y) H3):=fun b o e n=>Zci (fun b hb=>let ⟨_,o,_,e,_⟩:=L.own b hb;⟨o,sm _ _ e⟩) e fun ob z=>n ob b z
   have sm2:Same H1 (unl (Own Y) H3):=fun b o e=>by
    have hb:¬ Own Y b:=fun z=>by rw[(L.own b z).1] at e;cases e
    rw[ZaX hb]
    exact sm _ _ (L.same _ _ e)
   exact x.x e ρ (qx e z) c d σ _ (s2.ext sm2).pops (xr.low lo)
theorem ZiC{i j:Int}(q:Q (.av (.d (.int (if j > i then j else i))))):Bi K E X (fun xs H Q=>∃ i j,xs=[.int i,.int j]∧Q (.int (if j > i then j else i)) H) [.av (.d (.int i)),.av (.d (.int j))] Q:=fun H0 σ ρ ts as H vs QV s hl _ k=>by
 obtain⟨rfl,s2⟩:=ZgE s hl
 exact⟨i,j,rfl,k _ q _ _ (s2.int _)⟩
end
end VL
end
section
namespace L2
open PySem PySem.Spec PyProof.Rows
section
variable{X:Cx}{A:Around}{ea:Addr}{CX:CXT}{k:Nat}{ps:List Str}{sp:Sp}{dvs:List V}{E:XK}{x:Str}{p pos:Pos}{e:Expr}{es:List Expr}{t:TA}
end
end L2
namespace VL
open PySem PySem.Spec PyProof.Rows L2
variable[Tabs]
end VL
end
section
namespace VL
open PySem PySem.Spec PyProof.Rows L2
variable[Tabs]
section
variable{K:W.Frag}{G H:Hp}
theorem RAs.cat{zs:List V}{ys:List AV}{q:Fp}(h2:RAs K G H zs ys q):∀ {vs:List V} {xs:List AV} {p:Fp},RAs K G H vs xs p→RAs K G H (vs++zs) (xs++ys) (fun b=>p b+q b)
 | _,_,p,.nil e=>by
  have z:(fun b=>p b+q b)=q:=funext fun b=>by rw[e b,Nat.zero_add]
  rw[z]
  exact h2
 | _,_,_,.cons r1 rs e=>.cons r1 (RAs.cat h2 rs) fun b=>by have:=e b;omega
end
section
variable{K:W.Frag}{E:FK}{X:Exc→Sl→Prop}{ρ:Sl}{Q:TV→Prop}{DV:VEnds}{te:TE}{n:Nat}
end
end VL
end
section
namespace PySem
section
variable{prog:Program}{w:World}{K:Type}[DecidableEq K]{knd:HeapKind prog w K}{A:Around}{E:Value→Shared→Prop}{s:Shared}
theorem Zda{d a:Addr}{xs:List (K×Addr×Value)}{k:K}{v:Value}{Q:Value→Shared→Prop}(hu:knd.room A)(hkey:knd.is s.heap k a)(hm:s.heap.DictOfH knd d xs)
  (h1:∀ p,atKey xs k=some p→Q p.2 { s with toks:=s.toks+knd.draws k })
  (h2:atKey xs k=none→∀ h',h'.DictOfH knd d (storedH xs k a v)→Heap.SameBut d s.heap h'→Q v { s with heap:=h',toks:=s.toks+knd.draws k })
  (hsz:xs.length≤sizeLine):wpAny (model prog w) A (dictSetDefault d (.ref a) v) Q E s:=by
 obtain⟨o,es,ep,ho,hc,hd,he,his,hn⟩:=hm
 unfold dictSetDefault
 try with_reducible refine wpAny_holding ?_
 refine wpAny_bind (knd.pyHash hu hkey ?_)
 refine wpAny_bind (wpAny_dictFind_heap (s:={ s with toks:=s.toks+knd.draws k }) hu hkey ho hd he his hn ?_ ?_)
 ·intro hno
  have hnot:k∉xs.map (·.1):=not_mem_keys_of_get hno
  refine wpAny_bind (wpAny_rule (wpAny_bind (wpAny_updateDictKeys (hz:=by have e:=size_of_entries he;omega) (s:={ s with toks:=s.toks+knd.draws k }) ho hd (wpAny_pure (h2 (atKey_none_of_get hno) _ ⟨_,_,ep+1,Heap.get?_update_self _ ho (Obj.isFreed_of_dict (Obj.data_mapDictKeys hd _)),
   hc.mapDictKeys _,Obj.data_mapDictKeys hd _,?_,?_,?_⟩ (Heap.SameBut.update ..))))))
  ·rw[storedH_new (atKey_none_of_get hno)]
   simp[he,entryOfKey]
  ·rw[storedH_new (atKey_none_of_get hno)]
   intro x hx
   rcases List.mem_append.mp hx with hx|hx
   ·exact knd.keeps (his x hx) ho hd (Heap.SameBut.update ..)
   ·simp only[List.mem_singleton] at hx
    subst hx
    exact knd.keeps hkey ho hd (Heap.SameBut.update ..)
  ·rw[storedH_new (atKey_none_of_get hno)]
   rw[List.map_append,List.nodup_append]
   refine⟨hn,by simp,?_⟩
   intro x hx y hy
   simp only[List.map_cons,List.map_nil,List.mem_singleton] at hy
   subst hy
   exact fun e=>hnot (e▸hx)
 ·intro j p hj
  refine wpAny_bind (wpAny_dictEntries (s:={ s with toks:=s.toks+knd.draws k }) ho hd ?_)
  rw[entry_at he j,hj]
  exact wpAny_bind (wpAny_rule (wpAny_pure (h1 p (atKey_of_get hn hj))))
theorem ZcQ(knd:HeapKind prog w K)(d a:Addr)(hd:(d == sysModules)=false)(v:Value) :
  MeetsIn prog w (Builtin.«dict.setdefault» ⟨[.ref d,.ref a,v],[]⟩) (fun A R s=>knd.room A.in1∧∃ k xs,knd.is s.heap k a∧s.heap.DictOfH knd d xs∧xs.length≤sizeLine ∧
   (∀ p,atKey xs k=some p→R (.ok (.ret p.2)) { s with toks:=s.toks+knd.draws k }) ∧
   (atKey xs k=none→∀ h',h'.DictOfH knd d (storedH xs k a v)→Heap.SameBut d s.heap h'→R (.ok (.ret v)) { s with heap:=h',toks:=s.toks+knd.draws k })) :=
 .of_wp fun A R s ⟨hu,k,xs,hkey,hm,hz,h1,h2⟩=>by
  unfold Builtin.«dict.setdefault»
  refine wpAny_bind ?_
  unfold Builtin.Dict.keyAndDefault
  refine wpAny_bind (wpAny_notOrdered_dict hm.typeIs ?_)
  show wpAny _ _ (pure (d,Value.ref a,some v)) _ _ s
  refine wpAny_pure ?_
  show wpAny _ _ (if (d == sysModules)=true then _ else (dictSetDefault d (.ref a) v >>= _)) _ _ s
  rw[if_neg (by rw[hd];exact Bool.false_ne_true)]
  exact wpAny_bind (Zda hu hkey hm (fun p hp=>wpAny_pure ⟨p.2,rfl,h1 p hp⟩) (fun hn h' hm' hs'=>wpAny_pure ⟨v,rfl,h2 hn h' hm' hs'⟩) hz)
theorem ZfH(knd:HeapKind prog w K)(d:Addr)(hd:(d == sysModules)=false) :
  MeetsIn prog w (Builtin.«dict.__len__» ⟨[.ref d],[]⟩) (fun _ R s=>∃ xs,s.heap.DictOfH knd d xs∧R (.ok (.ret (.int xs.length s.toks))) { s with toks:=s.toks+1 }) :=
 .of_wp fun A R s ⟨xs,hm,h⟩=>by
  obtain⟨o,es,ep,ho,hc,hdat,he,his,hn⟩:=hm
  have hsz:es.size=xs.length:=size_of_entries he
  show wpAny _ _ (dictSize d >>= _) _ _ s
  unfold dictSize
  refine wpAny_bind (wpAny_bind (wpAny_dictEntries ho hdat (wpAny_pure ?_)))
  show wpAny _ _ (Builtin.Dict.pendingCount d >>= _) _ _ s
  refine wpAny_bind (wpAny_pendingCount_other hd ?_)
  refine wpAny_ret_mkInt ?_
  rw[Nat.add_zero,hsz]
  exact h
theorem Zgb{d:Addr}{xs:List (K×Addr×Value)}{Q:Value→Shared→Prop}(hd:(d == sysModules)=false)(hm:s.heap.DictOfH knd d xs)(hfit:(xs.length:Int)<2 ^ 63)
  (h:Q (.int xs.length (s.toks+1)) { s with toks:=s.toks+1+1 }):wpAny (model prog w) A (call (.builtin "len") [.ref d]) Q E s:=by
 refine Calls.call_function_entry kind_len plain_len entry_len (args_len1 _) ?_
 unfold Builtin.«len»
 refine wpAny_bind (m:=oneArg "len" _) (wpAny_pure ?_)
 refine wpAny_bind (m:=callSpecial? (.ref d) (Str.ofString "__len__")) (wpAny_callSpecial?_slot (name:=Str.ofString "__len__") hm.typeIs F.slot_dict_len
  (call_meetsIn F.slot_dict_len hm.typeIs F.entry_dict_len (F.args_dict_len_1 _) (ZfH knd d hd) ⟨xs,hm,?_⟩))
 show wpAny _ _ _ _ _ { s with toks:=s.toks+1 }
 refine wpAny_bind (wpAny_holding (wpAny_pure ?_))
 refine wpAny_bind (wpAny_letGo ?_)
 show wpAny _ _ (if ((xs.length:Nat):Int)<0 then _ else _) _ _ _
 rw[if_neg (by omega)]
 show wpAny _ _ (if ((xs.length:Nat):Int)≥2 ^ 63 then _ else _) _ _ _
 rw[if_neg (by omega)]
 exact wpAny_bind (wpAny_mkInt (wpAny_pure ⟨_,rfl,h⟩))
end
end PySem
namespace L2
open PySem PySem.Spec PyProof.Rows
noncomputable def rSdf:V→List V→Hp→VK→Prop:=fun x vs H Q=>∃ a b k z,x=.ref a∧vs=[.ref b,z]∧H b=some (.tup (k.map kV)) ∧
 ((∃ kvs,H a=some (.dT kvs)∧kvs.length<sizeLine∧(∀ v,valV kvs k=some v→Q v H)∧(valV kvs k=none→Q z (upd H a (.dT (putK kvs k z)))))∨(H a=some (.dK [])∧Q z (upd H a (.dT [(k,z)]))))
theorem Znx{X:Cx}(hu:X.A.units+64<cLine):MtM X "dict.setdefault" rSdf:=by
 intro pins s σ H x vs v us Q I rx rv h
 obtain⟨a,b,k,z,rfl,rfl,eb,h⟩:=h
 cases rx
 obtain⟨ub,u,rfl,rb,ru⟩:=vals2 rv
 cases (show ub=Value.ref b from rb)
 have key:∀ {H:Hp} (I:Inv X pins σ H s) (eb:H b=some (.tup (k.map kV))) {kvs:List (List Key×V)} (e:H a=some (.dT kvs)) (hl:kvs.length<sizeLine) (q1:∀ v,valV kvs k=some v→Q v H) (q2:valV kvs k=none→Q z (upd H a (.dT (putK kvs k z)))),
   wpAny (model X.prog X.w) X.A (call (.builtin "dict.setdefault") [.ref a,.ref b,u]) (EP X pins σ Q) X.xe s:=fun {H} I eb {kvs} e hl q1 q2=>by
  obtain⟨hz,hd,xs,rel,dd⟩:=ZkY I.hok e
  have hxz:xs.length≤sizeLine:=by rw[← Paired.length rel];exact hz
  refine call_meetsIn PySem.F.slot_dict_setdefault dd.typeIs PySem.F.entry_dict_setdefault (PySem.F.args_dict_setdefault_3 _ _ _) (ZcQ (tupleKind (mixKind X.prog X.w)) a b hd u) ⟨tupleKind_room_in1 (by omega),k,xs,Zdy I.hok eb,dd,hxz,fun p hp=>?_,fun hn h' dd' hs=>?_⟩
  ·have rl:=rel.val k
   rw[hp] at rl
   cases hv:valV kvs k with
   | none=>rw[hv] at rl;exact (rl:False).elim
   | some y =>
    rw[hv] at rl
    exact⟨y,H,I.tok _,rl,q1 y hv⟩
  ·have rl:=rel.val k
   rw[hn] at rl
   cases hv:valV kvs k with
   | some y=>rw[hv] at rl;exact (rl:False).elim
   | none =>
    have hl2:(putK kvs k z).length≤sizeLine:=by have:=Za8 kvs k z;omega
    obtain⟨q,es,ep,hq,h2,h3,h4,_,h5⟩:=dd'
    refine⟨z,upd H a (.dT (putK kvs k z)),Zbb I (by rw[e];exact True.intro) hs ⟨q,hq⟩ ⟨hl2,hd,_,(rel.put k eb ru).keeps fun c ys ec=>?_,q,es,ep,hq,h2,h3,h4,h5⟩,ru,q2 hv⟩
    rw[Zaf (Zej ec e (fun z=>nomatch z))]
    exact ec
 rcases h with⟨kvs,e,hl,q1,q2⟩|⟨e,q⟩
 ·exact key I eb e hl q1 q2
 ·have x:=I.hok a _ e
  obtain⟨q0,hq⟩:∃ q,s.heap.get? a=some q:=by obtain⟨_,_,_,_,q,_,_,hq,_⟩:=x;exact⟨q,hq⟩
  have J:Inv X pins σ (upd H a (.dT [])) s:=Zbb (t':=s.toks) I (by rw[e];exact True.intro) (Heap.SameBut.refl a s.heap) ⟨q0,hq⟩ (Zk8 x)
  refine key J (by rw[Zaf (Zej eb e (fun z=>nomatch z))];exact eb) Zak (by decide) (fun v hv=>by cases hv) fun _=>?_
  rw[ZcI]
  exact q
noncomputable def rLenD:List V→Hp→VK→Prop:=fun xs H Q=>∃ a n,xs=[.ref a]∧((∃ kvs,Rd H a (.dK kvs)∧n=kvs.length)∨∃ kvs,Rd H a (.dT kvs)∧n=kvs.length)∧Q (.int (n:Nat)) H
theorem ZiD{X:Cx}:CallR X (.builtin "len") rLenD:=by
 intro pins s σ H xs us Q I r h
 obtain⟨a,n,rfl,h,q⟩:=h
 obtain⟨u,rfl,ru⟩:=r.one
 cases (show u=Value.ref a from ru)
 rcases h with⟨kvs,e,rfl⟩|⟨kvs,e,rfl⟩
 ·exact Zn2 I e fun t s' J=>⟨.int _,H,J,⟨t,rfl⟩,q⟩
 ·obtain⟨z,hd,vs,rel,dd⟩:=Zf2 I.hok e
  have hl:=Paired.length rel
  have hs:sizeLine=16777216:=sizeLine_eq
  refine Zgb hd dd (by omega) ?_
  rw[← hl]
  exact⟨.int _,H,I.tok _,⟨_,rfl⟩,q⟩
end L2
namespace VL
open PySem PySem.Spec PyProof.Rows L2
variable[Tabs]
section
variable{K:W.Frag}{E:FK}{X:Exc→Sl→Prop}{ρ:Sl}{Q:TV→Prop}{DV:VEnds}{te ti:TE}{n:Nat}
theorem ZlM{α:Type}[DecidableEq α]{g:α→List Key}(hg:∀ a b,g a=g b→a=b){kvs:List (α×PyData)}(hi:ρ[n]?=some (some (.dic (encD (fun a=>PyData.tuple ((g a).map keyD)) kvs))))(hz:kvs.length≤1000000)
  (h:Ev K E X ti ρ fun b=>Ev K E X te ρ fun a=>∃ c z,b.data=.tuple ((g c).map keyD)∧NR b∧a=.av (.d z)∧((getA kvs c).isSome=true→DV.nx ρ)∧(getA kvs c=none→DV.nx (ρ.set n (some (.dic (encD (fun a=>PyData.tuple ((g a).map keyD)) (putA kvs c z))))))) :
  Sv K E X (tDrop (tBM K "dict" rSdf (tVar n) (tCons ti (tCons te tNil)))) ρ DV:=fun H0 σ ts as H D st s x f=>by
 have hen:∀ a b:List Key,PyData.tuple (a.map keyD)=.tuple (b.map keyD)→a=b:=fun _ _ e=>Zch (PyData.tuple.inj e)
 obtain⟨l,o,e1,e2,e3,_⟩:=(s.push (x:=.none) fun _=>.non).writeD (kvs':=encD (fun a=>PyData.tuple ((g a).map keyD)) kvs) st hi
 have ty:tyV K "dict" (.ref l) H:=by
  rcases e3 with⟨ks,ds,rfl,_⟩|⟨ks,ds,rfl,_⟩|⟨ks,ds,ne,rfl,rs,z⟩
  ·exact .inr (.inr (.inl ⟨rfl,.inl ⟨_,e2⟩⟩))
  ·exact .inr (.inr (.inl ⟨rfl,.inr ⟨_,e2⟩⟩))
  ·exact absurd (ZaW (en:=en3) rs z fun _ _ e=>ZbF (PyData.tuple.inj e)).2 ne
 refine⟨.ref l,e1,ty,h H0 σ ts as H _ s x fun b h2 w H1 s1=>h2 H0 σ _ _ H1 _ s1 x fun a ⟨c,z,eb,nb,ea,q1,q2⟩ v H2 s2=>?_⟩
 subst ea
 have hx:=s2.pop.top nb
 rw[eb] at hx
 obtain⟨b',xs,rfl,hb,hr⟩:=hx.tuple_at
 cases Reps.kVs hr
 obtain⟨l',o',k1,k2,k3,k4⟩:=(s2.swap.pop).writeD (kvs':=encD (fun a=>PyData.tuple ((g a).map keyD)) (putA kvs c z)) st hi
 rw[e1] at k1
 cases k1
 rcases k3 with⟨ks,ds,rfl,rs,zz⟩|⟨ks,ds,rfl,rs,zz⟩|⟨ks,ds,ne,rfl,rs,zz⟩
 ·obtain⟨rfl,rfl⟩:=ZaW rs zz fun _ _=>Ne.symm Zbd
  exact⟨l,b',g c,v,rfl,rfl,hb,.inr ⟨k2,f.nx _ (q2 rfl) _ _ (k4 (.dT [(g c,v)]) trivial fun G _ rv=>.inr (.inl ⟨[(g c,v)],[z],rfl,.cons rv .nil,rfl⟩))⟩⟩
 ·have p:=ZdD (en:=fun k=>PyData.tuple (k.map keyD)) hen zz rs
  obtain⟨g1,_⟩:=Zez hg (k:=c) p
  refine⟨l,b',g c,v,rfl,rfl,hb,.inl ⟨ks,k2,small6 (by rw[ZgL p];exact hz),fun y hy=>?_,fun hn=>?_⟩⟩
  ·rw[hy] at g1
   exact f.nx _ (q1 g1.symm) _ _ s2.pop.pop
  ·rw[hn] at g1
   refine f.nx _ (q2 (by simpa using g1.symm)) _ _ (k4 (.dT (putK ks (g c) v)) trivial fun G hd' rv=>?_)
   rcases hd' with⟨ks',ds',e,rs',z'⟩|⟨ks',ds',e,rs',z'⟩|⟨ks',ds',_,e,rs',z'⟩
   ·exact nomatch e
   ·cases HO.dT.inj e
    have p':=ZgK hg (k:=c) rv (ZdD (en:=fun k=>PyData.tuple (k.map keyD)) hen z' rs')
    exact .inr (.inl ⟨_,_,rfl,ZdY p',ZfA (en:=fun k=>PyData.tuple (k.map keyD)) p'⟩)
   ·exact nomatch e
 ·exact absurd (ZaW (en:=en3) rs zz fun _ _ e=>ZbF (PyData.tuple.inj e)).2 ne
theorem Zny{kvs:List (List Int×PyData)}(hi:ρ[n]?=some (some (.dic (encD (fun ns:List Int=>PyData.tuple (ns.map .int)) kvs))))(hz:kvs.length≤1000000)
  (h:Ev K E X ti ρ fun b=>Ev K E X te ρ fun a=>∃ c z,b.data=.tuple (c.map .int)∧NR b∧a=.av (.d z)∧((getA kvs c).isSome=true→DV.nx ρ)∧(getA kvs c=none→DV.nx (ρ.set n (some (.dic (encD (fun ns:List Int=>PyData.tuple (ns.map .int)) (putA kvs c z))))))) :
  Sv K E X (tDrop (tBM K "dict" rSdf (tVar n) (tCons ti (tCons te tNil)))) ρ DV:=by
 have e:(fun ns:List Int=>PyData.tuple (ns.map .int))=fun ns:List Int=>PyData.tuple ((ns.map (Sum.inl:Int→Key)).map keyD):=funext fun ns=>by rw[List.map_map];rfl
 have e':∀ ns:List Int,PyData.tuple (ns.map .int)=PyData.tuple ((ns.map (Sum.inl:Int→Key)).map keyD):=fun ns=>congrFun e ns
 simp only[e'] at h
 rw[e] at hi
 exact ZlM (g:=fun ns=>ns.map .inl) (fun a b e=>Zb8 e) hi hz h
theorem ZlN{α:Type}[DecidableEq α]{f:α→PyData}(F:KEnc f){g:α→List Key}(hf:∀ a,f a=.tuple ((g a).map keyD)){kvs:List (α×PyData)}{a:TV}(ha:a.data=.dict (encD f kvs))(q:Q (.av (.d (.int (kvs.length:Nat)))))(na:NR a:=by first|exact NR.av|exact NR.bor):Bi K E X rLenD [a] Q:=fun H0 σ ρ ts as H vs QV s hl _ k=>by
 obtain⟨v,rfl,s⟩:=ZbX s hl
 have r:=s.top na
 rw[ha] at r
 cases show f=fun a=>.tuple ((g a).map keyD) from funext hf
 have key:∃ a,v=.ref a∧((∃ ks,Rd H a (.dK ks)∧kvs.length=ks.length)∨∃ ks,Rd H a (.dT ks)∧kvs.length=ks.length):=by
  generalize hk:encD (fun a=>PyData.tuple ((g a).map keyD)) kvs=l at r
  have hl2:kvs.length=l.length:=by rw[← hk];exact (List.length_map ..).symm
  cases r with
  | exc _ z=>exact absurd (hk.trans z) (Zcy F)
  | excF _ _ _ z=>exact absurd (hk.trans z) (Zcy F)
  | junk=>exact absurd hk (Zcy F)
  | @dK a ks ds _ hd rs z =>
   obtain⟨rfl,rfl⟩:=ZaW rs (hk.trans z) fun _ _=>Ne.symm Zbd
   exact⟨a,rfl,.inl ⟨[],hd,rfl⟩⟩
  | @dT a ks ds _ hd rs z =>
   refine⟨a,rfl,.inr ⟨ks,hd,?_⟩⟩
   have h1:=rs.length
   rw[hl2,z,List.length_zip,List.length_map]
   rw[List.length_map] at h1
   omega
  | @dN a ks ds _ ne hd rs z=>exact absurd (ZaW (en:=en3) rs (hk.trans z) fun _ _ e=>ZbF (PyData.tuple.inj e)).2 ne
 obtain⟨a,rfl,h⟩:=key
 exact⟨a,kvs.length,rfl,h,k _ q _ H (s.pop.int _)⟩
theorem ZjY{kvs:List (List Int×PyData)}{a:TV}(ha:a.data=.dict (encD (fun ns:List Int=>PyData.tuple (ns.map .int)) kvs))(q:Q (.av (.d (.int (kvs.length:Nat)))))(na:NR a:=by first|exact NR.av|exact NR.bor):Bi K E X rLenD [a] Q :=
 ZlN KEnc.ints (g:=fun ns=>ns.map .inl) (fun ns=>by rw[List.map_map];rfl) ha q na
end
end VL
end
section
namespace L2
open PySem PySem.Spec PyProof.Rows
noncomputable def tChain3(r r' r'':R2)(ta tb tc td:TE):TE:=fun σ H Q=>ta σ H fun x H1=>tb σ H1 fun y H2=>r x y H2 fun z H3=>∃ k,z=.bl k ∧
 (if k=true then tc σ H3 fun w' H4=>r' y w' H4 fun z' H5=>∃ k',z'=.bl k'∧(if k'=true then td σ H5 fun w'' H6=>r'' w' w'' H6 Q else Q (.bl false) H5) else Q (.bl false) H3)
section
variable{X:Cx}{a b c d:Expr}{pos:Pos}{ta tb tc td:TE}
theorem ZiE{op op' op'':CmpOp}{r r' r'':R2}(ho:OpR X (compareOp op) r)(ho':OpR X (compareOp op') r')(ho'':OpR X (compareOp op'') r'')(ha:PE X a ta)(hb:PE X b tb)(hc:PE X c tc)(hd:PE X d td)
  (hm:lastMarks [op,op',op''] [b,c,d]=false:=by with_unfolding_all rfl):PT X (.Compare a [op,op',op''] [b,c,d] pos) (tTest (tChain3 r r' r'' ta tb tc td)):=by
 intro pins s σ H Q I h
 refine isTrue_chain (thn (ha pins s σ H _ I h) fun v s1 ⟨x,H1,I1,r1,q1⟩=>test_link (thn (hb pins s1 σ H1 _ I1 q1) fun u s2 ⟨y,H2,I2,r2,q2⟩ =>
  thn (ho pins s2 σ H2 x y v u _ I2 r1 r2 q2) fun d s3 ⟨z,H3,I3,r3,k,e,q3⟩=>?_)) hm
 subst e
 cases r3
 refine wpAny_truthy_bool ?_
 cases k with
 | false =>
  obtain⟨k',e',q'⟩:=q3
  cases e'
  exact ite_ff ⟨H3,I3,q'⟩
 | true =>
  refine ite_tt (test_link (thn (hc pins s3 σ H3 _ I3 q3) fun w' s4 ⟨z',H4,I4,r4,q4⟩=>thn (ho' pins s4 σ H4 y z' u w' _ I4 r2 r4 q4) fun d' s5 ⟨z2,H5,I5,r5,k2,e2,q5⟩=>?_))
  subst e2
  cases r5
  refine wpAny_truthy_bool ?_
  cases k2 with
  | false =>
   obtain⟨k',e',q'⟩:=q5
   cases e'
   exact ite_ff ⟨H5,I5,q'⟩
  | true =>
   refine ite_tt (test_last (thn (hd pins s5 σ H5 _ I5 q5) fun w'' s6 ⟨z3,H6,I6,r6,q6⟩=>thn (ho'' pins s6 σ H6 z' z3 w' w'' _ I6 r4 r6 q6) fun d'' s7 ⟨z4,H7,I7,r7,k3,e3,q7⟩=>?_))
   subst e3
   cases r7
   exact wpAny_truthy_bool ⟨H7,I7,q7⟩
end
end L2
namespace VL
open PySem PySem.Spec PyProof.Rows L2
variable[Tabs]
section
variable{K:W.Frag}{E:FK}{X:Exc→Sl→Prop}{ρ:Sl}{Q:TV→Prop}{ta tb tc td:TE}{r3:R2}
theorem ZiF{g g':Int→Int→Bool}(h:Ev K E X ta ρ fun a=>Ev K E X tb ρ fun b=>∃ i j,a=.av (.d (.int i))∧b=.av (.d (.int j))∧g i j=true∧Ev K E X tc ρ fun c=>c=.av (.d (.int j))∧Ev K E X td ρ fun d=>∃ l,d=.av (.d (.int l))∧g' j l=true∧Q (.av (.d (.bool true)))) :
  Ev K E X (tChain3 (rI0 fun i j=>.bl (g i j)) (rOr rEq r3) (rI0 fun i j=>.bl (g' i j)) ta tb tc td) ρ Q:=fun H0 σ ts as H QV s x k=>by
 refine h H0 σ ts as H _ s x fun a h2 v1 H1 s1=>h2 H0 σ _ _ H1 _ s1 x fun b ⟨i,j,ea,eb,h3,h4⟩ v2 H2 s2=>?_
 subst ea eb
 have e2:=s2.top_d.int_inv
 have e1:=s2.pop.top_d.int_inv
 subst e1 e2
 refine⟨i,j,rfl,rfl,g i j,rfl,?_⟩
 rw[if_pos h3]
 refine h4 H0 σ _ _ H2 _ s2.pop.pop x fun c ⟨ec,h5⟩ v3 H3 s3=>?_
 subst ec
 have e3:=s3.top_d.int_inv
 subst e3
 refine .inl ⟨rfl,true,by rw[decide_eq_true rfl],?_⟩
 rw[if_pos rfl]
 refine h5 H0 σ _ _ H3 _ s3.pop x fun d ⟨l,ed,h6,q⟩ v4 H4 s4=>?_
 subst ed
 have e4:=s4.top_d.int_inv
 subst e4
 refine⟨j,l,rfl,rfl,?_⟩
 show QV (.bl (g' j l)) H4
 rw[h6]
 exact k _ q _ _ (s4.pop.bl _)
end
end VL
end
section
namespace VL
open PySem PySem.Spec PyProof.Rows L2
variable[Tabs]
section
variable{K:W.Frag}{E:FK}{X:Exc→Sl→Prop}{ρ:Sl}{DV:VEnds}{te ti:TE}{n:Nat}
theorem ZjZ{α:Type}[DecidableEq α]{f:α→PyData}{kvs:List (α×PyData)}(F:KEnc f)(hi:ρ[n]?=some (some (.dic (encD f kvs))))(hz:kvs.length≤1000000)(h:Ev K E X te ρ fun a=>Ev K E X ti ρ fun b=>∃ z c,a.frz=.av (.d z)∧b.data=f c∧NR b∧DV.nx (ρ.set n (some (.dic (encD f (putA kvs c z)))))) :
  Sv K E X (tAsg te (gSub (tVar n) ti rSetA)) ρ DV:=fun H0 σ ts as H D st s x fi=>by
 refine h H0 σ ts as H _ s x fun a h2 v H1 s1=>?_
 obtain⟨l,o,e1,e2,e3,_⟩:=(s.push (x:=.none) fun _=>.non).writeD (kvs':=encD f kvs) st hi
 refine⟨.ref l,e1,h2 H0 σ _ _ H1 _ s1 x fun b ⟨z,c,ea,eb,nb,q⟩ w H2 s2=>.inr ?_⟩
 have hx:=s2.top nb
 rw[eb] at hx
 have s3:=s2.pop.frzV
 rw[ea] at s3
 obtain⟨l',o',k1,k2,k3,k4⟩:=s3.writeD (kvs':=encD f (putA kvs c z)) st hi
 rw[e1] at k1
 cases k1
 obtain⟨o2,p1,p2,p3⟩:=Zf8 (v:=v) F k3 hx hz
 exact⟨l,_,rfl,p1 l k2,fi.nx _ q _ _ (k4 o2 p2 fun G hd rv=>p3 G z hd rv)⟩
end
end VL
end
section
namespace L2
open PySem PySem.Spec PyProof.Rows
end L2
end
section
namespace VL
open PySem PySem.Spec L2
variable[Tabs]
section
variable{K:W.Frag}{G G' H H' H0:Hp}{σ:St}{ρ:Sl}{ts:List V}{as:List TV}{v x y:V}{a b:TV}
end
section
variable{K:W.Frag}{E:FK}{X:Exc→Sl→Prop}{ρ:Sl}{Q:TV→Prop}{DV:VEnds}{ta tb tc te ti tj:TE}{i j:Int}{n:Nat}{r r':R2}{t u:TS}{a b:TV}
end
end VL
end
section
namespace L2
open PySem PySem.Spec PyProof.Rows
end L2
namespace VL
open PySem PySem.Spec L2
variable[Tabs]
section
variable{K:W.Frag}{E:FK}{X:Exc→Sl→Prop}{ρ:Sl}{Q:TV→Prop}{ta tb te:TE}{a b:TV}
end
end VL
end
section
namespace VL
open PySem PySem.Spec L2
variable[Tabs]
section
variable{K:W.Frag}{G G' H H' H0:Hp}{σ:St}{ρ:Sl}{ts:List V}{as:List TV}{v x y:V}{a b:TV}
end
section
variable{K:W.Frag}{E:FK}{X:Exc→Sl→Prop}{ρ:Sl}{Q:TV→Prop}{a:TV}
end
end VL
end
section
namespace L2
open PySem PySem.Spec PyProof.Rows PySem.Calls
end L2
namespace VL
open PySem PySem.Spec L2
open PyProof.Rows (sortedS)
variable[Tabs]
section
variable{K:W.Frag}{G G' H H' H0:Hp}{σ:St}{ρ:Sl}{ts:List V}{as:List TV}{v x y:V}{a b:TV}
end
section
variable{K:W.Frag}{E:FK}{X:Exc→Sl→Prop}{ρ:Sl}{Q:TV→Prop}{DV:VEnds}{ta tb te:TE}{n m:Nat}{a b:TV}
end
end VL
end
section
namespace L2
open PySem PySem.Spec PyProof.Rows
end L2
namespace VL
open PySem PySem.Spec L2
variable[Tabs]
section
variable{K:W.Frag}{E:FK}{X:Exc→Sl→Prop}{ρ:Sl}{Q:TV→Prop}{a b:TV}
end
end VL
end
section
namespace VL
open PySem PySem.Spec L2
variable[Tabs]
section
variable{K:W.Frag}{G G' H H' H0:Hp}{σ:St}{ρ:Sl}{ts:List V}{as:List TV}{v x y:V}{a b:TV}
end
section
variable{K:W.Frag}{E:FK}{X:Exc→Sl→Prop}{ρ:Sl}{Q:TV→Prop}{DV:VEnds}{te:TE}{a b:TV}{i j k:Nat}
end
end VL
end
section
namespace L2
open PySem PySem.Spec PyProof.Rows
end L2
namespace VL
open PySem PySem.Spec L2
variable[Tabs]
section
variable{K:W.Frag}{G G' H H' H0:Hp}{σ:St}{ρ:Sl}{ts:List V}{as:List TV}{v x y:V}{a b:TV}
end
section
variable{K:W.Frag}{E:FK}{X:Exc→Sl→Prop}{ρ:Sl}{Q:TV→Prop}{DV:VEnds}{te tb:TE}{n m i j:Nat}{a b:TV}{r:R2}
end
end VL
end
section
namespace L2
open PySem PySem.Spec PyProof.Rows
end L2
namespace VL
open PySem PySem.Spec L2
open Classical
variable[Tabs]
section
variable{K:W.Frag}{G G' H H' H0:Hp}{σ:St}{ρ:Sl}{ts:List V}{as:List TV}{v:V}
end
section
variable{P:Program}{w:World}{K:W.Frag}{mg:Str→Option Value}{base:Heap}{CX:CXT}{k:Nat}{sp:Sp}{v:V}{G G':Hp}
end
section
variable{K:W.Frag}{E:FK}{X:Exc→Sl→Prop}{ρ:Sl}{DV:VEnds}{n:Nat}{Pre:List AV→Prop}{Post:List AV→AV→Prop}
end
end VL
end
section
set_option exponentiation.threshold 2000
namespace K24
open PySem L2 VL
noncomputable def top(i:Nat):Stmt:=PySem.Challenge.pw_figurewheel_k24_spaced.main.body.getD i (.Pass ⟨0,0,0,0⟩)
noncomputable abbrev ZbH:Stmt:=top 9
theorem ZdB:FnScope ["base"] ["base"] (defScope ZbH):=⟨rfl,rfl,rfl,by decide +kernel,rfl,by decide +kernel,by decide +kernel⟩
noncomputable abbrev Zbr:Stmt:=top 10
theorem ZbA:FnScope ["place", "base", "figures", "rest"] ["place", "base"] (defScope Zbr):=⟨rfl,rfl,rfl,by decide +kernel,rfl,by decide +kernel,by decide +kernel⟩
noncomputable abbrev Zb0:Stmt:=top 12
theorem Zba:FnScope ["start", "letters", "lead", "most", "met", "numbers", "rows", "row", "letter", "thing"] ["start", "letters", "lead", "most"] (defScope Zb0):=⟨rfl,rfl,rfl,by decide +kernel,rfl,by decide +kernel,by decide +kernel⟩
noncomputable abbrev Zbe:Stmt:=top 13
theorem ZcG:FnScope ["start", "letters", "lead", "sign", "most", "told"] ["start", "letters", "lead", "sign", "most"] (defScope Zbe):=⟨rfl,rfl,rfl,by decide +kernel,rfl,by decide +kernel,by decide +kernel⟩
noncomputable abbrev Zap:Stmt:=top 14
theorem ZaS:FnScope ["machine", "stands", "rows", "signs", "lead", "sign"] ["machine", "stands"] (defScope Zap):=⟨rfl,rfl,rfl,by decide +kernel,rfl,by decide +kernel,by decide +kernel⟩
noncomputable abbrev Zau:Stmt:=(defBody Zap).getD 2 (.Pass ⟨0,0,0,0⟩)
theorem Zdb:FnScopeF ["room", "letter", "stands", "rows"] ["room", "letter"] (defScope Zau):=⟨rfl,rfl,rfl,by decide +kernel,rfl,by decide +kernel⟩
theorem ZcR:capOk ["machine", "stands", "rows", "signs", "lead", "sign"] (defScope Zap) (defScope Zau) ["room", "letter", "stands", "rows"] [none,none,some 1,some 2]=true:=by decide +kernel
theorem Zdc:∀ y∈(defScope Zau).names,y.2=.free→(defScope Zap).names.lookup y.1=some .cell∨(defScope Zap).names.lookup y.1=some .free:=by decide +kernel
noncomputable abbrev Zav:Stmt:=(defBody Zap).getD 3 (.Pass ⟨0,0,0,0⟩)
theorem Zdd:FnScopeF ["room", "signs"] ["room"] (defScope Zav):=⟨rfl,rfl,rfl,by decide +kernel,rfl,by decide +kernel⟩
theorem ZcS:capOk ["machine", "stands", "rows", "signs", "lead", "sign"] (defScope Zap) (defScope Zav) ["room", "signs"] [none,some 3]=true:=by decide +kernel
theorem Zde:∀ y∈(defScope Zav).names,y.2=.free→(defScope Zap).names.lookup y.1=some .cell∨(defScope Zap).names.lookup y.1=some .free:=by decide +kernel
noncomputable abbrev Za2:Stmt:=top 15
theorem Zax:FnScope ["things", "firsts", "index", "thing"] ["things"] (defScope Za2):=⟨rfl,rfl,rfl,by decide +kernel,rfl,by decide +kernel,by decide +kernel⟩
noncomputable abbrev Zdf:Stmt:=top 16
theorem ZiG:FnScope ["rows", "alike"] ["rows", "alike"] (defScope Zdf):=⟨rfl,rfl,rfl,by decide +kernel,rfl,by decide +kernel,by decide +kernel⟩
noncomputable abbrev Zbf:Stmt:=top 17
theorem Za3:FnScope ["machine", "alike", "many"] ["machine"] (defScope Zbf):=⟨rfl,rfl,rfl,by decide +kernel,rfl,by decide +kernel,by decide +kernel⟩
noncomputable abbrev Zd3:Stmt:=top 18
theorem Zj0:FnScope ["machine"] ["machine"] (defScope Zd3):=⟨rfl,rfl,rfl,by decide +kernel,rfl,by decide +kernel,by decide +kernel⟩
noncomputable abbrev ZbI:Stmt:=top 19
theorem ZfI:FnScope ["start", "letters", "lead", "sign", "most"] ["start", "letters", "lead", "sign", "most"] (defScope ZbI):=⟨rfl,rfl,rfl,by decide +kernel,rfl,by decide +kernel,by decide +kernel⟩
noncomputable abbrev Zck:Stmt:=top 22
theorem Zb1:FnScope ["machine", "letters", "rows", "room", "letter"] ["machine", "letters"] (defScope Zck):=⟨rfl,rfl,rfl,by decide +kernel,rfl,by decide +kernel,by decide +kernel⟩
noncomputable abbrev Zcl:Stmt:=top 23
theorem ZeB:FnScope ["row", "base"] ["row"] (defScope Zcl):=⟨rfl,rfl,rfl,by decide +kernel,rfl,by decide +kernel,by decide +kernel⟩
noncomputable abbrev ZbJ:Stmt:=top 27
theorem ZfJ:FnScope ["step", "first"] ["step", "first"] (defScope ZbJ):=⟨rfl,rfl,rfl,by decide +kernel,rfl,by decide +kernel,by decide +kernel⟩
noncomputable abbrev ZaN:Stmt:=top 28
theorem Zbg:FnScope ["row", "step", "first", "base", "form", "many", "lead", "sign", "start"] ["row", "step", "first"] (defScope ZaN):=⟨rfl,rfl,rfl,by decide +kernel,rfl,by decide +kernel,by decide +kernel⟩
noncomputable abbrev ZaK:Stmt:=(defBody ZaN).getD 4 (.Pass ⟨0,0,0,0⟩)
theorem ZcH:FnScopeF ["window", "figure", "places", "many", "step", "form", "base"] ["window", "figure"] (defScope ZaK):=⟨rfl,rfl,rfl,by decide +kernel,rfl,by decide +kernel⟩
theorem Zd4:capOk ["row", "step", "first", "base", "form", "many", "lead", "sign", "start"] (defScope ZaN) (defScope ZaK) ["window", "figure", "places", "many", "step", "form", "base"] [none,none,none,some 5,some 1,some 4,some 3]=true:=by decide +kernel
theorem Zel:∀ y∈(defScope ZaK).names,y.2=.free→(defScope ZaN).names.lookup y.1=some .cell∨(defScope ZaN).names.lookup y.1=some .free:=by decide +kernel
noncomputable abbrev ZaL:Stmt:=(defBody ZaN).getD 5 (.Pass ⟨0,0,0,0⟩)
theorem Zem:FnScopeF ["window", "form", "first"] ["window"] (defScope ZaL):=⟨rfl,rfl,rfl,by decide +kernel,rfl,by decide +kernel⟩
theorem Zd5:capOk ["row", "step", "first", "base", "form", "many", "lead", "sign", "start"] (defScope ZaN) (defScope ZaL) ["window", "form", "first"] [none,some 4,some 2]=true:=by decide +kernel
theorem Zen:∀ y∈(defScope ZaL).names,y.2=.free→(defScope ZaN).names.lookup y.1=some .cell∨(defScope ZaN).names.lookup y.1=some .free:=by decide +kernel
noncomputable abbrev Zb2:Stmt:=top 30
theorem ZaY:FnScope ["_law_script", "_law_k", "_law_cell_here", "_law_number", "_law_whole_here", "_law_turn"] ["_law_script", "_law_k"] (defScope Zb2):=⟨rfl,rfl,rfl,by decide +kernel,rfl,by decide +kernel,by decide +kernel⟩
noncomputable abbrev Zbh:Stmt:=top 31
theorem ZaD:FnScope ["_law_script", "_law_at", "_law_base", "_law_many", "_law_width", "_law_number", "_law_rows", "_law_signs", "_law_room", "_law_row", "_law_letter"] ["_law_script", "_law_at", "_law_base", "_law_many", "_law_width"] (defScope Zbh):=⟨rfl,rfl,rfl,by decide +kernel,rfl,by decide +kernel,by decide +kernel⟩
noncomputable abbrev ZbK:Stmt:=top 32
theorem Zbs:FnScope ["_law_machine_here", "_law_rooms", "_law_rows", "_law_copy", "_law_row"] ["_law_machine_here"] (defScope ZbK):=⟨rfl,rfl,rfl,by decide +kernel,rfl,by decide +kernel,by decide +kernel⟩
noncomputable abbrev Zb3:Stmt:=top 33
theorem Zbo:FnScope ["_law_machine_here", "_law_base", "_law_place", "_law_figures", "_law_room", "_law_figure"] ["_law_machine_here", "_law_base", "_law_place"] (defScope Zb3):=⟨rfl,rfl,rfl,by decide +kernel,rfl,by decide +kernel,by decide +kernel⟩
noncomputable abbrev Zbi:Stmt:=top 34
theorem ZaE:FnScope ["_law_rows", "_law_signs", "_law_marks", "_law_many", "_law_keys", "_law_numbers", "_law_key"] ["_law_rows", "_law_signs"] (defScope Zbi):=⟨rfl,rfl,rfl,by decide +kernel,rfl,by decide +kernel,by decide +kernel⟩
noncomputable abbrev ZbL:Stmt:=top 35
theorem ZfK:FnScope ["_law_found"] ["_law_found"] (defScope ZbL):=⟨rfl,rfl,rfl,by decide +kernel,rfl,by decide +kernel,by decide +kernel⟩
noncomputable abbrev Za4:Stmt:=top 36
theorem ZaH:FnScope ["_law_found", "_law_letters", "_law_rows", "_law_signs", "_law_met", "_law_room", "_law_to"] ["_law_found", "_law_letters"] (defScope Za4):=⟨rfl,rfl,rfl,by decide +kernel,rfl,by decide +kernel,by decide +kernel⟩
noncomputable abbrev Zbj:Stmt:=top 37
theorem Zao:FnScope ["_law_machine_here", "_law_base", "_law_step", "_law_first", "_law_marks", "_law_leads", "_law_room", "_law_size", "_law_spots", "_law_met", "_law_at", "_law_figure", "_law_window", "_law_more", "_law_spot"] ["_law_machine_here", "_law_base", "_law_step", "_law_first"] (defScope Zbj):=⟨rfl,rfl,rfl,by decide +kernel,rfl,by decide +kernel,by decide +kernel⟩
noncomputable abbrev ZbM:Stmt:=top 38
theorem ZaZ:FnScope ["_law_machine_here", "_law_step", "_law_first", "_law_found", "_law_refused", "e"] ["_law_machine_here", "_law_step", "_law_first"] (defScope ZbM):=⟨rfl,rfl,rfl,by decide +kernel,rfl,by decide +kernel,by decide +kernel⟩
noncomputable abbrev ZfL:Stmt:=top 39
theorem ZbR:FnScope ["_law_script", "_law_head", "_law_base", "_law_machine_here", "_law_step", "_law_first", "_law_handed", "_law_found", "_law_refused", "_law_place"] ["_law_script"] (defScope ZfL):=⟨rfl,rfl,rfl,by decide +kernel,rfl,by decide +kernel,by decide +kernel⟩
noncomputable def ZaB:Addr:=104
noncomputable def Zca(l c:Nat):Str:=if l=(posOf Zau).line∧c=(posOf Zau).col then "reached_by.<locals>.lead" else if l=(posOf Zav).line∧c=(posOf Zav).col then "reached_by.<locals>.sign" else ""
noncomputable def Zbk:Addr:=164
noncomputable def Zd6(l c:Nat):Str:=if l=(posOf ZaK).line∧c=(posOf ZaK).col then "spaced.<locals>.lead" else if l=(posOf ZaL).line∧c=(posOf ZaL).col then "spaced.<locals>.sign" else ""
noncomputable def ts0:List (Addr×(Nat→Nat→Str)):=[(ZaB,Zca),(Zbk,Zd6)]
structure Cs(K:W.Frag)(mg:Str→Option Value)(C_WheelError:Addr)(C_NoBase:Addr)(C_TooGreat:Addr)(C_NotLike:Addr)(C_NoStep:Addr):Prop where
 c_WheelError:mg "WheelError" = some (.ref C_WheelError)
 c_NoBase:mg "NoBase" = some (.ref C_NoBase)
 c_TooGreat:mg "TooGreat" = some (.ref C_TooGreat)
 c_NotLike:mg "NotLike" = some (.ref C_NotLike)
 c_NoStep:mg "NoStep" = some (.ref C_NoStep)
 x_NoBase:PySem.W.excIn K C_NoBase [.type "ValueError",.type "Exception",.type "BaseException",.type "object"] "ValueError.__new__" = true
 x_NoStep:PySem.W.excIn K C_NoStep [.type "ValueError",.type "Exception",.type "BaseException",.type "object"] "ValueError.__new__" = true
 x_TooGreat:PySem.W.excIn K C_TooGreat [.type "ValueError",.type "Exception",.type "BaseException",.type "object"] "ValueError.__new__" = true
 m_TooGreat:PySem.W.exmOne K (.ref C_TooGreat) (.ref C_TooGreat)=some true
 k_TooGreat:ExcCls K C_TooGreat
 i_we:PySem.W.kitOne K (.ref C_TooGreat) (.ref C_WheelError)=some true
 i_val:PySem.W.kitOne K (.ref C_TooGreat) (.type "ValueError")=some true
 i_no:PySem.W.kitAny K (.ref C_TooGreat) [.ref C_NoStep,.ref C_NoBase,.ref C_NotLike]=some false
structure Txt(K:W.Frag)(mg:Str→Option Value):Prop where
 g_LEAST_BASE:∃ t,mg "LEAST_BASE" = some (.int 2 t)
 g_GREATEST_BASE:∃ t,mg "GREATEST_BASE" = some (.int 5 t)
 g_MOST_ROOMS:∃ t,mg "MOST_ROOMS" = some (.int 100 t)
 g_GREATEST_STEP:∃ t,mg "GREATEST_STEP" = some (.int 12 t)
 g_GREATEST_FIRST:∃ t,mg "GREATEST_FIRST" = some (.int 24 t)
 n_ValueError:mg "ValueError" = none
 n_all:mg "all" = none
 n_bool:mg "bool" = none
 n_enumerate:mg "enumerate" = none
 n_int:mg "int" = none
 n_isinstance:mg "isinstance" = none
 n_len:mg "len" = none
 n_list:mg "list" = none
 n_max:mg "max" = none
 n_range:mg "range" = none
 n_reversed:mg "reversed" = none
 n_set:mg "set" = none
 n_tuple:mg "tuple" = none
 x_want_base:Tx K mg "want_base" ZbH ["base"] [[]]
 x_figures_of:Tx K mg "figures_of" Zbr ["place", "base"] [[],[.int 2]]
 x_met_from:Tx K mg "met_from" Zb0 ["start", "letters", "lead", "most"] [[]]
 x_machine_met:Tx K mg "machine_met" Zbe ["start", "letters", "lead", "sign", "most"] [[]]
 x_reached_by:∃ c0,TxM K mg "reached_by" Zap ["machine", "stands"] c0 ZaB
 x_first_equals:Tx K mg "first_equals" Za2 ["things"] [[]]
 x_parted:Tx K mg "parted" Zdf ["rows", "alike"] [[]]
 x_first_alike:Tx K mg "first_alike" Zbf ["machine"] [[]]
 x_least:Tx K mg "least" Zd3 ["machine"] [[]]
 x_least_met:Tx K mg "least_met" ZbI ["start", "letters", "lead", "sign", "most"] [[]]
 x_room_of:Tx K mg "room_of" Zck ["machine", "letters"] [[]]
 x_base_of:Tx K mg "base_of" Zcl ["row"] [[]]
 x_want_step:Tx K mg "want_step" ZbJ ["step", "first"] [[]]
 x_spaced:∃ c0,TxMD K mg "spaced" ZaN ["row", "step", "first"] [[],[.int 0]] c0 Zbk
 x_law_cell:Tx K mg "_law_cell" Zb2 ["_law_script", "_law_k"] [[]]
 x_law_machine:Tx K mg "_law_machine" Zbh ["_law_script", "_law_at", "_law_base", "_law_many", "_law_width"] [[]]
 x_law_twice:Tx K mg "_law_twice" ZbK ["_law_machine_here"] [[]]
 x_law_sign:Tx K mg "_law_sign" Zb3 ["_law_machine_here", "_law_base", "_law_place"] [[]]
 x_law_classes:Tx K mg "_law_classes" Zbi ["_law_rows", "_law_signs"] [[]]
 x_law_whole:Tx K mg "_law_whole" ZbL ["_law_found"] [[]]
 x_law_is_least:Tx K mg "_law_is_least" Za4 ["_law_found", "_law_letters"] [[]]
 x_law_windows:Tx K mg "_law_windows" Zbj ["_law_machine_here", "_law_base", "_law_step", "_law_first"] [[]]
 x_law_asked:Tx K mg "_law_asked" ZbM ["_law_machine_here", "_law_step", "_law_first"] [[]]
 cs:∃ C_WheelError C_NoBase C_TooGreat C_NotLike C_NoStep,Cs K mg C_WheelError C_NoBase C_TooGreat C_NotLike C_NoStep
local macro_rules | `(tactic| walk_at "sd") => `(tactic| first
 | (show (0 : Int) < _; omega)
 | (refine ⟨?_, ?_⟩ <;> omega)
 | exact Or.inl ⟨by omega, by omega⟩
 | exact Or.inr ⟨by omega, by omega⟩
 | exact ⟨by decide, by decide, by decide⟩)
local macro_rules | `(tactic| walk_at "nrs") => `(tactic| (repeat (first | exact NRs.nil | refine NRs.cons (by first | exact NR.av | exact NR.bor) ?_)))
local macro_rules | `(tactic| walk_at "v0") => `(tactic| first | walk_at "v0i" | (with_reducible refine s_if ?_))
local macro_rules | `(tactic| walk_at "v0i") => `(tactic| with_reducible first
 | refine Znb ?_ | refine Zn5 ?_ | refine Zn7 ?_ | refine Zk9 ?_ | refine Zkr ?_ | refine Znc ?_
 | refine ZmC ?_ | refine Zn3 ?_ | refine ZmD ?_ | refine Zn4 ?_ | refine ZoD ?_ | refine ZmF ?_ | refine Zn6 ?_ | refine eq_i ?_ | refine ne_i ?_
 | refine ZmN ?_ | refine ZmO ?_ | refine Zn9 ?_ | refine Zh3 ?_ | refine tv_b ?_ | refine ZmL ?_ | refine Zn8 ?_ | refine ZmM ?_ | refine ZgC ?_
 | refine v_b ?_ | refine v_i ?_ | refine v_s ?_ | refine ZoG ?_ | refine ZoL ?_ | refine Znl ?_ | refine Znm ?_ | refine Zlt ?_ | refine ZoH ?_ | refine iteT ?_ | refine iteF ?_ | refine iteNT ?_ | refine iteNF ?_)
local macro_rules | `(tactic| walk_at "v1") => `(tactic| with_reducible first
 | refine Zoa ?_ | refine Zob ?_ | refine Zoe ?_ | refine Zoh ?_ | refine Zoj ?_ | refine Zom ?_ | refine Zoo ?_ | refine Zor ?_ | refine Zou ?_ | refine Zox ?_ | refine Zm3 ?_ | refine Zm5 ?_ | refine Zm8 ?_ | refine Zm9 ?_
 | refine Zoc ?_ | refine Zof ?_ | refine Zok ?_ | refine Zop ?_ | refine Zos ?_ | refine Zov ?_ | refine Zoy ?_ | refine Zm6 ?_
 | refine Zod ?_ | refine Zog ?_ | refine Zoi ?_ | refine Zol ?_ | refine Zon ?_ | refine Zoq ?_ | refine Zot ?_ | refine Zow ?_ | refine Zoz ?_ | refine Zm4 ?_ | refine Zm7 ?_ | refine Zna ?_
 | refine gv_0 ?_ | refine gv_1 ?_ | refine gv_2 ?_ | refine gv_3 ?_ | refine gv_4 ?_ | refine gv_5 ?_ | refine gv_6 ?_ | refine gv_7 ?_ | refine gv_8 ?_ | refine gv_9 ?_ | refine ZoA ?_ | refine ZoB ?_ | refine ZoC ?_
 | refine ZmU ?_ | refine ZmX ?_ | refine ZmY ?_ | refine ZmZ ?_ | refine Zm0 ?_ | refine Zm1 ?_ | refine Zm2 ?_ | refine Zll ?_
 | refine ZmW ?_
 | refine ZmT ?_ | refine ZmV ?_
 | refine ZoM ?_ | refine ZoQ ?_
 | refine ZoN ?_ | refine ZoO ?_ | refine ZoP ?_ | refine ZoR ?_ | refine ZoS ?_ | refine ZoT ?_
 )
local macro_rules | `(tactic| walk_at "v") => `(tactic| first | walk_at "v0" | walk_at "v1" | (with_reducible refine Zkt ?_) | (with_reducible refine Znd ?_) | (refine op_i ?c ?_; (case c => walk_at "sd")) | (refine Znf ?c ?_; (case c => walk_at "sd")))
local macro_rules | `(tactic| walk_at "vs") => `(tactic| repeat walk_at "v")
local macro_rules | `(tactic| walk_at "vm") => `(tactic| repeat (first | walk_at "v" | refine ix_T rfl rfl Item.d ?_))
local macro_rules | `(tactic| walk_at "vj") => `(tactic| first | walk_at "v0i" | walk_at "v1" | (with_reducible refine Zkt ?_) | (with_reducible refine Znd ?_) | (refine op_i ?c ?_; (case c => walk_at "sd")) | (refine Znf ?c ?_; (case c => walk_at "sd")))
local macro_rules | `(tactic| walk_at "vi") => `(tactic| repeat (first | walk_at "vj" | refine ix_T rfl rfl Item.d ?_))
section
variable[Tabs]{P:Program}{w:World}{K:W.Frag}{mg:Str→Option Value}{base:Heap}
noncomputable abbrev oI(ns:List Int):AV:=.own (ns.map fun k=>.d (.int k))
theorem Zay(ns:List Int):(oI ns).data=dI ns:=by rw[AV.data,ZaQ];rfl
theorem Zdv(ns:List Int):AV.datas (ns.map fun k=>.d (.int k))=ns.map PyData.int:=ZaQ ns PyData.int
theorem ZbB(ns:List Int):(oI ns).clean=true:=ZaJ fun _=>rfl
theorem ZiH(ns:List Int):(ns.map PyData.int).map AV.d=ns.map fun k=>.d (.int k):=by rw[List.map_map];rfl
noncomputable abbrev oL(rows:List (List Int)):AV:=.own (rows.map oI)
theorem ZlO(rows:List (List Int)):(oL rows).data=dRows rows:=by
 rw[Zcw]
 unfold dRows
 congr 1
 exact List.map_congr_left fun r _=>Zay r
theorem ZcT(c:List Int):noLst (tI c)=true:=by simp[tI,noLst,Zaq]
structure Mach where
 rows:List (List Int)
 signs:List Int
deriving DecidableEq
noncomputable abbrev tR(rows:List (List Int)):PyData:=.tuple (rows.map tI)
noncomputable abbrev dM(M:Mach):PyData:=.tuple [tR M.rows,tI M.signs]
structure Good(r l m:Int)(M:Mach):Prop where
 r0:0<r
 l0:0<l
 n:(M.rows.length:Int)=r
 row:∀ x∈M.rows,(x.length:Int)=l∧∀ y∈x,0≤y∧y<r
 s:(M.signs.length:Int)=r
 sg:∀ x∈M.signs,0≤x∧x<m
 z:(M.rows.getD 0 []).getD 0 0=0
theorem ZlP(rows:List (List Int)):noLst (tR rows)=true:=by
 simp only[tR,noLst]
 exact Zct (fun a=>ZcT a) rows
theorem ZbT(M:Mach):noLst (dM M)=true:=by
 have h:=ZlP M.rows
 simp only[noLst,noLsts,Bool.and_true,Bool.and_eq_true] at h ⊢
 exact⟨h,Zaq _⟩
theorem Mach.enc:Enc dM 3:=by
 have h:=(Enc.int.tuple.tuple).pair (Enc.int.tuple.mono (show 1≤2 by decide))
 refine⟨fun a b=>?_,fun a=>h.lay (a.rows,a.signs),fun a=>h.dep (a.rows,a.signs)⟩
 refine (h.eqv (a.rows,a.signs) (b.rows,b.signs)).trans ⟨fun e=>?_,fun e=>by rw[e]⟩
 obtain⟨r1,s1⟩:=a
 obtain⟨r2,s2⟩:=b
 simp only[Prod.mk.injEq] at e
 rw[e.1,e.2]
theorem ZlQ(rows:List (List Int))(row:List Int):(AV.own (rows.map oI++[oI row]))=oL (rows++[row]):=by rw[oL,List.map_append];rfl
theorem Zd7(row:List Int)(x:Int):AV.own ((row.map fun k=>.d (.int k))++[.d (.int x)])=oI (row++[x]):=by rw[oI,List.map_append];rfl
theorem Zgc{x:List Int}{y:Int}{i:Nat}{v:Int}(h:y∈x.set i v):y∈x∨y=v:=List.mem_or_eq_of_mem_set h
theorem Za1{ns:List Int}{k:Int}(h0:0≤k)(h:k<ns.length):atI (ns.map PyData.int) k=some (.int (ns.getD k.toNat 0)):=by
 have e:k.toNat<ns.length:=by omega
 exact Zgy h0 (by rw[List.getElem?_map,List.getElem?_eq_getElem e,List.getD_eq_getElem?_getD,List.getElem?_eq_getElem e];rfl)
theorem Zbt{rows:List (List Int)}{k:Int}(h0:0≤k)(h:k<rows.length):atI (rows.map tI) k=some (tI (rows.getD k.toNat [])):=by
 have e:k.toNat<rows.length:=by omega
 exact Zgy h0 (by rw[List.getElem?_map,List.getElem?_eq_getElem e,List.getD_eq_getElem?_getD,List.getElem?_eq_getElem e];rfl)
noncomputable def Mach.lt(M:Mach):Nat:=(M.rows.getD 0 []).length
structure Mok(M:Mach):Prop where
 n:0<M.rows.length
 n1:M.rows.length≤1000
 row:∀ x∈M.rows,x.length=M.lt∧∀ y∈x,0≤y∧y<M.rows.length
 s:M.signs.length=M.rows.length
 l1:M.lt≤1000
 l0:0<M.lt
theorem Zj1{α:Type}{xs:List α}{i:Nat}{d:α}(h:i<xs.length):xs.getD i d∈xs:=by
 rw[List.getD_eq_getElem?_getD,List.getElem?_eq_getElem h];exact List.getElem_mem h
theorem Good.ok{r l m:Int}{M:Mach}(h:Good r l m M)(h1:r≤100)(h2:l≤64):Mok M∧(M.lt:Int)=l:=by
 have n0:0<M.rows.length:=by have:=h.n;have:=h.r0;omega
 have hl:(M.lt:Int)=l:=(h.row _ (Zj1 n0)).1
 refine⟨⟨n0,by have:=h.n;omega,fun x hx=>⟨by have:=(h.row x hx).1;omega,fun y hy=>?_⟩,by have:=h.n;have:=h.s;omega,by omega,by have:=h.l0;omega⟩,hl⟩
 have:=(h.row x hx).2 y hy
 have:=h.n
 omega
theorem Zcz{ns:List Int}{k:Int}(h0:0≤k)(h:k<ns.length):atI (ns.map PyData.int) k=some (.int (ns.getD k.toNat 0)):=by
 have e:k.toNat<ns.length:=by omega
 exact Zgy h0 (by rw[List.getElem?_map,List.getElem?_eq_getElem e,List.getD_eq_getElem?_getD,List.getElem?_eq_getElem e];rfl)
theorem ZaI{α:Type}{xs:List α}{i:Nat}{d:α}(h:i<xs.length):xs.getD i d∈xs:=by
 rw[List.getD_eq_getElem?_getD,List.getElem?_eq_getElem h];exact List.getElem_mem h
structure Parts(a b:Int)(M:Mach):Prop where
 n0:0<M.rows.length
 n1:M.rows.length≤100
 s:M.signs.length=M.rows.length
 row:∀ x∈M.rows,x.length=(M.rows.getD 0 []).length∧∀ y∈x,0≤y∧y<M.rows.length
 l0:a≤((M.rows.getD 0 []).length:Int)
 l1:((M.rows.getD 0 []).length:Int)≤b
 sg:∀ x∈M.signs,0≤x∧x≤9
theorem Good.parts{r l m:Int}{M:Mach}(h:Good r l m M)(h1:r≤100)(h2:l≤64)(h3:m≤10):Parts 1 64 M:=by
 have n0:0<M.rows.length:=by have:=h.n;have:=h.r0;omega
 have hl:((M.rows.getD 0 []).length:Int)=l:=(h.row _ (ZaI n0)).1
 refine⟨n0,by have:=h.n;omega,by have:=h.n;have:=h.s;omega,fun x hx=>⟨by have:=(h.row x hx).1;omega,fun y hy=>?_⟩,by have:=h.l0;omega,by omega,fun x hx=>?_⟩
 ·have:=(h.row x hx).2 y hy;have:=h.n;omega
 ·have:=h.sg x hx;omega
noncomputable def stp(rows:List (List Int))(r l:Int):Int:=(rows.getD r.toNat []).getD l.toNat 0
theorem Parts.stp{a b:Int}{M:Mach}(h:Parts a b M){r l:Int}(h0:0≤r)(h1:r<M.rows.length)(l0:0≤l)(l1:l<(M.rows.getD 0 []).length):0≤stp M.rows r l∧stp M.rows r l<M.rows.length:=by
 have hr:r.toNat<M.rows.length:=by omega
 have hx:=h.row _ (ZaI (d:=[]) hr)
 exact hx.2 _ (ZaI (by rw[hx.1];omega))
section
variable{α:Type}[DecidableEq α]
noncomputable def addM(met:List α)(x:α):List α:=if x∈met then met else met++[x]
noncomputable def growM(g:α→Nat→α)(a:α)(met:List α)(n:Nat):List α:=(List.range n).foldl (fun m l=>addM m (g a l)) met
theorem Zaz(g:α→Nat→α)(a:α)(met:List α)(n:Nat):growM g a met (n+1)=addM (growM g a met n) (g a n):=by
 unfold growM;rw[List.range_succ,List.foldl_append];rfl
inductive Bfs(g:α→Nat→α)(n:Nat):List α→Nat→List α→Prop
 | done {met:List α} {i:Nat}:met.length≤i→Bfs g n met i met
 | step {met F:List α} {i:Nat} (h:i<met.length):Bfs g n (growM g met[i] met n) (i+1) F→Bfs g n met i F
theorem Zdg(met:List α)(x:α):∃ r,addM met x=met++r:=by
 unfold addM;split
 ·exact⟨[],by simp⟩
 ·exact⟨[x],rfl⟩
theorem ZeV(met:List α)(x:α):x∈addM met x:=by
 unfold addM;split
 ·assumption
 ·simp
theorem ZiI{met:List α}{x:α}(h:met.Nodup):(addM met x).Nodup:=by
 unfold addM;split
 ·exact h
 ·rename_i hx
  rw[List.nodup_append]
  exact⟨h,by simp,fun a ha b hb=>by rw[List.mem_singleton.mp hb];exact fun z=>hx (z▸ha)⟩
theorem ZlR{met U:List α}{x:α}(h:∀ y∈met,y∈U)(hx:x∈U):∀ y∈addM met x,y∈U:=by
 unfold addM;split
 ·exact h
 ·intro y hy
  rcases List.mem_append.mp hy with hy|hy
  ·exact h y hy
  ·rw[List.mem_singleton.mp hy];exact hx
theorem Zb4(g:α→Nat→α)(a:α)(met:List α):∀ n,∃ r,growM g a met n=met++r
 | 0=>⟨[],by simp[growM]⟩
 | n+1=>by
  obtain⟨r,e⟩:=Zb4 g a met n
  obtain⟨r',e'⟩:=Zdg (growM g a met n) (g a n)
  rw[Zaz,e',e]
  exact⟨r++r',by simp⟩
theorem Bfs.pre{g:α→Nat→α}{n:Nat}{met F:List α}{i:Nat}(h:Bfs g n met i F):∃ r,F=met++r:=by
 induction h with
 | done _=>exact⟨[],by simp⟩
 | @step met F i h _ ih =>
  obtain⟨r,e⟩:=ih
  obtain⟨r',e'⟩:=Zb4 g met[i] met n
  exact⟨r'++r,by rw[e,e',List.append_assoc]⟩
theorem ZiJ{met r:List α}{x:α}(h:x∈met):(met++r).idxOf x=met.idxOf x:=by
 rw[List.idxOf_append,if_pos h]
theorem Zdh{met U:List α}(nd:met.Nodup)(h:∀ x∈met,x∈U):met.length≤U.length:=by
 induction met generalizing U with
 | nil=>simp
 | cons a met ih =>
  rw[List.nodup_cons] at nd
  have h1:=ih (U:=U.erase a) nd.2 fun x hx=>(List.mem_erase_of_ne (fun (z:x=a)=>nd.1 (z▸hx))).mpr (h x (.tail _ hx))
  have h2:=List.length_erase_of_mem (h a (.head _))
  have h3:0<U.length:=List.length_pos_of_mem (h a (.head _))
  simp only[List.length_cons]
  omega
noncomputable def rowN(g:α→Nat→α)(F:List α)(a:α)(n:Nat):List Int:=(List.range n).map fun l=>(F.idxOf (g a l):Int)
theorem ZiK(g:α→Nat→α)(F:List α)(a:α)(n:Nat):rowN g F a (n+1)=rowN g F a n++[(F.idxOf (g a n):Int)]:=by
 unfold rowN;rw[List.range_succ,List.map_append];rfl
theorem ZgX{g:α→Nat→α}{met r:List α}{a:α}{n:Nat}(h:∀ l,l<n→g a l∈met):rowN g (met++r) a n=rowN g met a n:=by
 unfold rowN
 refine List.map_congr_left fun l hl=>?_
 rw[ZiJ (h l (List.mem_range.mp hl))]
noncomputable def numK(met:List α):List (α×PyData):=met.zipIdx.map fun p=>(p.1,PyData.int (p.2:Int))
theorem ZiL(met:List α)(x:α):numK (met++[x])=numK met++[(x,.int (met.length:Int))]:=by
 unfold numK;rw[List.zipIdx_append,List.map_append];simp
theorem ZfM(x:α):∀ (met:List α) (k:Nat),getA ((met.zipIdx k).map fun p=>(p.1,PyData.int (p.2:Int))) x=if x∈met then some (.int ((k+met.idxOf x:Nat):Int)) else none
 | [],_=>rfl
 | y::met,k=>by
  rw[List.zipIdx_cons,List.map_cons]
  have ih:=ZfM x met (k+1)
  unfold getA at ih ⊢
  rw[List.find?_cons]
  by_cases h:y=x
  ·subst h
   simp[List.idxOf_cons]
  ·have h1:decide (y=x)=false:=decide_eq_false h
   simp only[h1]
   rw[ih]
   have h2:(y == x)=false:=beq_false_of_ne h
   by_cases hx:x∈met
   ·rw[if_pos hx,if_pos (.tail _ hx),List.idxOf_cons,h2]
    simp only[cond_false]
    congr 3
    omega
   ·rw[if_neg hx,if_neg (by simp[hx,Ne.symm h])]
theorem ZcA(met:List α)(x:α):getA (numK met) x=if x∈met then some (.int (met.idxOf x:Int)) else none:=by
 have:=ZfM x met 0
 rw[Nat.zero_add] at this
 exact this
theorem ZgY{met:List α}{x:α}(h:x∉met):putA (numK met) x (.int (met.length:Int))=numK (met++[x]):=by
 unfold putA;rw[ZcA,if_neg h,ZiL];rfl
end
structure Th(α:Type) where
 start:α
 n:Nat
 m:Int
 g:α→Nat→α
 U:List α
structure Th.Ok{α:Type}(θ:Th α):Prop where
 mem:θ.start∈θ.U
 cl:∀ x∈θ.U,∀ l,l<θ.n→θ.g x l∈θ.U
 um:(θ.U.length:Int)≤θ.m
 n1:θ.n≤1000
 u1:θ.U.length≤1000
 m1:θ.m≤1000
noncomputable def PreL{α:Type}(e:α→PyData)(θ:Th α)(cs:List AV):Prop:=∃ (x:α) (l:Nat),cs=[.d (e x),.d (.int l)]∧x∈θ.U∧l<θ.n
noncomputable def PostL{α:Type}(e:α→PyData)(θ:Th α)(cs:List AV)(c:AV):Prop:=∃ (x:α) (l:Nat),cs=[.d (e x),.d (.int l)]∧c=.d (e (θ.g x l))
noncomputable def dMet{α:Type}[DecidableEq α](e:α→PyData)(θ:Th α)(F:List α):PyData:=.tuple [.list (F.map e),.tuple ((F.map fun a=>rowN θ.g F a θ.n).map tI)]
noncomputable abbrev oE{α:Type}(e:α→PyData)(xs:List α):AV:=.own (xs.map fun x=>.d (e x))
theorem ZbN{α:Type}(e:α→PyData)(xs:List α):(oE e xs).data=.list (xs.map e):=by rw[AV.data,ZaQ]
theorem Znz{α:Type}{e:α→PyData}{xs:List α}{i:Nat}(h:i<xs.length):atI (xs.map e) (i:Int)=some (e xs[i]) :=
 Zgy (by omega) (by rw[Int.toNat_natCast,List.getElem?_map,List.getElem?_eq_getElem h];rfl)
noncomputable def PreS{α:Type}(e:α→PyData)(θ:Th α)(cs:List AV):Prop:=∃ x:α,cs=[.d (e x)]∧x∈θ.U
noncomputable def PostS{α:Type}(e:α→PyData)(sg:α→Int)(cs:List AV)(c:AV):Prop:=∃ x:α,cs=[.d (e x)]∧c=.d (.int (sg x))
noncomputable def mMet{α:Type}[DecidableEq α](θ:Th α)(sg:α→Int)(F:List α):Mach:=⟨F.map fun a=>rowN θ.g F a θ.n,F.map sg⟩
noncomputable def Zky{α:Type}(P:Program)(w:World)(K:W.Frag)(mg:Str→Option Value)(base:Heap)(e:α→PyData)(θ:Th α×(α→Int))(cs:List AV):Prop :=
 θ.1.Ok∧cs=[.d (e θ.1.start),.d (.int θ.1.n),.obj (CloOk P w K mg base (CXE P w) 1 (spR K (PreL e θ.1) (PostL e θ.1) NP)),.obj (CloOk P w K mg base (CXE P w) 1 (spR K (PreS e θ.1) (PostS e θ.2) NP)),.d (.int θ.1.m)]
noncomputable def ZiM{α:Type}[DecidableEq α](θ:Th α×(α→Int))(_:List AV)(c:AV):Prop:=∃ F,Bfs θ.1.g θ.1.n [θ.1.start] 0 F∧F.Nodup∧(∀ x∈F,x∈θ.1.U)∧c=.d (dM (mMet θ.1 θ.2 F))
structure ThX(α:Type) where
 start:α
 n:Nat
 m:Int
 g:α→Nat→α
 U:α→Prop
noncomputable def ThX.t{α:Type}(θ:ThX α):Th α:=⟨θ.start,θ.n,θ.m,θ.g,[]⟩
structure ThX.Ok{α:Type}(θ:ThX α):Prop where
 mem:θ.U θ.start
 cl:∀ x,θ.U x→∀ l,l<θ.n→θ.U (θ.g x l)
 n1:θ.n≤1000
 m0:0≤θ.m
 m1:θ.m≤1000
noncomputable def PreLX{α:Type}(e:α→PyData)(θ:ThX α)(cs:List AV):Prop:=∃ (x:α) (l:Nat),cs=[.d (e x),.d (.int l)]∧θ.U x∧l<θ.n
noncomputable def PostLX{α:Type}(e:α→PyData)(θ:ThX α)(cs:List AV)(c:AV):Prop:=∃ (x:α) (l:Nat),cs=[.d (e x),.d (.int l)]∧c=.d (e (θ.g x l))
noncomputable def ZgZ{α:Type}(P:Program)(w:World)(K:W.Frag)(mg:Str→Option Value)(base:Heap)(e:α→PyData)(θ:ThX α)(cs:List AV):Prop :=
 θ.Ok∧cs=[.d (e θ.start),.d (.int θ.n),.obj (CloOk P w K mg base (CXE P w) 1 (spR K (PreLX e θ) (PostLX e θ) NP)),.d (.int θ.m)]
structure MetX{α:Type}[DecidableEq α](θ:ThX α)(F:List α):Prop where
 bf:Bfs θ.g θ.n [θ.start] 0 F
 nd:F.Nodup
 u:∀ x∈F,θ.U x
 le:(F.length:Int)≤θ.m
noncomputable def ZfN{α:Type}[DecidableEq α](e:α→PyData)(θ:ThX α)(_:List AV)(c:AV):Prop:=∃ F,MetX θ F∧c=.d (dMet e θ.t F)
noncomputable def BigX{α:Type}(θ:ThX α):Prop:=∃ G:List α,G.Nodup∧(∀ x∈G,θ.U x)∧θ.m<G.length
noncomputable def Zkz{α:Type}(C:Addr)(θ:ThX α)(_:List AV)(e:Exc):Prop:=e=⟨C,[]⟩∧BigX θ
theorem Zd8{α:Type}[DecidableEq α](g:α→Nat→α)(a:α)(met:List α):∀ n,(growM g a met n).length≤met.length+n
 | 0=>Nat.le_refl _
 | n+1=>by
  have:=Zd8 g a met n
  rw[Zaz]
  unfold addM
  split
  ·omega
  ·rw[List.length_append]
   simp
   omega
theorem ZnA{α:Type}[DecidableEq α]{P:α→Prop}{G:List α}{t:α}(h:∀ x∈G,P x)(ht:P t):∀ x∈addM G t,P x:=by
 unfold addM
 split
 ·exact h
 ·intro x hx
  rcases List.mem_append.mp hx with hx|hx
  ·exact h x hx
  ·rw[List.mem_singleton.mp hx];exact ht
structure MetIX{α:Type}[DecidableEq α](θ:ThX α)(met:List α)(i:Nat):Prop where
 nd:met.Nodup
 u:∀ x∈met,θ.U x
 all:∀ j (h:j<met.length),j<i→∀ l,l<θ.n→θ.g met[j] l∈met
 bf:∀ F,Bfs θ.g θ.n met i F→Bfs θ.g θ.n [θ.start] 0 F
 le:i≤met.length
 b1:met.length≤θ.m.toNat+1
 b2:0<i→(met.length:Int)≤θ.m
 ne:0<met.length
section
variable{C_WheelError C_NoBase C_TooGreat C_NotLike C_NoStep:Addr}
theorem ZfO(T:Txt K mg)(Z:Cs K mg C_WheelError C_NoBase C_TooGreat C_NotLike C_NoStep){α:Type}[DecidableEq α]{e:α→PyData}(F:KEnc e)(hj:∀ a b,e a=e b→a=b)(hf:∀ x,noLst (e x)=true) :
  Cal P w K mg base (CXE P w) 2 "met_from" ["start", "letters", "lead", "most"] [] (spFX K (ZgZ P w K mg base e) (ZfN e) (Zkz C_TooGreat)):=by
 refine valRFX T.x_met_from Zba (fun θ cs ⟨_,e⟩=>by rw[e];rfl) (fun θ f cdv A outer s H E hr=>?_) [] (by simp)
 refine⟨_,(Zab (Zag (i:=4) Zba.nd rfl (Or.inl rfl) (ZbU (Zaa (pv 0) Zac)))
   (Zab (ZlE (i:=5) Zba.nd rfl (Or.inl rfl) (ZjR hr.units (pv 0) Zad))
   (Zab (Zag (i:=6) Zba.nd rfl (Or.inl rfl) (ZbU Zac))
   (Zab (Zb6 (Zfz rfl rfl) (Zas ZdO (Zah (Zai (K:=K) rfl) rfl T.n_len PySem.boot_len (Zaa (pv 6) Zac)) (Zah (Zai (K:=K) rfl) rfl T.n_len PySem.boot_len (Zaa (pv 4) Zac)) (nomark _))
    (Zab (Zag (i:=7) Zba.nd rfl (Or.inl rfl) (ZbU Zac))
    (Zab (Zbp (Zfz rfl rfl) rfl (ZaT rfl T.n_range (Zaa (pv 1) Zac)) (Zal (i:=8) Zba.nd rfl (Or.inl rfl))
     (Zab (Zag (i:=9) Zba.nd rfl (Or.inl rfl) (ZfF (CX:=(CXE P w)) (P:=P) (w:=w) (K:=K) (mg:=mg) (base:=base) (i:=2) (k:=1) rfl rfl rfl rfl rfl (hr.mono (by decide)) passE (Zaa (Zat (Zaj (K:=K) rfl hr.units) (pv 4) (Zah (Zai (K:=K) rfl) rfl T.n_len PySem.boot_len (Zaa (pv 6) Zac)) (fun _ _=>rfl)) (Zaa (pv 8) Zac))))
     (Zab (Zdz (Zas (Zc1 (K:=K) rfl hr.units) (pv 9) (pv 5) (by with_unfolding_all rfl))
      (Zab (ZdN (Zah (Zai (K:=K) rfl) rfl T.n_len PySem.boot_len (Zaa (pv 4) Zac)) (Zfd (pv 5) (pv 9) (ZdS hr.units)))
      (Zae (ZaV (ZbW (K:=K) rfl PySem.F.plainAttrs_list PySem.F.slot_list_append PySem.F.type_list_append ZaP (pv 4) (Zaa (pv 9) Zac)))))
      ZaO)
     (Zae (ZaV (ZbW (K:=K) rfl PySem.F.plainAttrs_list PySem.F.slot_list_append PySem.F.type_list_append ZaP (pv 7) (Zaa (Zat (Zaj (K:=K) rfl hr.units) (pv 5) (pv 9) (fun _ _=>rfl)) Zac)))))))
    (Zab (ZaV (ZbW (K:=K) rfl PySem.F.plainAttrs_list PySem.F.slot_list_append PySem.F.type_list_append ZaP (pv 6) (Zaa (Zar (ZaG (K:=K) rfl) rfl T.n_tuple PyProof.Rows.boot_tuple (Zaa (pv 7) Zac)) Zac)))
    (Zae (Zdl (Zas ZeJ (Zah (Zai (K:=K) rfl) rfl T.n_len PySem.boot_len (Zaa (pv 4) Zac)) (pv 3) (nomark _))
     (Zae (ZdW PySem.F.excBase_ValueError rfl PySem.F.excBase_ValueError Z.x_TooGreat rfl rfl Z.c_TooGreat))
     ZaO))))))
   (Zae (Zaw (ZcW (Zaa (pv 4) (Zaa (Zar (ZaG (K:=K) rfl) rfl T.n_tuple PyProof.Rows.boot_tuple (Zaa (pv 6) Zac)) Zac))))))))),?_⟩
 rintro cs ⟨ok,rfl⟩
 show Sv K _ _ _ [some (.d (e θ.start)),some (.d (.int θ.n)),some (.obj (CloOk P w K mg base (CXE P w) 1 (spR K (PreLX e θ) (PostLX e θ) NP))),some (.d (.int θ.m)),none,none,none,none,none,none] _
 walk_at "vi"
 refine Zft ?_
 walk_at "vi"
 refine⟨[.d (e θ.start)],.cons rfl .nil,by show 1≤1000;decide,?_⟩
 walk_at "vi"
 refine ZjS F ?hn ?_
 case hn=>show 5<10;decide
 walk_at "vi"
 refine⟨θ.start,rfl,NR.av,?_⟩
 walk_at "vi"
 refine⟨.int 0,rfl,?_⟩
 show Sv K _ _ _ [some (.d (e θ.start)),some (.d (.int θ.n)),some (.obj (CloOk P w K mg base (CXE P w) 1 (spR K (PreLX e θ) (PostLX e θ) NP))),some (.d (.int θ.m)),some (.own [.d (e θ.start)]),some (.dic (encD e [(θ.start,.int 0)])),none,none,none,none] _
 walk_at "vi"
 refine ZcM (fun m ρ=>∃ (met:List α) (rows:List (List Int)) (o1 o2 o3:Option AV),ρ=[some (.d (e θ.start)),some (.d (.int θ.n)),some (.obj (CloOk P w K mg base (CXE P w) 1 (spR K (PreLX e θ) (PostLX e θ) NP))),some (.d (.int θ.m)),some (oE e met),some (.dic (encD e (numK met))),some (.own (rows.map fun x=>.d (tI x))),o1,o2,o3] ∧
  MetIX θ met rows.length∧(∀ j (h:j<met.length),j<rows.length→rows[j]?=some (rowN θ.g met met[j] θ.n))∧m=θ.m.toNat+1-rows.length) (θ.m.toNat+1) ⟨[θ.start],[],none,none,none,rfl,⟨by simp,by simpa using ok.mem,fun j _ hj=>by simp at hj,fun F h=>h,by simp,by simp,(fun z=>by simp at z),by simp⟩,fun j _ hj=>by simp at hj,by simp⟩ ?_
 rintro m ρ ⟨met,rows,o1,o2,o3,rfl,I,hrows,rfl⟩
 have hml:=I.b1
 have hm0:=ok.m0
 have hm1:=ok.m1
 have hle:=I.le
 walk_at "vi"
 refine Zc5 (ds:=rows.map tI) (by exact (Zcw rows fun x=>.d (tI x))) ?_
 rw[List.length_map]
 walk_at "vi"
 refine Zc5 (ds:=met.map e) (by exact ZbN e met) ?_
 rw[List.length_map]
 walk_at "vi"
 refine ite2 (fun h=>?_) fun h=>?_
 ·have hlt:rows.length<met.length:=by have:=of_decide_eq_true h;omega
  walk_at "vi"
  refine ZeN ?_
  walk_at "vi"
  have hn1:=ok.n1
  have ha:=I.u _ (List.getElem_mem hlt)
  refine⟨(θ.n:Int),rfl,⟨by omega,by omega⟩,fun l ρ=>∃ (o2 o3:Option AV),ρ=[some (.d (e θ.start)),some (.d (.int θ.n)),some (.obj (CloOk P w K mg base (CXE P w) 1 (spR K (PreLX e θ) (PostLX e θ) NP))),some (.d (.int θ.m)),some (oE e (growM θ.g met[rows.length] met l)),some (.dic (encD e (numK (growM θ.g met[rows.length] met l)))),some (.own (rows.map fun x=>.d (tI x))),some (oI (rowN θ.g (growM θ.g met[rows.length] met l) met[rows.length] l)),o2,o3] ∧
   (growM θ.g met[rows.length] met l).Nodup∧(∀ x∈growM θ.g met[rows.length] met l,θ.U x)∧∀ l',l' < l→θ.g met[rows.length] l'∈growM θ.g met[rows.length] met l,⟨o2,o3,rfl,I.nd,I.u,fun l' h=>by omega⟩,?_,?_⟩
  ·rintro l ρ hl ⟨o2,o3,rfl,k1,k2,k3⟩
   have hl':l<θ.n:=by omega
   obtain⟨r,er⟩:=Zb4 θ.g met[rows.length] met l
   have hgl:=Zd8 θ.g met[rows.length] met l
   have hth:=ok.cl _ ha l hl'
   walk_at "vi"
   refine Znv (i:=2) rfl ?_
   walk_at "vi"
   refine Zc5 (ds:=rows.map tI) (by exact (Zcw rows fun x=>.d (tI x))) ?_
   rw[List.length_map]
   have hG:rows.length<(growM θ.g met[rows.length] met l).length:=by rw[er,List.length_append];omega
   have eG:(growM θ.g met[rows.length] met l)[rows.length]=met[rows.length]:=by
    simp only[er]
    exact List.getElem_append_left hlt
   refine ix_L (ZbN e _) (Znz hG) (Item.flat (hf _)) ?_
   rw[eG]
   generalize hGG:growM θ.g met[rows.length] met l=G at k1 k2 k3 er hgl hG eG ⊢
   generalize hth':θ.g met[rows.length] l=t at hth
   walk_at "vi"
   refine⟨[.d (e met[rows.length]),.d (.int l)],.cons (.d NR.av rfl) (.cons (.d NR.av rfl) .nil),⟨met[rows.length],l,rfl,ha,hl'⟩,fun c ⟨x,l2,ee,ec⟩=>?_,fun _ z=>z.elim⟩
   simp only[List.append_nil,List.cons.injEq,AV.d.injEq,PyData.int.injEq,and_true] at ee
   have ex:=hj _ _ ee.1
   have el:l=l2:=by omega
   subst ex el
   rw[hth'] at ec
   subst ec
   refine⟨_,Got.own (hf _),?_⟩
   walk_at "vi"
   refine Zf6 (fun ρ=>ρ=[some (.d (e θ.start)),some (.d (.int θ.n)),some (.obj (CloOk P w K mg base (CXE P w) 1 (spR K (PreLX e θ) (PostLX e θ) NP))),some (.d (.int θ.m)),some (oE e (addM G t)),some (.dic (encD e (numK (addM G t)))),some (.own (rows.map fun x=>.d (tI x))),some (oI (rowN θ.g G met[rows.length] l)),some (.d (.int l)),some (.d (e t))]) ?_ ?_
   case refine_2 =>
    walk_at "vi"
    refine Zir F (c:=t) (kvs:=numK G) rfl rfl ?_
    rw[ZcA]
    by_cases hm:t∈G
    ·rw[if_pos hm]
     walk_at "vi"
     show (if (!true)=true then _ else _)
     refine iteNT ?_
     walk_at "vi"
     have ea:addM G t=G:=if_pos hm
     rw[ea]
    ·rw[if_neg hm]
     walk_at "vi"
     show (if (!false)=true then _ else _)
     refine iteNF ?_
     walk_at "vi"
     refine Znn F ?hz ?_
     case hz=>unfold numK;rw[List.length_map,List.length_zipIdx];omega
     walk_at "vi"
     refine Zc5 (ds:=G.map e) (by exact ZbN e G) ?_
     rw[List.length_map]
     walk_at "vi"
     refine⟨_,t,rfl,rfl,NR.av,?_⟩
     rw[ZgY hm]
     walk_at "vi"
     refine v_ap ?hz ?_
     case hz=>rw[List.length_map];omega
     have ea:addM G t=G++[t]:=if_neg hm
     rw[ea]
     show [_,_,_,_,some (AV.own ((G.map fun x=>.d (e x))++[.d (e t)])),_,_,_,_,_]=_
     rw[oE,List.map_append]
     rfl
   rintro ρ rfl
   walk_at "vi"
   refine Zhq F (c:=t) (kvs:=numK (addM G t)) (z:=.int ((addM G t).idxOf t:Int)) rfl rfl (by rw[ZcA,if_pos (ZeV G t)]) (Item.flat rfl) ?_
   walk_at "vi"
   refine v_ap ?hz ?_
   case hz=>rw[List.length_map];unfold rowN;rw[List.length_map,List.length_range];omega
   obtain⟨r2,er2⟩:=Zdg G t
   have eg:growM θ.g met[rows.length] met (l+1)=addM G t:=by rw[Zaz,hGG,hth']
   have erow:rowN θ.g (addM G t) met[rows.length] (l+1)=rowN θ.g G met[rows.length] l++[((addM G t).idxOf t:Int)]:=by
    rw[ZiK,hth',er2,ZgX k3]
   rw[Zd7]
   show ∃ o2 o3,_
   rw[eg,erow]
   refine⟨_,_,rfl,ZiI k1,ZnA k2 hth,fun l' h'=>?_⟩
   by_cases h2:l' < l
   ·rw[er2];exact List.mem_append_left _ (k3 l' h2)
   ·have:l'=l:=by omega
    subst this
    rw[hth'];exact ZeV G t
  ·rintro ρ ⟨o2,o3,rfl,k1,k2,k3⟩
   rw[Int.toNat_natCast] at k1 k2 k3 ⊢
   obtain⟨r,er⟩:=Zb4 θ.g met[rows.length] met θ.n
   have hgl:=Zd8 θ.g met[rows.length] met θ.n
   have hbf:∀ F,Bfs θ.g θ.n (growM θ.g met[rows.length] met θ.n) (rows.length+1) F→Bfs θ.g θ.n [θ.start] 0 F:=fun F h=>I.bf F (.step hlt h)
   generalize hGG:growM θ.g met[rows.length] met θ.n=G at k1 k2 k3 er hgl hbf ⊢
   walk_at "vi"
   refine Za9 (ds:=(rowN θ.g G met[rows.length] θ.n).map .int) (by exact Zay _) (Kp.flat (Zaq _)) ?_
   refine v_ap ?hz ?_
   case hz=>rw[List.length_map];omega
   walk_at "vs"
   refine Zc5 (ds:=G.map e) (by exact ZbN e G) ?_
   rw[List.length_map]
   walk_at "vs"
   refine ite2 (fun h9=>?_) fun h9=>?_
   ·walk_at "vs"
    exact Zb7 ⟨rfl,G,k1,k2,of_decide_eq_true h9⟩
   have hum:(G.length:Int)≤θ.m:=by
    have:¬ (θ.m<(G.length:Int)):=fun z=>h9 (decide_eq_true z)
    omega
   walk_at "vi"
   have hmG:met.length≤G.length:=by rw[er,List.length_append];omega
   have sub:∀ x∈met,x∈G:=fun x hx=>by rw[er];exact List.mem_append_left _ hx
   have at':∀ j (h:j<G.length) (h':j<met.length),G[j]=met[j]:=fun j h h'=>by
    simp only[er]
    exact List.getElem_append_left h'
   refine⟨θ.m.toNat+1-(rows.length+1),by omega,G,rows++[rowN θ.g G met[rows.length] θ.n],some (oI (rowN θ.g G met[rows.length] θ.n)),o2,o3,?_,⟨k1,k2,fun j h hj l hl=>?_,fun F h=>?_,?_,by omega,fun _=>hum,by omega⟩,fun j h hj=>?_,by simp⟩
   ·show [_,_,_,_,_,_,some (AV.own ((rows.map fun x=>.d (tI x))++[.d (tI (rowN θ.g G met[rows.length] θ.n))])),_,_,_]=_
    rw[List.map_append]
    rfl
   ·rw[List.length_append] at hj
    by_cases h2:j<rows.length
    ·rw[at' j h (by omega)]
     exact sub _ (I.all j (by omega) h2 l hl)
    ·have:j=rows.length:=by simp at hj;omega
     subst this
     rw[at' rows.length h hlt]
     exact k3 l hl
   ·rw[List.length_append] at h
    exact hbf F h
   ·rw[List.length_append];simp;omega
   ·rw[List.length_append] at hj
    by_cases h2:j<rows.length
    ·rw[List.getElem?_append_left h2,at' j h (by omega),hrows j (by omega) h2]
     congr 1
     rw[er,ZgX fun l hl=>I.all j (by omega) h2 l hl]
    ·have:j=rows.length:=by simp at hj;omega
     subst this
     rw[List.getElem?_append_right (Nat.le_refl _),at' rows.length h hlt]
     simp
 ·have hge:met.length≤rows.length:=by
   have:¬ ((rows.length:Int)<met.length):=fun z=>h (decide_eq_true z)
   omega
  walk_at "vi"
  refine ZlH ?_
  walk_at "vi"
  refine Za9 (ds:=rows.map tI) (by exact (Zcw rows fun x=>.d (tI x))) (Kp.flat (Zct (fun x=>ZcT x) rows)) ?_
  walk_at "vi"
  have hrl:rows.length=met.length:=by omega
  have er:rows=met.map fun a=>rowN θ.g met a θ.n:=by
   refine List.ext_getElem? fun j=>?_
   by_cases hj:j<met.length
   ·rw[hrows j hj (by omega),List.getElem?_map,List.getElem?_eq_getElem hj];rfl
   ·rw[List.getElem?_eq_none (by omega),List.getElem?_eq_none (by rw[List.length_map];omega)]
  refine⟨by walk_at "nrs",by show 2≤1000;decide,_,.inr ⟨NR.bor,rfl⟩,met,⟨I.bf met (.done hge),I.nd,I.u,I.b2 (by have:=I.ne;omega)⟩,?_⟩
  show AV.d (.tuple [(oE e met).data,.tuple (rows.map tI)])=_
  rw[ZbN]
  unfold dMet ThX.t
  rw[← er]
end
noncomputable def PreSX{α:Type}(e:α→PyData)(θ:ThX α)(cs:List AV):Prop:=∃ x:α,cs=[.d (e x)]∧θ.U x
noncomputable def Zgd{α:Type}(P:Program)(w:World)(K:W.Frag)(mg:Str→Option Value)(base:Heap)(e:α→PyData)(θ:ThX α×(α→Int))(cs:List AV):Prop :=
 θ.1.Ok∧cs=[.d (e θ.1.start),.d (.int θ.1.n),.obj (CloOk P w K mg base (CXE P w) 1 (spR K (PreLX e θ.1) (PostLX e θ.1) NP)),.obj (CloOk P w K mg base (CXE P w) 1 (spR K (PreSX e θ.1) (PostS e θ.2) NP)),.d (.int θ.1.m)]
noncomputable def Zg0{α:Type}[DecidableEq α](θ:ThX α×(α→Int))(_:List AV)(c:AV):Prop:=∃ F,MetX θ.1 F∧c=.d (dM (mMet θ.1.t θ.2 F))
noncomputable def Zj2{α:Type}(C:Addr)(θ:ThX α×(α→Int))(_:List AV)(e:Exc):Prop:=e=⟨C,[]⟩∧BigX θ.1
section
variable{C_WheelError C_NoBase C_TooGreat C_NotLike C_NoStep:Addr}
theorem Zcm(T:Txt K mg)(Z:Cs K mg C_WheelError C_NoBase C_TooGreat C_NotLike C_NoStep){α:Type}[DecidableEq α]{e:α→PyData}(Fe:KEnc e)(hj:∀ a b,e a=e b→a=b)(hf:∀ x,noLst (e x)=true) :
  Cal P w K mg base (CXE P w) 3 "machine_met" ["start", "letters", "lead", "sign", "most"] [] (spFX K (Zgd P w K mg base e) Zg0 (Zj2 C_TooGreat)):=by
 have c_met_from:Cal P w K mg base (CXE P w) 2 "met_from" ["start", "letters", "lead", "most"] [] (spFX K (ZgZ P w K mg base e) (ZfN e) (Zkz C_TooGreat)):=ZfO T Z Fe hj hf
 refine valRFX T.x_machine_met ZcG (fun θ cs ⟨_,e⟩=>by rw[e];rfl) (fun θ f cdv A outer s H E hr=>?_) [] (by simp)
 refine⟨_,(Zab (Zag (i:=5) ZcG.nd rfl (Or.inl rfl) (ZcN (c_met_from.mono (by decide)) hr rfl (Zaa (pv 0) (Zaa (pv 1) (Zaa (pv 2) (Zaa (pv 4) Zac))))))
   (Zae (Zaw (ZcW (Zaa (Zat (Zaj (K:=K) rfl hr.units) (pv 5) Zad (fun _ _=>rfl)) (Zaa (Zar (ZaG (K:=K) rfl) rfl T.n_tuple PyProof.Rows.boot_tuple (Zaa (Zbc (N:=["thing", "sign"]) (cap:=[none,some 3]) rfl rfl rfl (by kernel_rfl) (ZbE (K:=K) rfl (Zat (Zaj (K:=K) rfl hr.units) (pv 5) Zad (fun _ _=>rfl))) (fun _ _ _ _=>(Zal (i:=0) (show (["thing", "sign"]:List Str).Nodup from by decide +kernel) rfl (Or.inl rfl))) (fun _ _ _ _=>ZaM) (fun _ _ _ _=>(ZfF (CX:=(CXE P w)) (P:=P) (w:=w) (K:=K) (mg:=mg) (base:=base) (i:=1) (k:=1) rfl rfl rfl rfl rfl (hr.mono (by decide)) passE (Zaa (pv 0) Zac)))) Zac)) Zac)))))),?_⟩
 rintro cs ⟨ok,rfl⟩
 obtain⟨θ,sg⟩:=θ
 show Sv K _ _ _ [some (.d (e θ.start)),some (.d (.int θ.n)),some (.obj (CloOk P w K mg base (CXE P w) 1 (spR K (PreLX e θ) (PostLX e θ) NP))),some (.obj (CloOk P w K mg base (CXE P w) 1 (spR K (PreSX e θ) (PostS e sg) NP))),some (.d (.int θ.m)),none] _
 walk_at "vi"
 refine ZiB ?_
 walk_at "vi"
 refine⟨θ,[.d (e θ.start),.d (.int θ.n),.obj _,.d (.int θ.m)],.cons (.d NR.av rfl) (.cons (.d NR.av rfl) (.cons .o (.cons (.d NR.av rfl) .nil))),⟨ok,rfl⟩,fun c ⟨F,hX,ec⟩=>?_,fun _ z=>z⟩
 subst ec
 refine⟨_,Got.br,?_⟩
 have hm1:θ.m≤1000:=ok.m1
 have hFl:=hX.le
 have h3:=hX.u
 refine v_sB (by repeat (first|exact NoOwn.nil|refine NoOwn.no ?_|refine NoOwn.d ?_|refine NoOwn.o ?_)) ?_
 show Sv K _ _ _ [some (.d (e θ.start)),some (.d (.int θ.n)),some (.obj (CloOk P w K mg base (CXE P w) 1 (spR K (PreLX e θ) (PostLX e θ) NP))),some (.obj (CloOk P w K mg base (CXE P w) 1 (spR K (PreSX e θ) (PostS e sg) NP))),some (.d (.int θ.m)),some (.d (dMet e θ.t F))] _
 walk_at "vm"
 refine Zc3 ?_
 walk_at "vm"
 refine Zlu (α:=α) ?_
 walk_at "vm"
 refine⟨F,e,fun i ys=>ys=(F.take i).map fun x=>.d (.int (sg x)),.inl rfl,NR.av,by omega,rfl,fun i ys hi iy=>?_,fun ys iy=>?_⟩
 ·show Gv K _ _ [none,some (.obj (CloOk P w K mg base (CXE P w) 1 (spR K (PreSX e θ) (PostS e sg) NP)))] _
  walk_at "vm"
  refine⟨wk_0,ZeR ?_⟩
  refine Znv (i:=1) rfl ?_
  walk_at "vm"
  refine⟨[.d (e F[i])],.cons (.d NR.av rfl) .nil,⟨F[i],rfl,h3 _ (List.getElem_mem hi)⟩,fun c ⟨x,ee,ec⟩=>?_,fun _ z=>z.elim⟩
  simp only[List.append_nil,List.cons.injEq,AV.d.injEq,and_true] at ee
  have ex:=hj _ _ ee
  subst ex ec
  refine⟨_,Got.own rfl,_,rfl,?_⟩
  show ys++_=(F.take (i+1)).map _
  rw[show ys=(F.take i).map _ from iy,List.take_add_one,List.getElem?_eq_getElem hi,List.map_append]
  rfl
 ·have iy:ys=(F.take F.length).map fun x=>.d (.int (sg x)):=iy
  rw[List.take_length] at iy
  subst iy
  have eo:(AV.own (F.map fun x=>.d (.int (sg x))))=oI (F.map sg):=by rw[oI,List.map_map];rfl
  rw[eo]
  refine⟨_,Got.own (ZbB _),?_⟩
  walk_at "vm"
  refine Za9 (ds:=(F.map sg).map .int) (by exact Zay _) (Kp.flat (Zaq _)) ?_
  walk_at "vm"
  refine⟨[.d (.tuple ((F.map fun a=>rowN θ.g F a θ.n).map tI)),.d (tI (F.map sg))],.cons rfl (.cons rfl .nil),by show 2≤1000;decide,_,Zbz rfl,F,hX,rfl⟩
end
theorem Cal.weak{CX:CXT}{k:Nat}{x:Str}{ps:List Str}{dvs:List V}{sp sp':Sp}(c:Cal P w K mg base CX k x ps dvs sp)(h:∀ vs H Q E,sp' vs H Q E→sp vs H Q E):Cal P w K mg base CX k x ps dvs sp' :=
 let ⟨f,fd,ds,h1,h2⟩:=c.ex
 ⟨f,fd,ds,h1.imp h,h2⟩
noncomputable def Th.x{α:Type}(θ:Th α):ThX α:=⟨θ.start,θ.n,θ.m,θ.g,fun x=>x∈θ.U⟩
theorem Zeo(T:Txt K mg){α:Type}[DecidableEq α]{e:α→PyData}(Fe:KEnc e)(hj:∀ a b,e a=e b→a=b)(hf:∀ x,noLst (e x)=true) :
  Cal P w K mg base (CXE P w) 3 "machine_met" ["start", "letters", "lead", "sign", "most"] [] (spF K (Zky P w K mg base e) ZiM):=by
 obtain⟨C_WheelError,C_NoBase,C_TooGreat,C_NotLike,C_NoStep,Z⟩:=T.cs
 refine Cal.weak (Zcm T Z Fe hj hf) fun vs H Q E ⟨θ,tb,as,r,⟨ok,pre⟩,q,_⟩=>⟨(θ.1.x,θ.2),tb,as,r,⟨⟨ok.mem,ok.cl,ok.n1,?_,ok.m1⟩,pre⟩,fun c ⟨F,hX,ec⟩=>q c ⟨F,hX.bf,hX.nd,hX.u,ec⟩,fun e ⟨_,G,nd,u,hm⟩=>?_⟩
 ·have h1:=ok.um
  show 0≤θ.1.m
  omega
 ·have h1:=Zdh (U:=θ.1.U) nd u
  have h2:=ok.um
  have h3:θ.1.m<(G.length:Int):=hm
  omega
noncomputable def gR(M:Mach)(st:List Int)(r:Int)(l:Nat):Int:=st.getD (stp M.rows r l).toNat 0
noncomputable def thR(M:Mach)(st:List Int):Th Int:=⟨0,(M.rows.getD 0 []).length,M.rows.length,gR M st,rgI M.rows.length⟩
noncomputable def sgR(M:Mach)(r:Int):Int:=M.signs.getD r.toNat 0
structure StOk(M:Mach)(st:List Int):Prop where
 len:st.length=M.rows.length
 all:∀ y∈st,0≤y∧y<M.rows.length
theorem Zbl{n:Nat}{x:Int}:x∈rgI n↔0≤x∧x<n:=by
 simp only[rgI,List.mem_map,List.mem_range]
 refine⟨fun⟨a,h,e⟩=>by omega,fun h=>⟨x.toNat,by omega,by omega⟩⟩
theorem ZnB{M:Mach}{st:List Int}(hP:Parts 1 64 M)(hs:StOk M st):(thR M st).Ok:=by
 have h0:=hP.n0
 have h1:=hP.n1
 have hl1:=hP.l1
 refine⟨Zbl.mpr ⟨Int.le_refl _,by show (0:Int)<M.rows.length;omega⟩,fun x hx l hl=>?_,?_,?_,?_,?_⟩
 ·have hx:=Zbl.mp hx
  have hl:l<(M.rows.getD 0 []).length:=hl
  have h2:=hP.stp hx.1 hx.2 (l:=l) (by omega) (by omega)
  exact Zbl.mpr (hs.all _ (ZaI (by rw[hs.len];omega)))
 ·show ((rgI M.rows.length).length:Int)≤M.rows.length
  simp[rgI]
 ·show (M.rows.getD 0 []).length≤1000
  omega
 ·show (rgI M.rows.length).length≤1000
  simp[rgI];omega
 ·show (M.rows.length:Int)≤1000
  omega
noncomputable def ZkA(cs:List AV):Prop:=∃ (M:Mach) (st:List Int),cs=[.d (dM M),.d (dI st)]∧Parts 1 64 M∧StOk M st
noncomputable def ZiN(cs:List AV)(c:AV):Prop:=∃ (M:Mach) (st F:List Int),cs=[.d (dM M),.d (dI st)]∧Bfs (gR M st) (M.rows.getD 0 []).length [0] 0 F∧F.Nodup∧(∀ x∈F,x∈rgI M.rows.length)∧c=.d (dM (mMet (thR M st) (sgR M) F))
theorem ZeW(T:Txt K mg)(B:base.BuiltinsAt mg mainGlobals)(hTs:∀ p∈ts0,p∈Tabs.ts):Cal P w K mg base (CXE P w) 4 "reached_by" ["machine", "stands"] [] (spR K ZkA ZiN NP):=by
 obtain⟨c0,T0⟩:=T.x_reached_by
 have c_machine_met:Cal P w K mg base (CXE P w) 3 "machine_met" ["start", "letters", "lead", "sign", "most"] [] (spF K (Zky P w K mg base PyData.int) ZiM):=Zeo T KEnc.int (fun a b e=>PyData.int.inj e) fun _=>rfl
 refine valRM (k:=3) T0 ZaS (fun cs ⟨M,st,e,_⟩=>by rw[e];rfl) (fun f A outer s H E hr=>?_)
 refine⟨_,(Zab (Zag (i:=2) ZaS.nd rfl (Or.inr rfl) (Zat (Zaj (K:=K) rfl hr.units) (pv 0) Zad (fun _ _=>rfl)))
   (Zab (Zag (i:=3) ZaS.nd rfl (Or.inr rfl) (Zat (Zaj (K:=K) rfl hr.units) (pv 0) Zad (fun _ _=>rfl)))
   (Zab (ZgS (name := "lead") (qual := "reached_by.<locals>.lead") (params:=defArgs Zau) (body:=defBody Zau) (scope:=defScope Zau) (P:=ZaB) (i:=4) ZaS.nd rfl (Or.inl rfl) rfl rfl rfl rfl rfl T0.tab Zdc B)
   (Zab (ZgS (name := "sign") (qual := "reached_by.<locals>.sign") (params:=defArgs Zav) (body:=defBody Zav) (scope:=defScope Zav) (P:=ZaB) (i:=5) ZaS.nd rfl (Or.inl rfl) rfl rfl rfl rfl rfl T0.tab Zde B)
   (Zae (Zaw (ZlB (c_machine_met.mono (by decide)) hr rfl (passEL (E:=E0)) (Zaa Zad (Zaa (Zah (Zai (K:=K) rfl) rfl T.n_len PySem.boot_len (Zaa (Zat (Zaj (K:=K) rfl hr.units) (pv 2) Zad (fun _ _=>rfl)) Zac)) (Zaa (pv 4) (Zaa (pv 5) (Zaa (Zah (Zai (K:=K) rfl) rfl T.n_len PySem.boot_len (Zaa (pv 2) Zac)) Zac)))))))))))),?_⟩
 rintro cs ⟨M,st,rfl,hP,hst⟩
 show Sv K _ _ _ [some (.d (dM M)),some (.d (dI st)),none,none,none,none] _
 have hn0:=hP.n0
 walk_at "vm"
 refine ZgU (hTs (ZaB,Zca) (by simp[ts0])) (by decide +kernel) (by show 4<6;decide) ?_
 show Sv K _ _ _ [some (.d (dM M)),some (.d (dI st)),some (.d (tR M.rows)),some (.d (tI M.signs)),some (.obj _),none] _
 walk_at "vm"
 refine ZgU (hTs (ZaB,Zca) (by simp[ts0])) (by decide +kernel) (by show 5<6;decide) ?_
 show Sv K _ _ _ [some (.d (dM M)),some (.d (dI st)),some (.d (tR M.rows)),some (.d (tI M.signs)),some (.obj _),some (.obj _)] _
 walk_at "vm"
 refine ZlG ?_
 walk_at "vm"
 refine ix_T rfl (Zbt (by decide) (by omega)) Item.d ?_
 walk_at "vm"
 refine ZdC rfl ?_
 rw[List.length_map]
 walk_at "vm"
 refine ZdC rfl ?_
 rw[List.length_map]
 walk_at "vm"
 refine⟨(thR M st,sgR M),[.d (.int 0),.d (.int (M.rows.getD 0 []).length),.obj (CloOk P w K mg base (CXE P w) 1 (spR K (PreL PyData.int (thR M st)) (PostL PyData.int (thR M st)) NP)),.obj (CloOk P w K mg base (CXE P w) 1 (spR K (PreS PyData.int (thR M st)) (PostS PyData.int (sgR M)) NP)),.d (.int M.rows.length)],
  .cons (.d NR.av rfl) (.cons (.d NR.av rfl) (.cons (.o (fun v G1 G2 m h=>h.same m) fun H0 σ ts as H1 H2 v s L hm=>?lead) (.cons (.o (fun v G1 G2 m h=>h.same m) fun H0 σ ts as H1 H2 v s L hm=>?sign) (.cons (.d NR.av rfl) .nil)))),⟨ZnB hP hst,rfl⟩,fun c ⟨F,h1,h2,h3,ec⟩=>?_⟩
 case lead =>
  refine ZgV (k:=0) Zdb ZcR ZaS.nofree (fun _=>rfl) (fun _ _ _ _ _ s us hl=>by obtain⟨a,b,rfl⟩:=len2 hl;exact .of_eq rfl) (fun cs ⟨x,l,e,_⟩=>by rw[e];rfl) (fun cs ⟨x,l,e,_⟩=>by rw[e];rfl) hm L s fun cl f c A outer s H E hr=>?_
  refine⟨_,(Zae (Zaw (Zat (Zaj (K:=K) rfl hr.units) (pv 2) (Zat (Zaj (K:=K) rfl hr.units) (Zat (Zaj (K:=K) rfl hr.units) (pv 3) (pv 0) (fun _ _=>rfl)) (pv 1) (fun _ _=>rfl)) (fun _ _=>rfl)))),?_⟩
  rintro cs ⟨x,l,rfl,hx,hl⟩
  show Sv K _ _ _ [some (.d (.int x)),some (.d (.int l)),some (.d (dI st)),some (.d (tR M.rows))] _
  have hx:=Zbl.mp hx
  have hl:l<(M.rows.getD 0 []).length:=hl
  have h2:=hP.stp hx.1 hx.2 (l:=l) (by omega) (by omega)
  have hr:x.toNat<M.rows.length:=by omega
  have hrow:=(hP.row _ (ZaI (d:=[]) hr)).1
  walk_at "vs"
  refine ix_T rfl (Zbt hx.1 hx.2) Item.d ?_
  walk_at "vs"
  refine ix_T rfl (Za1 (by omega) (by rw[hrow];omega)) Item.d ?_
  walk_at "vs"
  refine ix_L rfl (Za1 h2.1 (by rw[hst.len];exact h2.2)) Item.d ?_
  exact⟨_,Zbz rfl,x,l,rfl,rfl⟩
 case sign =>
  refine ZgV (k:=0) Zdd ZcS ZaS.nofree (fun _=>rfl) (fun _ _ _ _ _ s us hl=>by obtain⟨a,rfl⟩:=len1 hl;exact .of_eq rfl) (fun cs ⟨x,e,_⟩=>by rw[e];rfl) (fun cs ⟨x,e,_⟩=>by rw[e];rfl) hm L s fun cl f c A outer s H E hr=>?_
  refine⟨_,(Zae (Zaw (Zat (Zaj (K:=K) rfl hr.units) (pv 1) (pv 0) (fun _ _=>rfl)))),?_⟩
  rintro cs ⟨x,rfl,hx⟩
  show Sv K _ _ _ [some (.d (.int x)),some (.d (tI M.signs))] _
  have hx:=Zbl.mp hx
  walk_at "vs"
  refine ix_T rfl (Za1 hx.1 (by rw[hP.s];exact hx.2)) Item.d ?_
  exact⟨_,Zbz rfl,x,rfl,rfl⟩
 subst ec
 refine⟨rfl,_,Got.own (ZbT _),_,Zbz rfl,M,st,F,rfl,h1,h2,h3,rfl⟩
noncomputable abbrev stA(M:Mach):List Int:=rgI M.rows.length
theorem Zb5{M N:Mach}(h:dM M=dM N):M=N:=by
 have:=(Mach.enc.eqv M N).mp (by rw[h];exact (Mach.enc.eqv N N).mpr rfl)
 exact this
theorem ZnC{a b:List Int}(h:dI a=dI b):a=b:=by
 have h':a.map PyData.int=b.map PyData.int:=by injection h
 exact (List.map_inj_right fun _ _ e=>PyData.int.inj e).mp h'
section
variable{α:Type}[DecidableEq α]
theorem ZfP(g:α→Nat→α)(a:α)(met:List α):∀ n l,l<n→g a l∈growM g a met n
 | 0,l,h=>by omega
 | n+1,l,h=>by
  rw[Zaz]
  by_cases hl:l<n
  ·obtain⟨r,e⟩:=Zdg (growM g a met n) (g a n)
   rw[e];exact List.mem_append_left _ (ZfP g a met n l hl)
  ·have:l=n:=by omega
   subst this
   exact ZeV _ _
theorem Bfs.all{g:α→Nat→α}{n:Nat}{met F:List α}{i:Nat}(h:Bfs g n met i F):(∀ j (hj:j<met.length),j<i→∀ l,l<n→g met[j] l∈met)→∀ x∈F,∀ l,l<n→g x l∈F:=by
 induction h with
 | done h =>
  intro hc x hx l hl
  obtain⟨j,hj,rfl⟩:=List.mem_iff_getElem.mp hx
  exact hc j hj (by omega) l hl
 | @step met F i h hb ih =>
  intro hc
  refine ih fun j hj hji l hl=>?_
  obtain⟨r,e⟩:=Zb4 g met[i] met n
  have at':∀ j (h':j<met.length),(growM g met[i] met n)[j]'(by rw[e,List.length_append];omega)=met[j]:=fun j h'=>by
   simp only[e];exact List.getElem_append_left h'
  by_cases h2:j<i
  ·rw[at' j (by omega),e]
   exact List.mem_append_left _ (hc j (by omega) h2 l hl)
  ·have:j=i:=by omega
   subst this
   rw[at' j h]
   exact ZfP g met[j] met n l hl
theorem Zd9{g g':α→Nat→α}{a:α}{met:List α}:∀ n,(∀ l,l<n→g a l=g' a l)→growM g a met n=growM g' a met n
 | 0,_=>rfl
 | n+1,h=>by rw[Zaz,Zaz,Zd9 n fun l hl=>h l (by omega),h n (by omega)]
theorem Zg1{g:α→Nat→α}{a:α}{met U:List α}(hm:∀ x∈met,x∈U):∀ n,(∀ l,l<n→g a l∈U)→∀ x∈growM g a met n,x∈U
 | 0,_=>hm
 | n+1,h=>by
  rw[Zaz]
  exact ZlR (Zg1 hm n fun l hl=>h l (by omega)) (h n (by omega))
theorem Bfs.congr{g g':α→Nat→α}{n:Nat}{U met F:List α}{i:Nat}(hc:∀ x∈U,∀ l,l<n→g x l∈U)(he:∀ x∈U,∀ l,l<n→g x l=g' x l)(h:Bfs g n met i F):(∀ x∈met,x∈U)→Bfs g' n met i F:=by
 induction h with
 | done h=>exact fun _=>.done h
 | @step met F i h hb ih =>
  intro hm
  have ha:=hm _ (List.getElem_mem h)
  refine .step h ?_
  rw[← Zd9 n fun l hl=>he _ ha l hl]
  exact ih (Zg1 hm n fun l hl=>hc _ ha l hl)
end
theorem ZlS(n:Nat):rgI (n+1)=rgI n++[(n:Int)]:=by simp[rgI,List.range_succ]
theorem ZiO(n:Nat):(rgI n).length=n:=by simp[rgI]
theorem ZlT{n k:Nat}(h:k<n):(rgI n).getD k 0=(k:Int):=by
 rw[List.getD_eq_getElem?_getD]
 simp[rgI,h]
section
variable{α:Type}[DecidableEq α]
noncomputable def gN(g:α→Nat→α)(F:List α)(i:Int)(l:Nat):Int:=match F[i.toNat]? with
 | some a=>(F.idxOf (g a l):Int)
 | none=>0
theorem ZlU{F m r:List α}{x:α}(nd:F.Nodup)(e:F=addM m x++r):addM (rgI m.length) (F.idxOf x:Int)=rgI (addM m x).length:=by
 by_cases h:x∈m
 ·have ea:addM m x=m:=if_pos h
  rw[ea] at e ⊢
  rw[e,ZiJ h]
  exact if_pos (Zbl.mpr ⟨by omega,by have:=List.idxOf_lt_length_of_mem h;omega⟩)
 ·have ea:addM m x=m++[x]:=if_neg h
  rw[ea] at e ⊢
  have ei:F.idxOf x=m.length:=by
   rw[e,List.append_assoc,List.idxOf_append,if_neg h]
   simp
  rw[ei]
  unfold addM
  rw[if_neg (fun z=>by have:=Zbl.mp z;omega),List.length_append]
  exact (ZlS m.length).symm
theorem Zg2{g:α→Nat→α}{F met:List α}{a:α}{i:Int}(nd:F.Nodup)(hi:F[i.toNat]?=some a):∀ (n:Nat) (r:List α),F=growM g a met n++r→growM (gN g F) i (rgI met.length) n=rgI (growM g a met n).length
 | 0,r,_=>rfl
 | n+1,r,e=>by
  rw[Zaz] at e ⊢
  obtain⟨r2,e2⟩:=Zdg (growM g a met n) (g a n)
  have ih:=Zg2 (g:=g) (met:=met) nd hi n (r2++r) (by rw[e,e2,List.append_assoc])
  rw[Zaz,ih]
  have eg:gN g F i n=(F.idxOf (g a n):Int):=by unfold gN;rw[hi]
  rw[eg]
  exact ZlU nd e
theorem ZlV{g:α→Nat→α}{n:Nat}{met F:List α}{i:Nat}(h:Bfs g n met i F)(nd:F.Nodup):Bfs (gN g F) n (rgI met.length) i (rgI F.length):=by
 induction h with
 | done h=>exact .done (by rw[ZiO];exact h)
 | @step met F i h hb ih =>
  have hb':=ih nd
  refine .step (by rw[ZiO];exact h) ?_
  obtain⟨r,e⟩:=hb.pre
  obtain⟨r2,e2⟩:=Zb4 g met[i] met n
  have hFi:F[((i:Nat):Int).toNat]?=some met[i]:=by
   rw[Int.toNat_natCast,e,e2,List.append_assoc,List.getElem?_append_left h,List.getElem?_eq_getElem h]
  have hr:(rgI met.length)[i]'(by rw[ZiO];exact h)=(i:Int):=by simp[rgI]
  rw[hr,Zg2 nd hFi n r e]
  exact hb'
end
theorem Zj3{M:Mach}{a b:Int}(hP:Parts a b M){r:Int}{l:Nat}(h0:0≤r)(h1:r<M.rows.length)(hl:l<(M.rows.getD 0 []).length):gR M (stA M) r l=stp M.rows r l:=by
 have h2:=hP.stp h0 h1 (l:=l) (by omega) (by omega)
 unfold gR stA
 rw[ZlT (by omega)]
 omega
section
variable{α β:Type}[DecidableEq α][DecidableEq β]
noncomputable def isFst(f:Nat→α)(i:Nat):Bool:=decide (∀ j,j<i→f j≠f i)
noncomputable def cnt(n:Nat)(f:Nat→α):Nat:=((List.range n).filter (isFst f)).length
theorem Zg3(n:Nat)(f:Nat→α):cnt n f≤n:=by
 have:=List.length_filter_le (isFst f) (List.range n)
 rw[List.length_range] at this
 exact this
noncomputable def Fine(n:Nat)(g:Nat→β)(f:Nat→α):Prop:=∀ i j,i<n→j<n→g i=g j→f i=f j
theorem Zj4{n:Nat}{f:Nat→α}{g:Nat→β}(h:Fine n g f){i:Nat}(hi:i<n)(hf:isFst f i=true):isFst g i=true:=by
 unfold isFst at hf ⊢
 have hf:=of_decide_eq_true hf
 exact decide_eq_true fun j hj e=>hf j hj (h j i (by omega) hi e)
theorem ZiP{l:List Nat}{p q:Nat→Bool}(h:∀ x∈l,p x=true→q x=true):(l.filter p).length≤(l.filter q).length:=by
 induction l with
 | nil=>simp
 | cons a l ih =>
  have ih:=ih fun x hx=>h x (.tail _ hx)
  have ha:=h a (.head _)
  rw[List.filter_cons,List.filter_cons]
  cases hp:p a with
  | true=>rw[ha hp];simp;exact ih
  | false =>
   cases hq:q a with
   | true=>simp;omega
   | false=>simpa using ih
theorem ZiQ{l:List Nat}{p q:Nat→Bool}(h:∀ x∈l,p x=true→q x=true)(hl:(l.filter q).length≤(l.filter p).length):∀ x∈l,q x=true→p x=true:=by
 induction l with
 | nil=>exact fun x hx=>nomatch hx
 | cons a l ih =>
  have h':∀ x∈l,p x=true→q x=true:=fun x hx=>h x (.tail _ hx)
  have hle:=ZiP h'
  have ha:=h a (.head _)
  rw[List.filter_cons,List.filter_cons] at hl
  intro x hx hqx
  cases hp:p a with
  | true =>
   rw[hp,ha hp] at hl
   simp at hl
   rcases List.mem_cons.mp hx with e|hx
   ·rw[e];exact hp
   ·exact ih h' hl x hx hqx
  | false =>
   cases hq:q a with
   | true=>rw[hp,hq] at hl;simp at hl;omega
   | false =>
    rw[hp,hq] at hl
    simp at hl
    rcases List.mem_cons.mp hx with e|hx
    ·rw[e,hq] at hqx;cases hqx
    ·exact ih h' hl x hx hqx
noncomputable def fstI(n:Nat)(f:Nat→α)(i:Nat):Nat:=((List.range n).map f).idxOf (f i)
theorem Zcn{n:Nat}{f:Nat→α}{i:Nat}(hi:i<n):fstI n f i<n:=by
 have:=List.idxOf_lt_length_of_mem (List.mem_map.mpr ⟨i,List.mem_range.mpr hi,rfl⟩:f i∈(List.range n).map f)
 rw[List.length_map,List.length_range] at this
 exact this
theorem Zco{n:Nat}{f:Nat→α}{i:Nat}(hi:i<n):f (fstI n f i)=f i:=by
 have hm:f i∈(List.range n).map f:=List.mem_map.mpr ⟨i,List.mem_range.mpr hi,rfl⟩
 have h:=List.idxOf_lt_length_of_mem hm
 have e:=List.getElem_idxOf h
 rw[List.getElem_map,List.getElem_range] at e
 exact e
theorem ZlW{xs:List α}{x:α}:∀ {j:Nat} (h:j<xs.length),j<xs.idxOf x→xs[j]≠x:=by
 induction xs with
 | nil=>intro j h;simp at h
 | cons a xs ih =>
  intro j h hj
  rw[List.idxOf_cons] at hj
  by_cases e:a=x
  ·rw[show (a == x)=true from beq_iff_eq.mpr e] at hj;simp at hj
  ·rw[show (a == x)=false from beq_false_of_ne e] at hj
   cases j with
   | zero=>exact e
   | succ j=>exact ih (by simpa using h) (by simpa using hj)
theorem Zg4{n:Nat}{f:Nat→α}{i j:Nat}(hi:i<n)(hj:j<fstI n f i):f j≠f i:=by
 have hl:=Zcn (f:=f) hi
 have:=ZlW (xs:=(List.range n).map f) (x:=f i) (j:=j) (by rw[List.length_map,List.length_range];omega) hj
 rw[List.getElem_map,List.getElem_range] at this
 exact this
theorem Zg5{n:Nat}{f:Nat→α}{i:Nat}(hi:i<n):isFst f (fstI n f i)=true:=by
 unfold isFst
 refine decide_eq_true fun j hj=>?_
 rw[Zco (f:=f) hi]
 exact Zg4 hi hj
theorem Zj5{f:Nat→α}{i j:Nat}(hi:isFst f i=true)(hj:isFst f j=true)(e:f i=f j):i=j:=by
 unfold isFst at hi hj
 have hi:=of_decide_eq_true hi
 have hj:=of_decide_eq_true hj
 rcases Nat.lt_trichotomy i j with h|h|h
 ·exact absurd e (hj i h)
 ·exact h
 ·exact absurd e.symm (hi j h)
theorem Zg6{n:Nat}{f:Nat→α}{i j:Nat}(hi:i<n)(hj:j<n):fstI n f i=fstI n f j↔f i=f j:=by
 refine⟨fun e=>?_,fun e=>?_⟩
 ·rw[← Zco (f:=f) hi,← Zco (f:=f) hj,e]
 ·unfold fstI;rw[e]
theorem ZiR{n:Nat}{f:Nat→α}{i:Nat}(hi:i<n):fstI n f (fstI n f i)=fstI n f i:=(Zg6 (Zcn hi) hi).mpr (Zco hi)
theorem ZkB{n:Nat}{f:Nat→α}{g:Nat→β}(h:Fine n g f)(hc:cnt n g≤cnt n f):Fine n f g:=by
 have key:=ZiQ (l:=List.range n) (p:=isFst f) (q:=isFst g) (fun x hx hf=>Zj4 h (List.mem_range.mp hx) hf) hc
 intro i j hi hj e
 have h1:=key _ (List.mem_range.mpr (Zcn hi)) (Zg5 (f:=g) hi)
 have h2:=key _ (List.mem_range.mpr (Zcn hj)) (Zg5 (f:=g) hj)
 have e1:=h _ _ (Zcn hi) hi (Zco hi)
 have e2:=h _ _ (Zcn hj) hj (Zco hj)
 have e3:fstI n g i=fstI n g j:=Zj5 h1 h2 (by rw[e1,e2,e])
 rw[← Zco (f:=g) hi,← Zco (f:=g) hj,e3]
theorem ZlX{n:Nat}{f:Nat→α}(h:∀ i j,i<n→j<n→f i=f j→i=j):cnt n f=n:=by
 unfold cnt
 have e:(List.range n).filter (isFst f)=List.range n:=List.filter_eq_self.mpr fun x hx=>by
  unfold isFst
  have hx:=List.mem_range.mp hx
  exact decide_eq_true fun j hj e=>by have:=h j x (by omega) hx e;omega
 rw[e,List.length_range]
noncomputable def dd(σ:List α)(k:α):List α:=if k∈σ then σ else σ++[k]
theorem ZnD{σ:List α}{k x:α}:x∈dd σ k↔x∈σ∨x=k:=by
 unfold dd;split
 ·rename_i h
  exact⟨.inl,fun z=>z.elim id fun e=>e▸h⟩
 ·rw[List.mem_append,List.mem_singleton]
theorem ZkC(f:Nat→α):∀ n,(∀ x,x∈((List.range n).map f).foldl dd []↔∃ i,i<n∧f i=x)∧(((List.range n).map f).foldl dd []).length=cnt n f
 | 0=>⟨fun x=>by simp,rfl⟩
 | n+1=>by
  obtain⟨h1,h2⟩:=ZkC f n
  rw[List.range_succ,List.map_append,List.foldl_append]
  refine⟨fun x=>?_,?_⟩
  ·show x∈dd _ (f n)↔_
   rw[ZnD,h1]
   refine⟨fun z=>?_,fun⟨i,hi,e⟩=>?_⟩
   ·rcases z with⟨i,hi,e⟩|e
    ·exact⟨i,by omega,e⟩
    ·exact⟨n,by omega,e.symm⟩
   ·by_cases hn:i<n
    ·exact .inl ⟨i,hn,e⟩
    ·have:i=n:=by omega
     subst this
     exact .inr e.symm
  ·show (dd _ (f n)).length=_
   unfold cnt
   rw[List.range_succ,List.filter_append,List.length_append]
   by_cases hm:f n∈((List.range n).map f).foldl dd []
   ·rw[show dd (((List.range n).map f).foldl dd []) (f n)=_ from if_pos hm,h2]
    obtain⟨i,hi,e⟩:=(h1 _).mp hm
    have:isFst f n=false:=by
     unfold isFst
     exact decide_eq_false fun z=>z i hi e
    simp[this,cnt]
   ·rw[show dd (((List.range n).map f).foldl dd []) (f n)=_ from if_neg hm,List.length_append,h2]
    have:isFst f n=true:=by
     unfold isFst
     exact decide_eq_true fun j hj e=>hm ((h1 _).mpr ⟨j,hj,e⟩)
    simp[this,cnt]
end
section
noncomputable abbrev tl(al:List Int)(i:Nat):Int:=al.getD i 0
noncomputable def keyL(L:Nat)(nx:Nat→Nat→Nat)(al:List Int)(i:Nat):Int×List Int:=(tl al i,(List.range L).map fun l=>tl al (nx i l))
noncomputable def nxtL(n L:Nat)(nx:Nat→Nat→Nat)(al:List Int):List Int:=(List.range n).map fun i=>(fstI n (keyL L nx al) i:Int)
inductive Ref(n L:Nat)(nx:Nat→Nat→Nat):List Int→Nat→List Int→Prop
 | done {al:List Int} {m:Nat}:cnt n (tl al)≤m→Ref n L nx al m al
 | step {al R:List Int} {m:Nat}:m<cnt n (tl al)→Ref n L nx (nxtL n L nx al) (cnt n (tl al)) R→Ref n L nx al m R
theorem Zg7{n L:Nat}{nx:Nat→Nat→Nat}{al:List Int}:(nxtL n L nx al).length=n:=by simp[nxtL]
theorem ZeC{n L:Nat}{nx:Nat→Nat→Nat}{al:List Int}{i:Nat}(hi:i<n):tl (nxtL n L nx al) i=(fstI n (keyL L nx al) i:Int):=by
 unfold tl nxtL
 rw[List.getD_eq_getElem?_getD,List.getElem?_map,List.getElem?_range hi]
 rfl
theorem Zge{n L:Nat}{nx:Nat→Nat→Nat}{al:List Int}{i j:Nat}(hi:i<n)(hj:j<n):tl (nxtL n L nx al) i=tl (nxtL n L nx al) j↔keyL L nx al i=keyL L nx al j:=by
 rw[ZeC hi,ZeC hj,← Zg6 (f:=keyL L nx al) hi hj]
 exact⟨fun e=>by omega,fun e=>by omega⟩
theorem Zj6{L:Nat}{nx:Nat→Nat→Nat}{al:List Int}{i j:Nat}(e:keyL L nx al i=keyL L nx al j):tl al i=tl al j∧∀ l,l<L→tl al (nx i l)=tl al (nx j l):=by
 unfold keyL at e
 simp only[Prod.mk.injEq] at e
 refine⟨e.1,fun l hl=>?_⟩
 have:=congrArg (fun xs=>xs[l]?) e.2
 simp only[List.getElem?_map,List.getElem?_range hl] at this
 exact Option.some.inj this
theorem ZnE{L:Nat}{nx:Nat→Nat→Nat}{al:List Int}{i j:Nat}(h1:tl al i=tl al j)(h2:∀ l,l<L→tl al (nx i l)=tl al (nx j l)):keyL L nx al i=keyL L nx al j:=by
 unfold keyL
 simp only[Prod.mk.injEq]
 exact⟨h1,List.map_congr_left fun l hl=>h2 l (List.mem_range.mp hl)⟩
structure Lots(n L:Nat)(nx:Nat→Nat→Nat)(al R:List Int):Prop where
 len:R.length=n
 rg:∀ i,i<n→0≤tl R i∧tl R i<n
 idem:∀ i,i<n→tl R (tl R i).toNat=tl R i
 z:0<n→tl R 0=0
 sg:∀ i j,i<n→j<n→tl R i=tl R j→tl al i=tl al j
 st:∀ i j,i<n→j<n→tl R i=tl R j→∀ l,l<L→tl R (nx i l)=tl R (nx j l)
 co:∀ rel:Nat→Nat→Prop,(∀ i j,rel i j→i<n∧j<n)→(∀ i j,rel i j→tl al i=tl al j)→(∀ i j,rel i j→∀ l,l<L→rel (nx i l) (nx j l))→∀ i j,rel i j→tl R i=tl R j
theorem ZeX{n L:Nat}{nx:Nat→Nat→Nat}{al:List Int}:Fine n (tl (nxtL n L nx al)) (tl al):=fun i j hi hj e=>(Zj6 ((Zge hi hj).mp e)).1
theorem ZkD{n L:Nat}{nx:Nat→Nat→Nat}{al:List Int}{rel:Nat→Nat→Prop}(hb:∀ i j,rel i j→i<n∧j<n)(hc:∀ i j,rel i j→∀ l,l<L→rel (nx i l) (nx j l))(h:∀ i j,rel i j→tl al i=tl al j):∀ i j,rel i j→tl (nxtL n L nx al) i=tl (nxtL n L nx al) j:=fun i j r =>
 (Zge (hb i j r).1 (hb i j r).2).mpr (ZnE (h i j r) fun l hl=>h _ _ (hc i j r l hl))
theorem Ref.lots{n L:Nat}{nx:Nat→Nat→Nat}(hnx:∀ i,i<n→∀ l,l<L→nx i l<n){al R:List Int}{m:Nat}(h:Ref n L nx al m R) :
  (∃ A,al=nxtL n L nx A∧m=cnt n (tl A))→Lots n L nx al R:=by
 induction h with
 | @done al m h =>
  rintro⟨A,rfl,rfl⟩
  have same:=ZkB (ZeX (nx:=nx) (L:=L) (al:=A) (n:=n)) h
  refine⟨Zg7,fun i hi=>?_,fun i hi=>?_,fun h0=>?_,fun i j _ _ e=>e,fun i j hi hj e l hl=>?_,fun rel hb h1 hc=>h1⟩
  ·rw[ZeC hi]
   have:=Zcn (f:=keyL L nx A) hi
   omega
  ·rw[ZeC hi,Int.toNat_natCast,ZeC (Zcn hi),ZiR hi]
  ·rw[ZeC h0]
   have:¬ 0<fstI n (keyL L nx A) 0:=fun z=>Zg4 (f:=keyL L nx A) h0 z rfl
   omega
  ·have:=(Zj6 ((Zge hi hj).mp e)).2 l hl
   exact same _ _ (hnx i hi l hl) (hnx j hj l hl) this
 | @step al R m h _ ih =>
  intro _
  obtain⟨a1,a2,a3,a4,a5,a6,a7⟩:=ih ⟨al,rfl,rfl⟩
  exact⟨a1,a2,a3,a4,fun i j hi hj e=>ZeX i j hi hj (a5 i j hi hj e),a6,fun rel hb h1 hc=>a7 rel hb (ZkD hb hc h1) hc⟩
theorem ZiS{n:Nat}{f:Nat→Int}(h:0<n):0<cnt n f:=by
 unfold cnt
 refine List.length_pos_of_mem (a:=0) (List.mem_filter.mpr ⟨List.mem_range.mpr h,?_⟩)
 unfold isFst
 exact decide_eq_true fun j hj=>by omega
theorem Ref.lots0{n L:Nat}{nx:Nat→Nat→Nat}(h0:0<n)(hnx:∀ i,i<n→∀ l,l<L→nx i l<n){al R:List Int}(h:Ref n L nx al 0 R):Lots n L nx al R:=by
 cases h with
 | done h=>have:=ZiS (f:=tl al) h0;omega
 | step h h2 =>
  obtain⟨a1,a2,a3,a4,a5,a6,a7⟩:=h2.lots hnx ⟨al,rfl,rfl⟩
  exact⟨a1,a2,a3,a4,fun i j hi hj e=>ZeX i j hi hj (a5 i j hi hj e),a6,fun rel hb h1 hc=>a7 rel hb (ZkD hb hc h1) hc⟩
end
noncomputable abbrev ltr(M:Mach):Nat:=(M.rows.getD 0 []).length
theorem ZiT{F:List Int}{x:Int}(h:x∈F):((F.idxOf x:Nat):Int)<F.length:=by have:=List.idxOf_lt_length_of_mem h;omega
structure Rb(M:Mach)(st F:List Int):Prop where
 p:Parts 1 64 M
 sk:StOk M st
 bf:Bfs (gR M st) (ltr M) [0] 0 F
 nd:F.Nodup
 u:∀ x∈F,x∈rgI M.rows.length
noncomputable abbrev outM(M:Mach)(st F:List Int):Mach:=mMet (thR M st) (sgR M) F
section
variable{M:Mach}{st F:List Int}
theorem Rb.all(h:Rb M st F):∀ x∈F,∀ l,l<ltr M→gR M st x l∈F:=h.bf.all fun j hj z=>by omega
theorem Rb.z(h:Rb M st F):∃ r,F=0::r:=by obtain⟨r,e⟩:=h.bf.pre;exact⟨r,e⟩
theorem Rb.rows(h:Rb M st F):(outM M st F).rows=F.map fun a=>rowN (gR M st) F a (ltr M):=rfl
theorem Rb.len(h:Rb M st F):(outM M st F).rows.length=F.length:=List.length_map ..
theorem Rb.slen(h:Rb M st F):(outM M st F).signs.length=F.length:=List.length_map ..
theorem Rb.lt(h:Rb M st F):ltr (outM M st F)=ltr M:=by
 obtain⟨r,e⟩:=h.z
 show (((F.map fun a=>rowN (gR M st) F a (ltr M)):List (List Int)).getD 0 []).length=_
 rw[e]
 simp[rowN]
theorem Rb.le(h:Rb M st F):F.length≤M.rows.length:=by
 have:=Zdh h.nd h.u
 simpa using this
theorem Rb.parts(h:Rb M st F):Parts 1 64 (outM M st F):=by
 have hl:=h.lt
 have hle:=h.le
 have h1:=h.p.n1
 obtain⟨r,e⟩:=h.z
 have hF:0<F.length:=by rw[e];simp
 refine⟨by rw[h.len];exact hF,by rw[h.len];omega,by rw[h.len,h.slen],fun x hx=>?_,?_,?_,fun x hx=>?_⟩
 ·rw[h.rows] at hx
  obtain⟨a,ha,rfl⟩:=List.mem_map.mp hx
  refine⟨by rw[show ((outM M st F).rows.getD 0 []).length=ltr M from hl];simp[rowN],fun y hy=>?_⟩
  obtain⟨l,hl,rfl⟩:=List.mem_map.mp hy
  rw[h.len]
  exact⟨by omega,ZiT (h.all a ha l (List.mem_range.mp hl))⟩
 ·rw[show ((outM M st F).rows.getD 0 []).length=ltr M from hl];exact h.p.l0
 ·rw[show ((outM M st F).rows.getD 0 []).length=ltr M from hl];exact h.p.l1
 ·obtain⟨a,ha,rfl⟩:=List.mem_map.mp hx
  have:=Zbl.mp (h.u a ha)
  exact h.p.sg _ (ZaI (by rw[h.p.s];omega))
theorem Rb.nx(h:Rb M st F){i l:Nat}(hi:i<F.length)(hl:l<ltr M):stp (outM M st F).rows i l=(F.idxOf (gR M st F[i] l):Int):=by
 unfold stp
 rw[Int.toNat_natCast,Int.toNat_natCast,h.rows]
 have e1:(F.map fun a=>rowN (gR M st) F a (ltr M)).getD i []=rowN (gR M st) F F[i] (ltr M):=by
  rw[List.getD_eq_getElem?_getD,List.getElem?_map,List.getElem?_eq_getElem hi];rfl
 rw[e1,List.getD_eq_getElem?_getD]
 unfold rowN
 rw[List.getElem?_map,List.getElem?_range hl]
 rfl
theorem Rb.sg(h:Rb M st F){i:Nat}(hi:i<F.length):(outM M st F).signs.getD i 0=sgR M F[i]:=by
 show (F.map (sgR M)).getD i 0=_
 rw[List.getD_eq_getElem?_getD,List.getElem?_map,List.getElem?_eq_getElem hi];rfl
end
noncomputable def nxM(M:Mach)(i l:Nat):Nat:=(stp M.rows i l).toNat
theorem Zcp{M:Mach}(h:Parts 1 64 M):∀ i,i<M.rows.length→∀ l,l<ltr M→nxM M i l<M.rows.length:=fun i hi l hl=>by
 have:=h.stp (r:=i) (l:=l) (by omega) (by omega) (by omega) (by show (l:Int)<(ltr M:Nat);omega)
 unfold nxM
 omega
structure LotsM(M:Mach)(R:List Int):Prop where
 ex:∃ al,(∀ i j,i<M.rows.length→j<M.rows.length→(tl al i=tl al j↔tl M.signs i=tl M.signs j))∧Lots M.rows.length (ltr M) (nxM M) al R
section
variable{M:Mach}{R F:List Int}
theorem LotsM.sok(h:LotsM M R):StOk M R:=by
 obtain⟨al,_,l⟩:=h.ex
 refine⟨l.len,fun y hy=>?_⟩
 obtain⟨i,hi,rfl⟩:=List.mem_iff_getElem.mp hy
 have:=l.rg i (by rw[← l.len];exact hi)
 unfold tl at this
 rw[List.getD_eq_getElem?_getD,List.getElem?_eq_getElem hi] at this
 exact this
theorem Zj7{x:Int}{l:Nat}(hx:0≤x):gR M R x l=tl R (nxM M x.toNat l):=by
 unfold gR tl nxM
 rw[Int.toNat_of_nonneg hx]
theorem ZiU{α:Type}[DecidableEq α]{g:α→Nat→α}{a:α}{P:α→Prop}{met:List α}(hm:∀ x∈met,P x):∀ n,(∀ l,l<n→P (g a l))→∀ x∈growM g a met n,P x
 | 0,_=>hm
 | n+1,h=>by
  rw[Zaz]
  have ih:=ZiU hm n fun l hl=>h l (by omega)
  unfold addM
  split
  ·exact ih
  ·intro y hy
   rcases List.mem_append.mp hy with hy|hy
   ·exact ih y hy
   ·rw[List.mem_singleton.mp hy];exact h n (by omega)
theorem Bfs.pred{α:Type}[DecidableEq α]{g:α→Nat→α}{n:Nat}{P:α→Prop}{met F:List α}{i:Nat}(h:Bfs g n met i F):(∀ x∈met,P x)→(∀ x,P x→∀ l,l<n→P (g x l))→∀ x∈F,P x:=by
 induction h with
 | done _=>exact fun hm _=>hm
 | @step met F i h _ ih=>exact fun hm hc=>ih (ZiU hm n fun l hl=>hc _ (hm _ (List.getElem_mem h)) l hl) hc
theorem LotsM.rep(h:LotsM M R)(b:Rb M R F):∀ x:Int,x∈F→tl R x.toNat=x:=by
 obtain⟨al,_,lo⟩:=h.ex
 have n0:=b.p.n0
 refine fun x hx=>(b.bf.pred (P:=fun x:Int=>(0≤x∧x<M.rows.length)∧tl R x.toNat=x) (fun x hx=>?_) (fun x hx l hl=>?_) x hx).2
 ·rw[List.mem_singleton.mp hx]
  exact⟨⟨by omega,by omega⟩,lo.z n0⟩
 ·have hn:=Zcp b.p x.toNat (by omega) l hl
  rw[Zj7 hx.1.1]
  exact⟨lo.rg _ hn,lo.idem _ hn⟩
noncomputable def Bi(M:Mach)(R F:List Int)(p:Int×Int):Prop:=(0≤p.1∧p.1<M.rows.length)∧(0≤p.2∧p.2<F.length)∧tl R p.1.toNat=F.getD p.2.toNat 0
theorem ZiV{i:Nat}(hi:i<F.length):F.getD i 0=F[i]:=by rw[List.getD_eq_getElem?_getD,List.getElem?_eq_getElem hi];rfl
theorem LotsM.bi0(h:LotsM M R)(b:Rb M R F):Bi M R F (0,0):=by
 obtain⟨al,_,lo⟩:=h.ex
 obtain⟨r,e⟩:=b.z
 have n0:=b.p.n0
 refine⟨⟨by simp,by simp;omega⟩,⟨by simp,by rw[e];simp⟩,?_⟩
 rw[e]
 exact lo.z n0
theorem LotsM.bis(h:LotsM M R)(b:Rb M R F){p:Int×Int}(hp:Bi M R F p):M.signs.getD p.1.toNat 0=(outM M R F).signs.getD p.2.toNat 0:=by
 obtain⟨al,ha,lo⟩:=h.ex
 obtain⟨h1,h2,h3⟩:=hp
 have hi:p.2.toNat<F.length:=by omega
 rw[b.sg hi]
 rw[ZiV hi] at h3
 have hm:=List.getElem_mem hi
 have hr:=h.rep b _ hm
 have hu:=Zbl.mp (b.u _ hm)
 have hx:p.1.toNat<M.rows.length:=by omega
 have hy:(F[p.2.toNat]).toNat<M.rows.length:=by omega
 have:=lo.sg _ _ hx hy (by rw[h3,hr])
 exact (ha _ _ hx hy).mp this
theorem LotsM.bin(h:LotsM M R)(b:Rb M R F){p:Int×Int}(hp:Bi M R F p){l:Nat}(hl:l<ltr M):Bi M R F (stp M.rows p.1 l,stp (outM M R F).rows p.2 l):=by
 obtain⟨al,ha,lo⟩:=h.ex
 obtain⟨h1,h2,h3⟩:=hp
 have hi:p.2.toNat<F.length:=by omega
 have hm:=List.getElem_mem hi
 have hr:=h.rep b _ hm
 have hu:=Zbl.mp (b.u _ hm)
 rw[ZiV hi] at h3
 have hx:p.1.toNat<M.rows.length:=by omega
 have hy:(F[p.2.toNat]).toNat<M.rows.length:=by omega
 have e2:=b.nx hi hl
 rw[Int.toNat_of_nonneg h2.1] at e2
 have ha:=b.all _ hm l hl
 have s1:=b.p.stp h1.1 h1.2 (l:=l) (by omega) (by show (l:Int)<(ltr M:Nat);omega)
 have hj:=List.idxOf_lt_length_of_mem ha
 refine⟨s1,⟨by rw[e2];omega,by rw[e2];omega⟩,?_⟩
 show tl R (stp M.rows p.1 l).toNat=F.getD (stp (outM M R F).rows p.2 l).toNat 0
 rw[e2,Int.toNat_natCast,ZiV hj,List.getElem_idxOf,Zj7 hu.1]
 have:=lo.st _ _ hx hy (by rw[h3,hr]) l hl
 rw[← this]
 unfold nxM
 rw[Int.toNat_of_nonneg h1.1]
theorem LotsM.apart{R':List Int}(h:LotsM M R)(b:Rb M R F)(h':LotsM (outM M R F) R'):∀ i j,i<F.length→j<F.length→tl R' i=tl R' j→i=j:=by
 obtain⟨al,ha,lo⟩:=h.ex
 obtain⟨al',ha',lo'⟩:=h'.ex
 rw[b.len,b.lt] at lo'
 rw[b.len] at ha'
 let num:=fun x:Nat=>F.idxOf (tl R x)
 let rel:=fun x y:Nat=>(x<M.rows.length∧tl R x∈F)∧(y<M.rows.length∧tl R y∈F)∧tl R' (num x)=tl R' (num y)
 have hnum:∀ x,tl R x∈F→num x<F.length:=fun x hx=>List.idxOf_lt_length_of_mem hx
 have hget:∀ x (hx:tl R x∈F),F[num x]'(hnum x hx)=tl R x:=fun x hx=>List.getElem_idxOf (hnum x hx)
 have step:∀ x,x<M.rows.length→tl R x∈F→∀ l,l<ltr M→nxM M x l<M.rows.length∧tl R (nxM M x l)∈F∧num (nxM M x l)=nxM (outM M R F) (num x) l:=fun x hx hm l hl=>by
  have hr:=h.rep b _ hm
  have hu:=Zbl.mp (b.u _ hm)
  have e:=lo.st x (tl R x).toNat hx (by omega) hr.symm l hl
  have e2:=b.nx (hnum x hm) hl
  rw[hget x hm] at e2
  have e3:gR M R (tl R x) l=tl R (nxM M x l):=by rw[Zj7 hu.1,← e]
  rw[e3] at e2
  refine⟨Zcp b.p x hx l hl,by rw[← e3];exact b.all _ hm l hl,?_⟩
  show F.idxOf (tl R (nxM M x l))=(stp (outM M R F).rows (num x) l).toNat
  rw[e2,Int.toNat_natCast]
 have sgn:∀ x,x<M.rows.length→tl R x∈F→tl (outM M R F).signs (num x)=tl M.signs x:=fun x hx hm=>by
  have hr:=h.rep b _ hm
  have hu:=Zbl.mp (b.u _ hm)
  have e:=b.sg (hnum x hm)
  rw[hget x hm] at e
  show (outM M R F).signs.getD (num x) 0=_
  rw[e]
  exact (ha _ _ (by omega) hx).mp (lo.sg _ _ (by omega) hx hr)
 have co:=lo.co rel (fun i j r=>⟨r.1.1,r.2.1.1⟩) (fun i j r=>?_) (fun i j r l hl=>?_)
 ·intro i j hi hj e
  have mi:=List.getElem_mem hi
  have mj:=List.getElem_mem hj
  have ri:=h.rep b _ mi
  have rj:=h.rep b _ mj
  have ui:=Zbl.mp (b.u _ mi)
  have uj:=Zbl.mp (b.u _ mj)
  have ni:num (F[i]).toNat=i:=by show F.idxOf (tl R (F[i]).toNat)=i;rw[ri];exact b.nd.idxOf_getElem i hi
  have nj:num (F[j]).toNat=j:=by show F.idxOf (tl R (F[j]).toNat)=j;rw[rj];exact b.nd.idxOf_getElem j hj
  have:=co (F[i]).toNat (F[j]).toNat ⟨⟨by omega,by rw[ri];exact mi⟩,⟨by omega,by rw[rj];exact mj⟩,by rw[ni,nj];exact e⟩
  rw[ri,rj] at this
  have z:num (F[i]).toNat=num (F[j]).toNat:=by show F.idxOf (tl R (F[i]).toNat)=F.idxOf (tl R (F[j]).toNat);rw[ri,rj,this]
  rw[ni,nj] at z
  exact z
 ·obtain⟨⟨r1,r2⟩,⟨r3,r4⟩,r5⟩:=r
  refine (ha _ _ r1 r3).mpr ?_
  rw[← sgn i r1 r2,← sgn j r3 r4]
  exact (ha' _ _ (hnum i r2) (hnum j r4)).mp (lo'.sg _ _ (hnum i r2) (hnum j r4) r5)
 ·obtain⟨⟨r1,r2⟩,⟨r3,r4⟩,r5⟩:=r
  obtain⟨a1,a2,a3⟩:=step i r1 r2 l hl
  obtain⟨b1,b2,b3⟩:=step j r3 r4 l hl
  refine⟨⟨a1,a2⟩,⟨b1,b2⟩,?_⟩
  rw[a3,b3]
  exact lo'.st _ _ (hnum i r2) (hnum j r4) r5 l hl
end
theorem Ref.ex{n L:Nat}{nx:Nat→Nat→Nat}:∀ (k:Nat) (al:List Int) (m:Nat),n-m≤k→∃ R,Ref n L nx al m R
 | 0,al,m,h=>⟨al,.done (by have:=Zg3 n (tl al);omega)⟩
 | k+1,al,m,h=>by
  by_cases hc:cnt n (tl al)≤m
  ·exact⟨al,.done hc⟩
  ·obtain⟨R,hR⟩:=Ref.ex (n:=n) (L:=L) (nx:=nx) k (nxtL n L nx al) (cnt n (tl al)) (by have:=Zg3 n (tl al);omega)
   exact⟨R,.step (by omega) hR⟩
theorem LotsM.any{M:Mach}(hP:Parts 1 64 M):∃ R,LotsM M R:=by
 obtain⟨R,h⟩:=Ref.ex (n:=M.rows.length) (L:=ltr M) (nx:=nxM M) M.rows.length M.signs 0 (by omega)
 exact⟨R,M.signs,fun _ _ _ _=>Iff.rfl,h.lots0 hP.n0 (Zcp hP)⟩
theorem Rb.co{M:Mach}{R F:List Int}(h:LotsM M R)(b:Rb M R F)(rel:Nat→Nat→Prop)(h1:∀ i j,rel i j→i<F.length∧j<F.length)(h2:∀ i j,rel i j→tl (outM M R F).signs i=tl (outM M R F).signs j)(h3:∀ i j,rel i j→∀ l,l<ltr M→rel (nxM (outM M R F) i l) (nxM (outM M R F) j l)):∀ i j,rel i j→i=j:=by
 obtain⟨R',hR'⟩:=LotsM.any b.parts
 have ap:=h.apart b hR'
 obtain⟨al,ha,lo⟩:=hR'.ex
 rw[b.len,b.lt] at lo
 rw[b.len] at ha
 intro i j r
 have hb:=h1 i j r
 exact ap i j hb.1 hb.2 (lo.co rel h1 (fun i j r=>(ha _ _ (h1 i j r).1 (h1 i j r).2).mpr (h2 i j r)) h3 i j r)
section
variable{α β:Type}[DecidableEq α][DecidableEq β]
structure Sim(E:α→β→Prop)(A:List α)(B:List β):Prop where
 len:A.length=B.length
 at':∀ k (h:k<A.length) (h2:k<B.length),E A[k] B[k]
theorem Sim.add{E:α→β→Prop}(fu:∀ x y y',E x y→E x y'→y=y')(inj:∀ x x' y,E x y→E x' y→x=x'){A:List α}{B:List β}(s:Sim E A B){x:α}{y:β}(h:E x y):Sim E (addM A x) (addM B y):=by
 have iff:x∈A↔y∈B:=by
  refine⟨fun hx=>?_,fun hy=>?_⟩
  ·obtain⟨k,hk,rfl⟩:=List.mem_iff_getElem.mp hx
   have hk2:k<B.length:=by have:=s.len;omega
   rw[fu _ _ _ h (s.at' k hk hk2)]
   exact List.getElem_mem hk2
  ·obtain⟨k,hk,rfl⟩:=List.mem_iff_getElem.mp hy
   have hk2:k<A.length:=by have:=s.len;omega
   rw[inj _ _ _ h (s.at' k hk2 hk)]
   exact List.getElem_mem hk2
 unfold addM
 by_cases hx:x∈A
 ·rw[if_pos hx,if_pos (iff.mp hx)];exact s
 ·rw[if_neg hx,if_neg fun z=>hx (iff.mpr z)]
  have hl:=s.len
  refine⟨by simp[hl],fun k h1 h2=>?_⟩
  by_cases hk:k<A.length
  ·rw[List.getElem_append_left hk,List.getElem_append_left (by omega)]
   exact s.at' k hk (by omega)
  ·have:k=A.length:=by simp at h1;omega
   subst this
   simp[hl]
   exact h
theorem Sim.grow{E:α→β→Prop}(fu:∀ x y y',E x y→E x y'→y=y')(inj:∀ x x' y,E x y→E x' y→x=x'){g:α→Nat→α}{g':β→Nat→β}{A:List α}{B:List β}(s:Sim E A B){x:α}{y:β}:∀ n,(∀ l,l<n→E (g x l) (g' y l))→Sim E (growM g x A n) (growM g' y B n)
 | 0,_=>s
 | n+1,h=>by
  rw[Zaz,Zaz]
  exact Sim.add fu inj (Sim.grow fu inj s n fun l hl=>h l (by omega)) (h n (by omega))
theorem Sim.bfs{E:α→β→Prop}(fu:∀ x y y',E x y→E x y'→y=y')(inj:∀ x x' y,E x y→E x' y→x=x'){g:α→Nat→α}{g':β→Nat→β}{n:Nat}(cl:∀ x y,E x y→∀ l,l<n→E (g x l) (g' y l)){A FA:List α}{i:Nat}(h:Bfs g n A i FA):∀ {B FB:List β},Sim E A B→Bfs g' n B i FB→Sim E FA FB:=by
 induction h with
 | @done A i h =>
  intro B FB s h'
  cases h' with
  | done _=>exact s
  | step h2 _=>have:=s.len;omega
 | @step A FA i h _ ih =>
  intro B FB s h'
  cases h' with
  | done h2=>have:=s.len;omega
  | step h2 h3=>exact ih (Sim.grow fu inj s n fun l hl=>cl _ _ (s.at' i h h2) l hl) h3
end
theorem Rb.self{M:Mach}{st F:List Int}(h:Rb M st F):Bfs (gR (outM M st F) (stA (outM M st F))) (ltr M) [0] 0 (rgI F.length):=by
 have hD:=h.parts
 have hlen:=h.len
 have hFB:=ZlV h.bf h.nd
 refine Bfs.congr (U:=rgI F.length) (fun x hx l hl=>?_) (fun x hx l hl=>?_) hFB fun x hx=>?_
 ·have hx:=Zbl.mp hx
  have hi:x.toNat<F.length:=by omega
  have eg:gN (gR M st) F x l=(F.idxOf (gR M st F[x.toNat] l):Int):=by
   unfold gN;rw[List.getElem?_eq_getElem hi]
  rw[eg]
  exact Zbl.mpr ⟨by omega,ZiT (h.all _ (List.getElem_mem hi) l hl)⟩
 ·have hx:=Zbl.mp hx
  have hi:x.toNat<F.length:=by omega
  have eg:gN (gR M st) F x l=(F.idxOf (gR M st F[x.toNat] l):Int):=by
   unfold gN;rw[List.getElem?_eq_getElem hi]
  rw[eg,← h.nx hi hl,Zj3 hD hx.1 (by omega) (by rw[show ((outM M st F).rows.getD 0 []).length=ltr M from h.lt];exact hl)]
  congr 1
  omega
 ·obtain⟨r,e⟩:=h.z
  have hx:x=0:=by simpa [rgI] using hx
  subst hx
  exact Zbl.mpr ⟨by omega,by rw[e];simp⟩
theorem ZiW{M N:Mach}{R F R' F':List Int}(h:LotsM M R)(b:Rb M R F)(h':LotsM N R')(b':Rb N R' F')(hl:ltr M=ltr N)(Q:Int×Int→Prop)(q0:Q (0,0))(qn:∀ p,Q p→((0≤p.1∧p.1<M.rows.length)∧0≤p.2∧p.2<N.rows.length)∧M.signs.getD p.1.toNat 0=N.signs.getD p.2.toNat 0∧∀ l,l<ltr M→Q (stp M.rows p.1 l,stp N.rows p.2 l)):outM M R F=outM N R' F':=by
 let E:Int→Int→Prop:=fun i j=>∃ x y,Q (x,y)∧Bi M R F (x,i)∧Bi N R' F' (y,j)
 have E0:E 0 0:=⟨0,0,q0,h.bi0 b,h'.bi0 b'⟩
 have En:∀ i j,E i j→∀ l,l<ltr M→E (stp (outM M R F).rows i l) (stp (outM N R' F').rows j l):=fun i j ⟨x,y,q,p1,p2⟩ l hl1=>⟨_,_,(qn _ q).2.2 l hl1,h.bin b p1 hl1,h'.bin b' p2 (by omega)⟩
 have Es:∀ i j,E i j→(outM M R F).signs.getD i.toNat 0=(outM N R' F').signs.getD j.toNat 0:=fun i j ⟨x,y,q,p1,p2⟩=>by rw[← h.bis b p1,← h'.bis b' p2];exact (qn _ q).2.1
 have Ei:∀ i j,E i j→(0≤i∧i<F.length)∧0≤j∧j<F'.length:=fun i j ⟨x,y,q,p1,p2⟩=>⟨p1.2.1,p2.2.1⟩
 have fu:∀ x y y',E x y→E x y'→y=y':=fun x y y' e1 e2=>by
  have:=Rb.co h' b' (fun i j=>∃ x,E x i∧E x j) (fun i j ⟨x,e1,e2⟩=>by have:=Ei _ _ e1;have:=Ei _ _ e2;omega) (fun i j ⟨x,e1,e2⟩=>by
   have s1:=Es _ _ e1;have s2:=Es _ _ e2
   rw[Int.toNat_natCast] at s1 s2
   exact s1.symm.trans s2) (fun i j ⟨x,e1,e2⟩ l hl1=>by
   have t1:=En _ _ e1 l (by omega)
   have t2:=En _ _ e2 l (by omega)
   have u1:=(Ei _ _ t1).2.1
   have u2:=(Ei _ _ t2).2.1
   refine⟨_,(?_:E (stp (outM M R F).rows x l) _),?_⟩
   ·unfold nxM;rw[Int.toNat_of_nonneg u1];exact t1
   ·unfold nxM;rw[Int.toNat_of_nonneg u2];exact t2) y.toNat y'.toNat
  have i1:=(Ei _ _ e1).2
  have i2:=(Ei _ _ e2).2
  have:=this ⟨x,by rw[Int.toNat_of_nonneg i1.1];exact e1,by rw[Int.toNat_of_nonneg i2.1];exact e2⟩
  omega
 have inj:∀ x x' y,E x y→E x' y→x=x':=fun x x' y e1 e2=>by
  have:=Rb.co h b (fun i j=>∃ y,E i y∧E j y) (fun i j ⟨x,e1,e2⟩=>by have:=Ei _ _ e1;have:=Ei _ _ e2;omega) (fun i j ⟨x,e1,e2⟩=>by
   have s1:=Es _ _ e1;have s2:=Es _ _ e2
   rw[Int.toNat_natCast] at s1 s2
   exact s1.trans s2.symm) (fun i j ⟨x,e1,e2⟩ l hl1=>by
   have t1:=En _ _ e1 l (by omega)
   have t2:=En _ _ e2 l (by omega)
   have u1:=(Ei _ _ t1).1.1
   have u2:=(Ei _ _ t2).1.1
   refine⟨_,(?_:E _ (stp (outM N R' F').rows x l)),?_⟩
   ·unfold nxM;rw[Int.toNat_of_nonneg u1];exact t1
   ·unfold nxM;rw[Int.toNat_of_nonneg u2];exact t2) x.toNat x'.toNat
  have i1:=(Ei _ _ e1).1
  have i2:=(Ei _ _ e2).1
  have:=this ⟨y,by rw[Int.toNat_of_nonneg i1.1];exact e1,by rw[Int.toNat_of_nonneg i2.1];exact e2⟩
  omega
 have gA:∀ x:Int,0≤x→x<F.length→∀ l,l<ltr M→gR (outM M R F) (stA (outM M R F)) x l=stp (outM M R F).rows x l:=fun x h0 h1 l hl1=>Zj3 b.parts h0 (by rw[b.len];exact h1) (by rw[show ((outM M R F).rows.getD 0 []).length=ltr M from b.lt];exact hl1)
 have gB:∀ x:Int,0≤x→x<F'.length→∀ l,l<ltr N→gR (outM N R' F') (stA (outM N R' F')) x l=stp (outM N R' F').rows x l:=fun x h0 h1 l hl1=>Zj3 b'.parts h0 (by rw[b'.len];exact h1) (by rw[show ((outM N R' F').rows.getD 0 []).length=ltr N from b'.lt];exact hl1)
 have s:=Sim.bfs fu inj (g':=gR (outM N R' F') (stA (outM N R' F'))) (cl:=fun x y e l hl1=>by
  have i:=Ei _ _ e
  rw[gA x i.1.1 i.1.2 l hl1,gB y i.2.1 i.2.2 l (by omega)]
  exact En _ _ e l hl1) b.self (B:=[0]) ⟨rfl,fun k h1 h2=>by
   have:k=0:=by simpa using h1
   subst this
   exact E0⟩ (by rw[hl];exact b'.self)
 have hlen:F.length=F'.length:=by have:=s.len;simpa using this
 have Ed:∀ k,k<F.length→E (k:Int) (k:Int):=fun k hk=>by
  have:=s.at' k (by simpa using hk) (by simpa [← hlen] using hk)
  simpa [rgI] using this
 have er:(outM M R F).rows=(outM N R' F').rows:=by
  refine List.ext_getElem (by rw[b.len,b'.len,hlen]) fun k h1 h2=>?_
  rw[b.len] at h1
  have r1:=b.parts.row _ (List.getElem_mem (show k<(outM M R F).rows.length by rw[b.len];exact h1))
  have r2:=b'.parts.row _ (List.getElem_mem h2)
  rw[show ((outM M R F).rows.getD 0 []).length=ltr M from b.lt] at r1
  rw[show ((outM N R' F').rows.getD 0 []).length=ltr N from b'.lt] at r2
  refine List.ext_getElem (by rw[r1.1,r2.1,hl]) fun l g1 g2=>?_
  rw[r1.1] at g1
  have e:=En _ _ (Ed k h1) l g1
  have v1:stp (outM M R F).rows k l=(outM M R F).rows[k][l]:=by
   unfold stp
   rw[Int.toNat_natCast,Int.toNat_natCast,List.getD_eq_getElem?_getD (l:=(outM M R F).rows),List.getElem?_eq_getElem (by rw[b.len];exact h1)]
   show ((outM M R F).rows[k]).getD l 0=_
   rw[List.getD_eq_getElem?_getD,List.getElem?_eq_getElem (by rw[r1.1];exact g1)]
   rfl
  have v2:stp (outM N R' F').rows k l=(outM N R' F').rows[k][l]:=by
   unfold stp
   rw[Int.toNat_natCast,Int.toNat_natCast,List.getD_eq_getElem?_getD (l:=(outM N R' F').rows),List.getElem?_eq_getElem h2]
   show ((outM N R' F').rows[k]).getD l 0=_
   rw[List.getD_eq_getElem?_getD,List.getElem?_eq_getElem g2]
   rfl
  rw[← v1,← v2]
  have i:=(Ei _ _ e).1
  have e2:=Ed (stp (outM M R F).rows k l).toNat (by omega)
  rw[Int.toNat_of_nonneg i.1] at e2
  exact (fu _ _ _ e e2).symm
 have es:(outM M R F).signs=(outM N R' F').signs:=by
  refine List.ext_getElem (by rw[b.slen,b'.slen,hlen]) fun k h1 h2=>?_
  rw[b.slen] at h1
  have:=Es _ _ (Ed k h1)
  rw[Int.toNat_natCast,List.getD_eq_getElem?_getD,List.getElem?_eq_getElem (by rw[b.slen];exact h1),List.getD_eq_getElem?_getD,List.getElem?_eq_getElem h2] at this
  exact this
 generalize outM M R F=A at er es
 generalize outM N R' F'=C at er es
 obtain⟨a1,a2⟩:=A
 obtain⟨c1,c2⟩:=C
 simp only at er es
 rw[er,es]
noncomputable def feI{α:Type}[DecidableEq α](xs:List α):List Int:=xs.map fun x=>(xs.idxOf x:Int)
noncomputable def PreF{α:Type}(e:α→PyData)(xs:List α)(ds:List PyData):Prop:=ds=[.list (xs.map e)]∧xs.length≤1000
noncomputable def PreFT{α:Type}(e:α→PyData)(xs:List α)(ds:List PyData):Prop:=ds=[.tuple (xs.map e)]∧xs.length≤1000
noncomputable def S_fe{α:Type}[DecidableEq α](e:α→PyData)(ds:List PyData)(c:AV):Prop:=∃ xs:List α,PreF e xs ds∧c=oI (feI xs)
noncomputable def ZnF{α:Type}[DecidableEq α](e:α→PyData)(ds:List PyData)(c:AV):Prop:=∃ xs:List α,PreFT e xs ds∧c=oI (feI xs)
noncomputable def FstI{α:Type}[DecidableEq α](xs:List α)(i:Nat)(kvs:List (α×PyData)):Prop:=kvs.length≤i∧∀ c,getA kvs c=if c∈xs.take i then some (.int (xs.idxOf c:Nat)) else none
theorem FstI.zero{α:Type}[DecidableEq α](xs:List α):FstI xs 0 []:=⟨Nat.le_refl _,fun c=>by simp[getA]⟩
theorem ZeY{α:Type}{xs:List α}{i:Nat}{c:α}(hi:i<xs.length):c∈xs.take (i+1)↔c∈xs.take i∨c=xs[i]:=by
 rw[List.take_add_one,List.getElem?_eq_getElem hi,List.mem_append]
 exact⟨fun z=>z.imp id (fun z=>List.mem_singleton.mp z),fun z=>z.imp id (fun z=>List.mem_singleton.mpr z)⟩
theorem FstI.old{α:Type}[DecidableEq α]{xs:List α}{i:Nat}{kvs:List (α×PyData)}(h:FstI xs i kvs)(hi:i<xs.length)(hm:xs[i]∈xs.take i):FstI xs (i+1) kvs:=by
 refine⟨by have:=h.1;omega,fun c=>?_⟩
 rw[h.2 c]
 have:(c∈xs.take (i+1))↔c∈xs.take i:=(ZeY hi).trans ⟨fun z=>z.elim id fun e=>e▸hm,.inl⟩
 by_cases hc:c∈xs.take i
 ·rw[if_pos hc,if_pos (this.mpr hc)]
 ·rw[if_neg hc,if_neg fun z=>hc (this.mp z)]
theorem ZlY{α:Type}[DecidableEq α]{xs:List α}{i:Nat}(hi:i<xs.length)(hm:xs[i]∉xs.take i):xs.idxOf xs[i]=i:=by
 have e:xs=xs.take i++xs[i]::xs.drop (i+1):=by rw[← List.drop_eq_getElem_cons hi,List.take_append_drop]
 have:(xs.take i++xs[i]::xs.drop (i+1)).idxOf xs[i]=i:=by
  rw[List.idxOf_append,if_neg hm,List.idxOf_cons_self,List.length_take]
  omega
 rw[← e] at this
 exact this
theorem FstI.new{α:Type}[DecidableEq α]{xs:List α}{i:Nat}{kvs:List (α×PyData)}(h:FstI xs i kvs)(hi:i<xs.length)(hm:xs[i]∉xs.take i):FstI xs (i+1) (putA kvs xs[i] (.int i)):=by
 refine⟨by have:=h.1;have:=ZgP kvs xs[i] (.int i);omega,fun c=>?_⟩
 rw[ZgO]
 by_cases e:c=xs[i]
 ·rw[if_pos e,if_pos ((ZeY hi).mpr (.inr e)),e,ZlY hi hm]
 ·rw[if_neg e,h.2 c]
  have:(c∈xs.take (i+1))↔c∈xs.take i:=(ZeY hi).trans ⟨fun z=>z.elim id fun z=>absurd z e,.inl⟩
  by_cases hc:c∈xs.take i
  ·rw[if_pos hc,if_pos (this.mpr hc)]
  ·rw[if_neg hc,if_neg fun z=>hc (this.mp z)]
theorem FstI.get{α:Type}[DecidableEq α]{xs:List α}{kvs:List (α×PyData)}(h:FstI xs xs.length kvs){i:Nat}(hi:i<xs.length):getA kvs xs[i]=some (.int (xs.idxOf xs[i]:Nat)):=by
 rw[h.2,List.take_length,if_pos (List.getElem_mem hi)]
theorem Zea(T:Txt K mg){α:Type}[DecidableEq α]{e:α→PyData}(F:KEnc e):Cal P w K mg base (CXE P w) 1 "first_equals" ["things"] [] (spV K (S_fe e) NX):=by
 refine val T.x_first_equals Zax (fun ds c ⟨xs,⟨e,_⟩,_⟩=>by rw[e];rfl) (fun f cdv A outer s H E hr=>?_) [] (by simp)
 refine⟨_,(Zab (Zag (i:=1) Zax.nd rfl (Or.inr rfl) ZdH)
   (Zab (Zbp PassesOwn.never rfl (ZjA (K:=K) rfl rfl T.n_enumerate (Zaa (pv 0) Zac)) (Zdp (K:=K) (n:=2) rfl rfl (Za5 (Zal (i:=2) Zax.nd rfl (Or.inl rfl)) (Za5 (Zal (i:=3) Zax.nd rfl (Or.inl rfl)) Zdm)))
    (Zae (Zdz (Zas (Zc1 (K:=K) rfl hr.units) (pv 3) (pv 1) (by with_unfolding_all rfl))
     (Zae (ZdN (pv 2) (Zfd (pv 1) (pv 3) (ZdS hr.units))))
     ZaO)))
   (Zae (Zaw (Zbc (N:=["thing", "firsts"]) (cap:=[none,some 1]) rfl rfl rfl (by kernel_rfl) (ZbE (K:=K) rfl (pv 0)) (fun _ _ _ _=>(Zal (i:=0) (show (["thing", "firsts"]:List Str).Nodup from by decide +kernel) rfl (Or.inl rfl))) (fun _ _ _ _=>ZaM) (fun _ _ _ _=>(Zat (Zaj (K:=K) rfl hr.units) (pv 1) (pv 0) (fun _ _=>rfl)))))))),?_⟩
 rintro ds c ⟨xs,⟨rfl,hz⟩,rfl⟩
 show Sv K _ _ _ [some (.d (.list (xs.map e))),none,none,none] _
 walk_at "vi"
 refine ZoU (α:=α) ?_
 walk_at "vi"
 refine⟨_,xs,e,rfl,rfl,⟨_,rfl⟩,fun i ρ=>∃ (kvs:List (α×PyData)) (o1 o2:Option AV),ρ=[some (.d (.list (xs.map e))),some (.dic (encD e kvs)),o1,o2]∧FstI xs i kvs,⟨[],none,none,rfl,FstI.zero xs⟩,?_,?_⟩
 ·rintro i ρ hi ⟨kvs,o1,o2,rfl,I⟩
  refine ZcO ?_
  walk_at "vi"
  refine Zf6 (fun ρ=>∃ (kvs:List (α×PyData)),ρ=[some (.d (.list (xs.map e))),some (.dic (encD e kvs)),some (.d (.int i)),some (.d (e xs[i]))]∧FstI xs (i+1) kvs) (fun ρ ⟨kvs,e,I⟩=>⟨kvs,_,_,e,I⟩) ?_
  walk_at "vi"
  refine Zir F (c:=xs[i]) (kvs:=kvs) rfl rfl ?_
  rw[I.2]
  by_cases hm:xs[i]∈xs.take i
  ·rw[if_pos hm]
   walk_at "vi"
   show (if (!true)=true then _ else _)
   refine iteNT ?_
   walk_at "vi"
   exact⟨kvs,rfl,I.old hi hm⟩
  ·rw[if_neg hm]
   walk_at "vi"
   show (if (!false)=true then _ else _)
   refine iteNF ?_
   walk_at "vi"
   refine Zkw F (by have:=I.1;omega) ?_
   walk_at "vi"
   refine⟨_,xs[i],rfl,rfl,NR.av,?_⟩
   exact⟨_,rfl,I.new hi hm⟩
 ·rintro ρ ⟨kvs,o1,o2,rfl,I⟩
  walk_at "vi"
  refine Zc6 (α:=α) ?_
  walk_at "vi"
  refine⟨xs,e,fun x=>.d (.int (xs.idxOf x:Nat)),.inl rfl,NR.av,by omega,fun i hi=>?_,_,Got.own (ZaJ fun _=>rfl),?_⟩
  ·show Gv K _ _ [none,some (.d (.dict (encD e kvs)))] _
   walk_at "vi"
   refine⟨wk_0,?_⟩
   walk_at "vi"
   exact Zhq F (c:=xs[i]) (kvs:=kvs) rfl rfl (I.get hi) (Item.flat rfl) rfl
  refine Zhp ?_
  rw[oI,feI,List.map_map]
  rfl
theorem ZdF(T:Txt K mg){α:Type}[DecidableEq α]{e:α→PyData}(F:KEnc e):Cal P w K mg base (CXE P w) 1 "first_equals" ["things"] [] (spV K (ZnF e) NX):=by
 refine val T.x_first_equals Zax (fun ds c ⟨xs,⟨e,_⟩,_⟩=>by rw[e];rfl) (fun f cdv A outer s H E hr=>?_) [] (by simp)
 refine⟨_,(Zab (Zag (i:=1) Zax.nd rfl (Or.inr rfl) ZdH)
   (Zab (Zbp PassesOwn.never rfl (Zd0 (K:=K) rfl rfl T.n_enumerate (Zaa (pv 0) Zac)) (Zdp (K:=K) (n:=2) rfl rfl (Za5 (Zal (i:=2) Zax.nd rfl (Or.inl rfl)) (Za5 (Zal (i:=3) Zax.nd rfl (Or.inl rfl)) Zdm)))
    (Zae (Zdz (Zas (Zc1 (K:=K) rfl hr.units) (pv 3) (pv 1) (by with_unfolding_all rfl))
     (Zae (ZdN (pv 2) (Zfd (pv 1) (pv 3) (ZdS hr.units))))
     ZaO)))
   (Zae (Zaw (Zbc (N:=["thing", "firsts"]) (cap:=[none,some 1]) rfl rfl rfl (by kernel_rfl) (ZbE (K:=K) rfl (pv 0)) (fun _ _ _ _=>(Zal (i:=0) (show (["thing", "firsts"]:List Str).Nodup from by decide +kernel) rfl (Or.inl rfl))) (fun _ _ _ _=>ZaM) (fun _ _ _ _=>(Zat (Zaj (K:=K) rfl hr.units) (pv 1) (pv 0) (fun _ _=>rfl)))))))),?_⟩
 rintro ds c ⟨xs,⟨rfl,hz⟩,rfl⟩
 show Sv K _ _ _ [some (.d (.tuple (xs.map e))),none,none,none] _
 walk_at "vi"
 refine Znp (α:=α) ?_
 walk_at "vi"
 refine⟨_,xs,e,rfl,rfl,NR.av,⟨_,rfl⟩,fun i ρ=>∃ (kvs:List (α×PyData)) (o1 o2:Option AV),ρ=[some (.d (.tuple (xs.map e))),some (.dic (encD e kvs)),o1,o2]∧FstI xs i kvs,⟨[],none,none,rfl,FstI.zero xs⟩,?_,?_⟩
 ·rintro i ρ hi ⟨kvs,o1,o2,rfl,I⟩
  refine ZcO ?_
  walk_at "vi"
  refine Zf6 (fun ρ=>∃ (kvs:List (α×PyData)),ρ=[some (.d (.tuple (xs.map e))),some (.dic (encD e kvs)),some (.d (.int i)),some (.d (e xs[i]))]∧FstI xs (i+1) kvs) (fun ρ ⟨kvs,e,I⟩=>⟨kvs,_,_,e,I⟩) ?_
  walk_at "vi"
  refine Zir F (c:=xs[i]) (kvs:=kvs) rfl rfl ?_
  rw[I.2]
  by_cases hm:xs[i]∈xs.take i
  ·rw[if_pos hm]
   walk_at "vi"
   show (if (!true)=true then _ else _)
   refine iteNT ?_
   walk_at "vi"
   exact⟨kvs,rfl,I.old hi hm⟩
  ·rw[if_neg hm]
   walk_at "vi"
   show (if (!false)=true then _ else _)
   refine iteNF ?_
   walk_at "vi"
   refine Zkw F (by have:=I.1;omega) ?_
   walk_at "vi"
   refine⟨_,xs[i],rfl,rfl,NR.av,?_⟩
   exact⟨_,rfl,I.new hi hm⟩
 ·rintro ρ ⟨kvs,o1,o2,rfl,I⟩
  walk_at "vi"
  refine Zc6 (α:=α) ?_
  walk_at "vi"
  refine⟨xs,e,fun x=>.d (.int (xs.idxOf x:Nat)),.inr rfl,NR.av,by omega,fun i hi=>?_,_,Got.own (ZaJ fun _=>rfl),?_⟩
  ·show Gv K _ _ [none,some (.d (.dict (encD e kvs)))] _
   walk_at "vi"
   refine⟨wk_0,?_⟩
   walk_at "vi"
   exact Zhq F (c:=xs[i]) (kvs:=kvs) rfl rfl (I.get hi) (Item.flat rfl) rfl
  refine Zhp ?_
  rw[oI,feI,List.map_map]
  rfl
theorem ZnG{n L:Nat}{nx:Nat→Nat→Nat}{al:List Int}:feI ((List.range n).map (keyL L nx al))=nxtL n L nx al:=by
 unfold feI nxtL fstI
 rw[List.map_map]
 rfl
theorem ZlZ(p:Int×List Int):noLst (dQ p)=true:=by
 simp only[noLst,noLsts,Bool.and_true,Bool.true_and]
 exact Zaq _
noncomputable abbrev keysM(M:Mach)(al:List Int):List (Int×List Int):=(List.range M.rows.length).map (keyL (ltr M) (nxM M) al)
theorem Zgf{M:Mach}{al:List Int}(hP:Parts 1 64 M){i:Nat}(hi:i<M.rows.length):(M.rows[i].map fun y=>tl al y.toNat)=(List.range (ltr M)).map fun l=>tl al (nxM M i l):=by
 have hr:=(hP.row _ (List.getElem_mem hi)).1
 refine List.ext_getElem (by rw[List.length_map,List.length_map,List.length_range];exact hr) fun l h1 h2=>?_
 rw[List.length_map] at h1
 rw[List.getElem_map,List.getElem_map,List.getElem_range]
 congr 1
 unfold nxM stp
 rw[Int.toNat_natCast,Int.toNat_natCast,List.getD_eq_getElem?_getD (l:=M.rows),List.getElem?_eq_getElem hi]
 show _=(M.rows[i].getD l 0).toNat
 rw[List.getD_eq_getElem?_getD,List.getElem?_eq_getElem h1]
 rfl
theorem ZnH{o o':Option AV}{r:Sl}:Wk (o::o'::r) (none::none::r):=fun _ _ _ _ _ _ s=>(s.drop (i:=0)).drop (i:=1)
noncomputable def ZnI(ds:List PyData)(M:Mach)(al:List Int):Prop:=ds=[tR M.rows,dI al]∧Parts 1 64 M∧al.length=M.rows.length
noncomputable def ZnJ(ds:List PyData)(c:AV):Prop:=∃ M al,ZnI ds M al∧c=oI (nxtL M.rows.length (ltr M) (nxM M) al)
theorem Zgg(T:Txt K mg):Cal P w K mg base (CXE P w) 2 "parted" ["rows", "alike"] [] (spV K ZnJ NX):=by
 have c_first_equals:Cal P w K mg base (CXE P w) 1 "first_equals" ["things"] [] (spV K (S_fe dQ) NX):=Zea T KEnc.nest
 refine val T.x_parted ZiG (fun ds c ⟨M,al,⟨e,_⟩,_⟩=>by rw[e];rfl) (fun f cdv A outer s H E hr=>?_) [] (by simp)
 refine⟨_,(Zae (Zaw (ZaC (c_first_equals.mono (by decide)) hr rfl passE (Zaa (Zbc (N:=["room", "row", "alike"]) (cap:=[none,none,some 1]) rfl rfl rfl (by kernel_rfl) (Zd0 (K:=K) rfl rfl T.n_enumerate (Zaa (pv 0) Zac)) (fun _ _ _ _=>(Zdp (K:=K) (n:=2) rfl rfl (Za5 (Zal (i:=0) (show (["room", "row", "alike"]:List Str).Nodup from by decide +kernel) rfl (Or.inl rfl)) (Za5 (Zal (i:=1) (show (["room", "row", "alike"]:List Str).Nodup from by decide +kernel) rfl (Or.inl rfl)) Zdm)))) (fun _ _ _ _=>ZaM) (fun _ _ _ _=>(ZcW (Zaa (Zat (Zaj (K:=K) rfl hr.units) (pv 2) (pv 0) (fun _ _=>rfl)) (Zaa (Zar (ZaG (K:=K) rfl) rfl T.n_tuple PyProof.Rows.boot_tuple (Zaa (Zbc (N:=["led", "alike"]) (cap:=[none,some 2]) rfl rfl rfl (by kernel_rfl) (ZbE (K:=K) rfl (pv 1)) (fun _ _ _ _=>(Zal (i:=0) (show (["led", "alike"]:List Str).Nodup from by decide +kernel) rfl (Or.inl rfl))) (fun _ _ _ _=>ZaM) (fun _ _ _ _=>(Zat (Zaj (K:=K) rfl hr.units) (pv 1) (pv 0) (fun _ _=>rfl)))) Zac)) Zac))))) Zac)))),?_⟩
 rintro ds c ⟨M,al,⟨rfl,hP,hl⟩,rfl⟩
 show Sv K _ _ _ [some (.d (tR M.rows)),some (.d (dI al))] _
 have hn1:=hP.n1
 have hl1:=hP.l1
 walk_at "vi"
 refine ZdK (ZeS ?_)
 walk_at "vi"
 refine⟨_,M.rows.map tI,rfl,rfl,NR.av,by rw[List.length_map];omega,fun n ys=>n≤M.rows.length∧ys=((List.range n).map (keyL (ltr M) (nxM M) al)).map fun k=>.d (dQ k),⟨Nat.zero_le _,rfl⟩,fun i ys hi iy=>?_,fun ys iy=>?_⟩
 ·rw[List.length_map] at hi
  obtain⟨_,rfl⟩:=iy
  have eg:(M.rows.map tI).getD i .none=tI M.rows[i]:=by rw[List.getD_eq_getElem?_getD,List.getElem?_map,List.getElem?_eq_getElem hi];rfl
  show Gv K _ (.tuple [.int i,(M.rows.map tI).getD i .none]) [none,none,some (.d (dI al))] _
  rw[eg]
  refine ZcO ?_
  walk_at "vi"
  refine⟨ZnH,ZeR ?_⟩
  walk_at "vi"
  refine Zc3 ?_
  walk_at "vi"
  refine ix_L rfl (Zcz (by omega) (by omega)) (Item.flat rfl) ?_
  walk_at "vi"
  refine Zc6 (α:=Int) ?_
  walk_at "vi"
  refine⟨M.rows[i],PyData.int,fun y=>.d (.int (tl al y.toNat)),.inr rfl,NR.av,by have:=(hP.row _ (List.getElem_mem hi)).1;omega,fun l hlt=>?_,_,Got.own (ZaJ fun _=>rfl),?_⟩
  ·have hy:=(hP.row _ (List.getElem_mem hi)).2 _ (List.getElem_mem hlt)
   show Gv K _ _ [none,some (.d (dI al))] _
   walk_at "vi"
   refine⟨wk_0,?_⟩
   walk_at "vi"
   exact ix_L rfl (Zcz hy.1 (by omega)) (Item.flat rfl) rfl
  walk_at "vi"
  refine Za9 (ds:=(M.rows[i].map fun y=>tl al y.toNat).map .int) (by rw[TV.data,AV.data,ZaQ,List.map_map];rfl) (Kp.flat (Zaq _)) ?_
  rw[Zgf hP hi]
  walk_at "vi"
  refine⟨[.d (.int (tl al i)),.d (tI ((List.range (ltr M)).map fun l=>tl al (nxM M i l)))],.cons rfl (.cons rfl .nil),by show 2≤1000;decide,?_⟩
  refine⟨.d (dQ (keyL (ltr M) (nxM M) al i)),rfl,by omega,?_⟩
  rw[List.range_succ,List.map_append,List.map_append]
  rfl
 ·rw[List.length_map] at iy
  obtain⟨_,rfl⟩:=iy
  refine⟨_,Got.own (ZaJ fun k=>ZlZ k),?_⟩
  walk_at "vi"
  refine Zcg (by walk_at "nrs") ⟨keysM M al,⟨?_,?_⟩,rfl⟩ (Got.own (ZbB _)) ?_
  ·simp only[List.map_cons,List.map_nil,List.append_nil]
   rw[TV.data,AV.data,ZaQ]
  ·rw[List.length_map,List.length_range];omega
  exact Zhp (by rw[ZnG])
theorem Zdi{al:List Int}{n:Nat}(h:al.length=n):setN al=cnt n (tl al):=by
 have e:al=(List.range n).map (tl al):=by
  refine List.ext_getElem (by simp[h]) fun i h1 h2=>?_
  simp[tl,List.getD_eq_getElem?_getD,List.getElem?_eq_getElem h1]
 unfold setN
 have:=(ZkC (tl al) n).2
 rw[← e] at this
 exact this
noncomputable def ZeD(cs:List AV):Prop:=∃ M:Mach,cs=[.d (dM M)]∧Parts 1 64 M
noncomputable def ZiX(cs:List AV)(c:AV):Prop:=∃ (M:Mach) (R:List Int),cs=[.d (dM M)]∧LotsM M R∧c=oI R
theorem ZnK{α:Type}[DecidableEq α](xs:List α):(feI xs).length=xs.length:=List.length_map ..
theorem ZoW{xs:List Int}{n:Nat}(hn:xs.length=n):∀ i j,i<n→j<n→(tl (feI xs) i=tl (feI xs) j↔tl xs i=tl xs j):=by
 subst hn
 have e:∀ i,i<xs.length→tl (feI xs) i=(xs.idxOf (tl xs i):Int):=fun i hi=>by
  unfold tl feI
  rw[List.getD_eq_getElem?_getD,List.getElem?_map,List.getD_eq_getElem?_getD,List.getElem?_eq_getElem hi]
  rfl
 have m:∀ i,i<xs.length→tl xs i∈xs:=fun i hi=>ZaI hi
 intro i j hi hj
 rw[e i hi,e j hj]
 refine⟨fun h=>?_,fun h=>by rw[h]⟩
 have h:xs.idxOf (tl xs i)=xs.idxOf (tl xs j):=by omega
 have h1:=List.getElem_idxOf (List.idxOf_lt_length_of_mem (m i hi))
 have h2:=List.getElem_idxOf (List.idxOf_lt_length_of_mem (m j hj))
 rw[← h1,← h2]
 congr 1
theorem Zep(T:Txt K mg):Cal P w K mg base (CXE P w) 3 "first_alike" ["machine"] [] (spR K ZeD ZiX NP):=by
 have c_first_equals:Cal P w K mg base (CXE P w) 1 "first_equals" ["things"] [] (spV K (ZnF PyData.int) NX):=ZdF T KEnc.int
 have c_parted:Cal P w K mg base (CXE P w) 2 "parted" ["rows", "alike"] [] (spV K ZnJ NX):=Zgg T
 refine valR T.x_first_alike Za3 (fun cs ⟨M,e,_⟩=>by rw[e];rfl) (fun f cdv A outer s H E hr=>?_) [] (by simp)
 refine⟨_,(Zab (Zag (i:=1) Za3.nd rfl (Or.inl rfl) (ZaC (c_first_equals.mono (by decide)) hr rfl passE (Zaa (Zat (Zaj (K:=K) rfl hr.units) (pv 0) Zad (fun _ _=>rfl)) Zac)))
   (Zab (Zag (i:=2) Za3.nd rfl (Or.inl rfl) Zad)
   (Zab (Zb6 PassesOwn.never (Zas ZdO (pv 2) (Zah ZbG rfl T.n_len PySem.boot_len (Zaa (Zar (ZbZ (K:=K) rfl rfl) rfl T.n_set PyProof.Rows.boot_set (Zaa (pv 1) Zac)) Zac)) (nomark _))
    (Zab (Zag (i:=2) Za3.nd rfl (Or.inl rfl) (Zah ZbG rfl T.n_len PySem.boot_len (Zaa (Zar (ZbZ (K:=K) rfl rfl) rfl T.n_set PyProof.Rows.boot_set (Zaa (pv 1) Zac)) Zac)))
    (Zae (Zag (i:=1) Za3.nd rfl (Or.inl rfl) (ZaC (c_parted.mono (by decide)) hr rfl passE (Zaa (Zat (Zaj (K:=K) rfl hr.units) (pv 0) Zad (fun _ _=>rfl)) (Zaa (pv 1) Zac)))))))
   (Zae (Zaw (pv 1)))))),?_⟩
 rintro cs ⟨M,rfl,hP⟩
 show Sv K _ _ _ [some (.d (dM M)),none,none] _
 have hn0:=hP.n0
 have hn1:=hP.n1
 have hs:=hP.s
 walk_at "vi"
 refine Zcg (by walk_at "nrs") ⟨M.signs,⟨rfl,by omega⟩,rfl⟩ (Got.own (ZbB _)) ?_
 have hsame:=ZoW (xs:=M.signs) hs
 have hfl:(feI M.signs).length=M.rows.length:=by rw[ZnK];exact hs
 generalize feI M.signs=al0 at hsame hfl
 walk_at "vi"
 refine ZcM (fun m ρ=>∃ (al:List Int) (k:Nat),ρ=[some (.d (dM M)),some (oI al),some (.d (.int k))]∧al.length=M.rows.length∧k≤M.rows.length∧(∀ R,Ref M.rows.length (ltr M) (nxM M) al k R→Ref M.rows.length (ltr M) (nxM M) al0 0 R)∧m=M.rows.length-k) M.rows.length ⟨al0,0,rfl,hfl,Nat.zero_le _,fun R h=>h,rfl⟩ ?_
 rintro m ρ ⟨al,k,rfl,hal,hk,hR,rfl⟩
 have hcl:=Zg3 M.rows.length (tl al)
 walk_at "vi"
 refine Zc9 (ks:=al) (Zay al) (by omega) ?_
 walk_at "vi"
 refine Zcj ?_
 rw[Zdi hal]
 walk_at "vi"
 refine ite2 (fun h=>?_) fun h=>?_
 ·have hlt:k<cnt M.rows.length (tl al):=by have:=of_decide_eq_true h;omega
  walk_at "vi"
  refine Zc9 (ks:=al) (Zay al) (by omega) ?_
  walk_at "vi"
  refine Zcj ?_
  rw[Zdi hal]
  walk_at "vi"
  refine Zcg (by walk_at "nrs") ⟨M,al,⟨?_,hP,hal⟩,rfl⟩ (Got.own (ZbB _)) ?_
  ·show [tR M.rows,(oI al).data]=_
   rw[Zay]
  walk_at "vi"
  exact⟨M.rows.length-cnt M.rows.length (tl al),by omega,_,_,rfl,Zg7,hcl,fun R hr=>hR R (.step hlt hr),rfl⟩
 ·have hge:cnt M.rows.length (tl al)≤k:=by
   have:¬ ((k:Int)<(cnt M.rows.length (tl al):Nat)):=fun z=>h (decide_eq_true z)
   omega
  walk_at "vi"
  exact⟨_,Zhp rfl,M,al,rfl,⟨al0,hsame,(hR al (.done hge)).lots0 hn0 (Zcp hP)⟩,rfl⟩
noncomputable def ZcB(cs:List AV)(c:AV):Prop:=∃ (M:Mach) (R F:List Int),cs=[.d (dM M)]∧LotsM M R∧Rb M R F∧c=.d (dM (outM M R F))
theorem Zg8(T:Txt K mg)(B:base.BuiltinsAt mg mainGlobals)(hTs:∀ p∈ts0,p∈Tabs.ts):Cal P w K mg base (CXE P w) 5 "least" ["machine"] [] (spR K ZeD ZcB NP):=by
 have c_reached_by:Cal P w K mg base (CXE P w) 4 "reached_by" ["machine", "stands"] [] (spR K ZkA ZiN NP):=ZeW T B hTs
 have c_first_alike:Cal P w K mg base (CXE P w) 3 "first_alike" ["machine"] [] (spR K ZeD ZiX NP):=Zep T
 refine valR T.x_least Zj0 (fun cs ⟨M,e,_⟩=>by rw[e];rfl) (fun f cdv A outer s H E hr=>?_) [] (by simp)
 refine⟨_,(Zae (Zaw (ZaC (c_reached_by.mono (by decide)) hr rfl passE (Zaa (pv 0) (Zaa (ZaC (c_first_alike.mono (by decide)) hr rfl passE (Zaa (pv 0) Zac)) Zac))))),?_⟩
 rintro cs ⟨M,rfl,hP⟩
 show Sv K _ _ _ [some (.d (dM M))] _
 walk_at "vm"
 refine⟨[.d (dM M)],.cons (.d NR.av rfl) .nil,⟨M,rfl,hP⟩,fun c ⟨M',R,e,hl,ec⟩=>?_,fun _ z=>z.elim⟩
 simp only[List.append_nil,List.cons.injEq,AV.d.injEq,and_true] at e
 have e1:=Zb5 e
 subst e1 ec
 refine⟨_,Got.own (ZbB _),?_⟩
 walk_at "vm"
 refine⟨[.d (dM M),.d (dI R)],.cons (.d NR.av rfl) (.cons (.d NR.av (Zay _)) .nil),⟨M,R,rfl,hP,hl.sok⟩,fun c ⟨M',st',F,e,h1,h2,h3,ec⟩=>?_,fun _ z=>z.elim⟩
 simp only[List.append_nil,List.cons.injEq,AV.d.injEq,and_true] at e
 have e1:=Zb5 e.1
 subst e1
 have e2:=ZnC e.2
 subst e2
 subst ec
 exact⟨_,Got.own (ZbT _),_,Zbz rfl,M,R,F,rfl,hl,⟨hP,hl.sok,h1,h2,h3⟩,rfl⟩
theorem ZfQ{Q:TV→Prop}{X:Exc→Prop}{M:Mach}(hP:Parts 1 64 M)(q:∀ R F,LotsM M R→Rb M R F→Q (.av (.d (dM (outM M R F))))):ClR ZeD ZcB NP [] Q X [.av (.d (dM M))] :=
 ⟨[.d (dM M)],.cons (.d NR.av rfl) .nil,⟨M,rfl,hP⟩,fun c ⟨M',R,F,e,h1,h2,ec⟩=>by
  simp only[List.append_nil,List.cons.injEq,AV.d.injEq,and_true] at e
  have e1:=Zb5 e
  subst e1 ec
  exact⟨_,Got.own (ZbT _),q R F h1 h2⟩,fun _ z=>z.elim⟩
noncomputable def ZcU(ds:List PyData)(c:AV):Prop:=∃ b:Int,ds=[.int b]∧(2≤b∧b≤5)∧c=.d .none
theorem ZfR(T:Txt K mg):Cal P w K mg base (CXE P w) 1 "want_base" ["base"] [] (spV K ZcU NX):=by
 refine val T.x_want_base ZdB (fun ds c ⟨k,e,_⟩=>by rw[e];rfl) (fun f cdv A outer s H E hr=>?_) [] (by simp)
 refine⟨_,(Zae (Zdl (PW.pt (Zdk (Zas ZdO (pv 0) (ZdR T.g_LEAST_BASE rfl) (nomark _)) (Zdx (Zas ZeJ (pv 0) (ZdR T.g_GREATEST_BASE rfl) (nomark _)))))
    (Zae Zjr)
    ZaO)),?_⟩
 rintro ds c ⟨b,rfl,hb,rfl⟩
 show Sv K _ _ _ [some (.d (.int b))] _
 walk_at "vs"
 refine iteN (by omega) ?_
 walk_at "vs"
 refine iteN (by omega) ?_
 walk_at "vs"
 rfl
theorem ZeZ{Q:TV→Prop}{b:Int}(hb:2≤b∧b≤5)(q:Q (.av (.d .none))):Cl ZcU [] Q [.av (.d (.int b))]:=Zcg (by walk_at "nrs") ⟨b,rfl,hb,rfl⟩ (Got.own rfl) q
noncomputable def Zcq(ds:List PyData)(c:AV):Prop:=∃ n b:Int,ds=[.int n,.int b]∧(2≤b∧b≤5)∧0≤n∧n.toNat<2 ^ 900∧c=oI (figs b n)
theorem Ze0(T:Txt K mg):∀ dvs∈[[],[V.int 2]],Cal P w K mg base (CXE P w) 2 "figures_of" ["place", "base"] dvs (spV K Zcq NX):=by
 have c_want_base_n:Cal P w K mg base (CXE P w) 1 "want_base" ["base"] [] (spV K ZcU NX):=ZfR T
 refine val T.x_figures_of ZbA (fun ds c ⟨n,b,e,_⟩=>by rw[e];rfl) (fun f cdv A outer s H E hr=>?_)
 refine⟨_,(Zab (ZaV (ZaC (c_want_base_n.mono (by decide)) hr rfl passE (Zaa (pv 1) Zac)))
   (Zab (Zag (i:=2) ZbA.nd rfl (Or.inl rfl) (ZbU Zac))
   (Zab (Zag (i:=3) ZbA.nd rfl (Or.inl rfl) (pv 0))
   (Zab (Zb6 PassesOwn.never (Zas ZeJ (pv 3) Zad (nomark _))
    (Zab (ZaV (ZbW (K:=K) rfl PySem.F.plainAttrs_list PySem.F.slot_list_append PySem.F.type_list_append ZaP (pv 2) (Zaa (Zan ZaU (pv 3) (pv 1)) Zac)))
    (Zae (Zag (i:=3) ZbA.nd rfl (Or.inl rfl) (Zan Za7 (pv 3) (pv 1))))))
   (Zab (ZaV (Zk6 (K:=K) rfl PySem.F.plainAttrs_list PySem.F.slot_list_reverse PySem.F.type_list_reverse Zhi (pv 2)))
   (Zae (Zaw (pv 2)))))))),?_⟩
 rintro ds c ⟨n,b,rfl,hb,h0,h1,rfl⟩
 show Sv K _ _ _ [some (.d (.int n)),some (.d (.int b)),none,none] _
 walk_at "vs"
 refine ZeZ hb ?_
 walk_at "vs"
 refine ZcM (fun m ρ=>∃ (ds:List Int) (r:Int),ρ=[some (.d (.int n)),some (.d (.int b)),some (oI ds),some (.d (.int r))]∧Lig b n ds r∧m=r.toNat) n.toNat ⟨[],n,rfl,.start h0 h1,rfl⟩ ?_
 rintro m ρ ⟨ds,r,rfl,L,rfl⟩
 walk_at "vs"
 refine ite2 (fun h=>?_) fun h=>?_
 ·have hr0:0<r:=of_decide_eq_true h
  obtain⟨L',hl,hm⟩:=L.step hb.1 hb.2 hr0
  walk_at "vs"
  refine v_ap ?hz ?_
  case hz=>rw[List.length_map];omega
  walk_at "vs"
  exact⟨(r / b).toNat,hm,ds++[r%b],r / b,by rw[oI,List.map_append];rfl,L',rfl⟩
 ·have hr0:¬ 0<r:=fun z=>h (decide_eq_true z)
  obtain⟨e,hl⟩:=L.done hr0
  subst e
  walk_at "vs"
  refine Zhp ?_
  rw[oI,figs,List.map_reverse]
theorem Zeq{Q:TV→Prop}{n b:Int}(hb:2≤b∧b≤5)(h0:0≤n)(h1:n.toNat<2 ^ 900)(q:Q (.av (oI (figs b n)))):Cl Zcq [] Q [.av (.d (.int n)),.av (.d (.int b))] :=
 Zcg (by walk_at "nrs") ⟨n,b,rfl,hb,h0,h1,rfl⟩ (Got.own (ZbB _)) q
theorem ZiY{b q d:Int}(hb:2≤b∧b≤5)(hq:0≤q)(hd:0≤d∧d<b)(h:0<q*b+d):figs b (q*b+d)=figs b q++[d]:=by
 have e1:(q*b+d)%b=d:=by rw[Int.add_comm,Int.add_mul_emod_self_right];exact Int.emod_eq_of_lt hd.1 hd.2
 have e2:(q*b+d) / b=q:=by
  rw[Int.add_comm,Int.add_mul_ediv_right _ _ (by omega),Int.ediv_eq_zero_of_lt hd.1 hd.2];omega
 unfold figs
 rw[ZeL hb.1 hb.2 h,e1,e2,List.reverse_cons]
noncomputable def rm(rows:List (List Int))(ls:List Int):Int:=ls.foldl (stp rows) 0
theorem Zcb(rows:List (List Int))(ls:List Int)(l:Int):rm rows (ls++[l])=stp rows (rm rows ls) l:=by unfold rm;rw[List.foldl_append];rfl
theorem Parts.rm{a b:Int}{M:Mach}(h:Parts a b M):∀ (n:Nat) (ls:List Int),ls.length=n→(∀ l∈ls,0≤l∧l<((M.rows.getD 0 []).length:Int))→0≤rm M.rows ls∧rm M.rows ls<M.rows.length
 | 0,ls,e,_=>by
  have:ls=[]:=List.length_eq_zero_iff.mp e
  subst this
  have:=h.n0
  exact⟨Int.le_refl _,by show (0:Int)<_;omega⟩
 | n+1,ls,e,hl=>by
  obtain⟨ys,y,rfl⟩:∃ ys y,ls=ys++[y]:=⟨ls.dropLast,ls.getLast (by intro z;rw[z] at e;cases e),(List.dropLast_concat_getLast _).symm⟩
  rw[List.length_append] at e
  have ih:=h.rm n ys (by simpa using e) fun l hl'=>hl l (List.mem_append_left _ hl')
  have hy:=hl y (List.mem_append_right _ (.head _))
  rw[Zcb]
  exact h.stp ih.1 ih.2 hy.1 hy.2
noncomputable def LsOk(M:Mach)(ls:List Int):Prop:=∀ l∈ls,0≤l∧l<((M.rows.getD 0 []).length:Int)
noncomputable def ZfS(ds:List PyData)(c:AV):Prop:=∃ (a b:Int) (M:Mach) (ls:List Int),ds=[dM M,dI ls]∧Parts a b M∧LsOk M ls∧c=.d (.int (rm M.rows ls))
theorem Zht(T:Txt K mg):Cal P w K mg base (CXE P w) 1 "room_of" ["machine", "letters"] [] (spV K ZfS NX):=by
 refine val T.x_room_of Zb1 (fun ds c ⟨a,b,M,ls,e,_⟩=>by rw[e];rfl) (fun f cdv A outer s H E hr=>?_) [] (by simp)
 refine⟨_,(Zab (Zag (i:=2) Zb1.nd rfl (Or.inl rfl) (Zat (Zaj (K:=K) rfl hr.units) (pv 0) Zad (fun _ _=>rfl)))
   (Zab (Zag (i:=3) Zb1.nd rfl (Or.inl rfl) Zad)
   (Zab (Zbp PassesOwn.never rfl (ZbE (K:=K) rfl (pv 1)) (Zal (i:=4) Zb1.nd rfl (Or.inl rfl))
    (Zae (Zag (i:=3) Zb1.nd rfl (Or.inl rfl) (Zat (Zaj (K:=K) rfl hr.units) (Zat (Zaj (K:=K) rfl hr.units) (pv 2) (pv 3) (fun _ _=>rfl)) (pv 4) (fun _ _=>rfl)))))
   (Zae (Zaw (pv 3)))))),?_⟩
 rintro ds c ⟨a,b,M,ls,rfl,h,hl,rfl⟩
 show Sv K _ _ _ [some (.d (dM M)),some (.d (dI ls)),none,none,none] _
 walk_at "vm"
 refine Zif (α:=Int) ?_
 walk_at "vm"
 refine⟨ls,PyData.int,.inl rfl,⟨_,rfl⟩,fun i ρ=>∃ o,ρ=[some (.d (dM M)),some (.d (dI ls)),some (.d (tR M.rows)),some (.d (.int (rm M.rows (ls.take i)))),o],⟨none,rfl⟩,?_,?_⟩
 ·rintro i ρ hi ⟨o,rfl⟩
  have h1:=h.rm _ (ls.take i) rfl fun l hl'=>hl l (List.mem_of_mem_take hl')
  have h2:=hl _ (List.getElem_mem hi)
  have hr:(rm M.rows (ls.take i)).toNat<M.rows.length:=by omega
  have hx:=(h.row _ (ZaI (d:=[]) hr)).1
  walk_at "vs"
  refine ix_T rfl (Zbt h1.1 h1.2) Item.d ?_
  walk_at "vs"
  refine ix_T rfl (Za1 h2.1 (by rw[hx];exact h2.2)) Item.d ?_
  walk_at "vs"
  refine⟨some (.d (.int ls[i])),?_⟩
  rw[List.take_add_one,List.getElem?_eq_getElem hi]
  show _=[_,_,_,some (AV.d (.int (rm M.rows (ls.take i++[ls[i]])))),_]
  rw[Zcb]
  rfl
 ·rintro ρ ⟨o,rfl⟩
  rw[List.take_length]
  walk_at "vs"
  exact Zbz rfl
noncomputable def Bad(b:Int):Prop:=b<2∨5<b
noncomputable def ZkE(cs:List AV):Prop:=∃ b:Int,cs=[.d (.int b)]
noncomputable def ZiZ(cs:List AV)(c:AV):Prop:=∃ b:Int,cs=[.d (.int b)]∧(2≤b∧b≤5)∧c=.d .none
noncomputable def ZnL(C:Addr)(cs:List AV)(e:Exc):Prop:=∃ b:Int,cs=[.d (.int b)]∧Bad b∧e=⟨C,[]⟩
noncomputable def Zi0(cs:List AV):Prop:=∃ M,cs=[.d (dM M)]∧Mok M
noncomputable def Zgh(cs:List AV)(c:AV):Prop:=∃ M,cs=[.d (dM M)]∧(2≤(M.lt:Int)∧(M.lt:Int)≤5)∧c=.d (.int (M.lt:Nat))
noncomputable def Zl0(C:Addr)(cs:List AV)(e:Exc):Prop:=∃ M,cs=[.d (dM M)]∧Bad M.lt∧e=⟨C,[]⟩
section
variable{C_WheelError C_NoBase C_TooGreat C_NotLike C_NoStep:Addr}
theorem Ze1(T:Txt K mg)(Z:Cs K mg C_WheelError C_NoBase C_TooGreat C_NotLike C_NoStep):Cal P w K mg base (CXE P w) 1 "want_base" ["base"] [] (spR K ZkE ZiZ (ZnL C_NoBase)):=by
 refine valRX T.x_want_base ZdB (fun cs ⟨b,e⟩=>by rw[e];rfl) (fun f cdv A outer s H E hr=>?_) [] (by simp)
 refine⟨_,(Zae (Zdl (PW.pt (Zdk (Zas ZdO (pv 0) (ZdR T.g_LEAST_BASE rfl) (nomark _)) (Zdx (Zas ZeJ (pv 0) (ZdR T.g_GREATEST_BASE rfl) (nomark _)))))
    (Zae (ZdW PySem.F.excBase_ValueError rfl PySem.F.excBase_ValueError Z.x_NoBase rfl rfl Z.c_NoBase))
    ZaO)),?_⟩
 rintro cs ⟨b,rfl⟩
 show Sv K _ _ _ [some (.d (.int b))] _
 walk_at "vs"
 refine ite2 (fun h=>?_) fun h=>?_
 ·walk_at "vs"
  exact Zb7 ⟨b,rfl,.inl (of_decide_eq_true h),rfl⟩
 ·walk_at "vs"
  refine ite2 (fun h2=>?_) fun h2=>?_
  ·walk_at "vs"
   exact Zb7 ⟨b,rfl,.inr (of_decide_eq_true h2),rfl⟩
  ·have h1:¬ b<2:=fun z=>h (decide_eq_true z)
   have h3:¬ 5<b:=fun z=>h2 (decide_eq_true z)
   walk_at "vs"
   exact⟨b,rfl,by omega,rfl⟩
theorem Zgi(T:Txt K mg)(Z:Cs K mg C_WheelError C_NoBase C_TooGreat C_NotLike C_NoStep):Cal P w K mg base (CXE P w) 2 "base_of" ["row"] [] (spR K Zi0 Zgh (Zl0 C_NoBase)):=by
 have c_want_base:Cal P w K mg base (CXE P w) 1 "want_base" ["base"] [] (spR K ZkE ZiZ (ZnL C_NoBase)):=Ze1 T Z
 refine valRX T.x_base_of ZeB (fun cs ⟨M,e,_⟩=>by rw[e];rfl) (fun f cdv A outer s H E hr=>?_) [] (by simp)
 refine⟨_,(Zab (Zag (i:=1) ZeB.nd rfl (Or.inl rfl) (Zah (Zai (K:=K) rfl) rfl T.n_len PySem.boot_len (Zaa (Zat (Zaj (K:=K) rfl hr.units) (Zat (Zaj (K:=K) rfl hr.units) (pv 0) Zad (fun _ _=>rfl)) Zad (fun _ _=>rfl)) Zac)))
   (Zab (ZaV (ZcN (c_want_base.mono (by decide)) hr rfl (Zaa (pv 1) Zac)))
   (Zae (Zaw (pv 1))))),?_⟩
 rintro cs ⟨M,rfl,hM⟩
 show Sv K _ _ _ [some (.d (dM M)),none] _
 have:=hM.n
 walk_at "vm"
 refine ix_T rfl (Zbt (by decide) (by omega)) Item.d ?_
 walk_at "vm"
 refine ZdC rfl ?_
 rw[List.length_map]
 show ∃ a',Sto _ (.av (.d (.int (M.lt:Nat)))) a'∧_
 walk_at "vm"
 refine⟨[.d (.int (M.lt:Nat))],.cons (.d NR.av rfl) .nil,⟨_,rfl⟩,fun c ⟨b,e,hb,ec⟩=>?_,fun e ⟨b,eb,hb,ee⟩=>?_⟩
 ·simp only[List.append_nil,List.cons.injEq,AV.d.injEq,PyData.int.injEq,and_true] at e
  subst e ec
  refine⟨_,Got.own rfl,?_⟩
  walk_at "vm"
  exact⟨_,Zbz rfl,M,rfl,hb,rfl⟩
 ·simp only[List.append_nil,List.cons.injEq,AV.d.injEq,PyData.int.injEq,and_true] at eb
  subst eb
  exact⟨M,rfl,hb,ee⟩
end
theorem Zi1{α:Type}[DecidableEq α]{θ:ThX α}{sg:α→Int}{F:List α}(hX:MetX θ F)(n0:1≤θ.n)(n1:θ.n≤64)(m:θ.m≤100)(hs:∀ x,θ.U x→0≤sg x∧sg x≤9):Parts 1 64 (mMet θ.t sg F):=by
 have all:∀ x∈F,∀ l,l<θ.n→θ.g x l∈F:=hX.bf.all fun j hj z=>by omega
 obtain⟨r,e⟩:=hX.bf.pre
 have hF:0<F.length:=by rw[e];simp
 have hrow:∀ a,(rowN θ.g F a θ.n).length=θ.n:=fun a=>by simp[rowN]
 have hr0:((mMet θ.t sg F).rows.getD 0 []).length=θ.n:=by
  show ((F.map fun a=>rowN θ.g F a θ.n).getD 0 []).length=_
  rw[List.getD_eq_getElem?_getD,List.getElem?_map,List.getElem?_eq_getElem hF]
  exact hrow _
 have hle:=hX.le
 have hlen:(mMet θ.t sg F).rows.length=F.length:=List.length_map ..
 refine⟨by rw[hlen];exact hF,by rw[hlen];omega,by rw[hlen];exact List.length_map ..,fun x hx=>?_,by rw[hr0];omega,by rw[hr0];omega,fun x hx=>?_⟩
 ·obtain⟨a,ha,rfl⟩:=List.mem_map.mp (show x∈F.map fun a=>rowN θ.g F a θ.n from hx)
  refine⟨by rw[hr0];exact hrow a,fun y hy=>?_⟩
  obtain⟨l,hl,rfl⟩:=List.mem_map.mp hy
  rw[hlen]
  have:=List.idxOf_lt_length_of_mem (all a ha l (List.mem_range.mp hl))
  exact⟨by omega,by omega⟩
 ·obtain⟨a,ha,rfl⟩:=List.mem_map.mp (show x∈F.map sg from hx)
  exact hs a (hX.u a ha)
noncomputable def ZkF{α:Type}(P:Program)(w:World)(K:W.Frag)(mg:Str→Option Value)(base:Heap)(e:α→PyData)(θ:ThX α×(α→Int))(cs:List AV):Prop :=
 Zgd P w K mg base e θ cs∧1≤θ.1.n∧θ.1.n≤64∧θ.1.m≤100∧∀ x,θ.1.U x→0≤θ.2 x∧θ.2 x≤9
noncomputable def Zi2{α:Type}[DecidableEq α](θ:ThX α×(α→Int))(_:List AV)(c:AV):Prop:=∃ F R G,MetX θ.1 F∧LotsM (mMet θ.1.t θ.2 F) R∧Rb (mMet θ.1.t θ.2 F) R G∧c=.d (dM (outM (mMet θ.1.t θ.2 F) R G))
theorem Parts.mok{M:Mach}(h:Parts 1 64 M):Mok M:=⟨h.n0,by have:=h.n1;omega,fun x hx=>⟨(h.row x hx).1,(h.row x hx).2⟩,h.s,by have:=h.l1;unfold Mach.lt;omega,by have:=h.l0;unfold Mach.lt;omega⟩
noncomputable def GoodB(M:Mach):Prop:=2≤(M.lt:Int)∧(M.lt:Int)≤5
noncomputable def GoodS(s f:Int):Prop:=1≤s∧s≤12∧0≤f∧f≤24
noncomputable def Zi3(cs:List AV):Prop:=∃ s f:Int,cs=[.d (.int s),.d (.int f)]
noncomputable def Zgj(cs:List AV)(c:AV):Prop:=∃ s f:Int,cs=[.d (.int s),.d (.int f)]∧GoodS s f∧c=.d .none
noncomputable def Zl1(C:Addr)(cs:List AV)(e:Exc):Prop:=∃ s f:Int,cs=[.d (.int s),.d (.int f)]∧¬ GoodS s f∧e=⟨C,[]⟩
noncomputable def mny(s f:Int):Nat:=((if s-1 > f then s-1 else f)+1).toNat
theorem Zeb{s f:Int}(h:GoodS s f):(if s-1 > f then s-1 else f)+1=(mny s f:Int)∧s≤mny s f∧f<mny s f∧mny s f≤25:=by
 obtain⟨h1,h2,h3,h4⟩:=h
 unfold mny
 split<;>omega
noncomputable def gSp(N:Mach)(s f:Int)(w:List Int)(l:Nat):List Int:=(List.range (mny s f)).map fun (i:Nat)=>stp N.rows (w.getD ((s*(l:Int)+(i:Int)) / ((ltr N:Nat):Int)).toNat 0) ((s*(l:Int)+(i:Int))%((ltr N:Nat):Int))
noncomputable def stSp(N:Mach)(s f:Int):List Int:=(List.range (mny s f)).map fun (p:Nat)=>rm N.rows (figs ((ltr N:Nat):Int) (p:Int))
noncomputable def thSp(N:Mach)(s f:Int):ThX (List Int):=⟨(List.range (mny s f)).map fun (p:Nat)=>rm N.rows (figs ((ltr N:Nat):Int) (p:Int)),ltr N,100,gSp N s f,fun w=>(w.length=mny s f∧∀ x∈w,0≤x∧x<N.rows.length)∧∃ u:List Int,(∀ d∈u,0≤d∧d<((ltr N:Nat):Int))∧w=u.foldl (fun x d=>gSp N s f x d.toNat) (stSp N s f)⟩
noncomputable def sgSp(N:Mach)(f:Int)(w:List Int):Int:=N.signs.getD (w.getD f.toNat 0).toNat 0
theorem spIx{b s l i m:Int}(hb:2≤b)(hs:1≤s∧s≤m)(hl:0≤l∧l<b)(hi:0≤i∧i<m):0≤(s*l+i) / b∧(s*l+i) / b<m:=by
 have h1:0≤s*l:=Int.mul_nonneg (by omega) hl.1
 have h2:s*l≤m*(b-1):=Int.mul_le_mul hs.2 (by omega) hl.1 (by omega)
 have h3:m*(b-1)=m*b-m:=by rw[Int.mul_sub,Int.mul_one]
 exact⟨Int.ediv_nonneg (by omega) (by omega),Int.ediv_lt_of_lt_mul (by omega) (by omega)⟩
theorem ZkG{b:Int}(hb:2≤b∧b≤5):∀ (n:Nat) (k:Int),k.toNat≤n→∀ x∈dig b k,0≤x∧x<b
 | 0,k,h,x,hx=>by rw[ZcZ (by omega)] at hx;cases hx
 | n+1,k,h,x,hx=>by
  by_cases hk:0<k
  ·rw[ZeL hb.1 hb.2 hk] at hx
   rcases List.mem_cons.mp hx with e|hx
   ·rw[e];exact⟨Int.emod_nonneg _ (by omega),Int.emod_lt_of_pos _ (by omega)⟩
   ·refine ZkG hb n (k / b) ?_ x hx
    have h1:k*2≤k*b:=Int.mul_le_mul_of_nonneg_left hb.1 (by omega)
    have h2:k / b<k:=Int.ediv_lt_of_lt_mul (by omega) (by omega)
    omega
  ·rw[ZcZ hk] at hx;cases hx
theorem Zcr{b k:Int}(hb:2≤b∧b≤5):∀ x∈figs b k,0≤x∧x<b:=fun x hx=>ZkG hb _ k (Nat.le_refl _) x (by unfold figs at hx;exact List.mem_reverse.mp hx)
theorem ZnM{a b:List Int}(h:tI a=tI b):a=b:=by
 have h':a.map PyData.int=b.map PyData.int:=by injection h
 exact (List.map_inj_right fun _ _ e=>PyData.int.inj e).mp h'
theorem ZkH{N:Mach}{s f:Int}{w:List Int}{l i:Nat}(hP:Parts 1 64 N)(hb:2≤((ltr N:Nat):Int))(h:GoodS s f)(hw:w.length=mny s f∧∀ x∈w,0≤x∧x<N.rows.length)(hl:l<ltr N)(hi:i<mny s f) :
  (0≤(s*(l:Int)+(i:Int)) / ((ltr N:Nat):Int)∧(s*(l:Int)+(i:Int)) / ((ltr N:Nat):Int)<w.length)∧(0≤w.getD ((s*(l:Int)+(i:Int)) / ((ltr N:Nat):Int)).toNat 0∧w.getD ((s*(l:Int)+(i:Int)) / ((ltr N:Nat):Int)).toNat 0<N.rows.length)∧(0≤(s*(l:Int)+(i:Int))%((ltr N:Nat):Int)∧(s*(l:Int)+(i:Int))%((ltr N:Nat):Int)<((ltr N:Nat):Int)):=by
 obtain⟨_,hs,hf,hm⟩:=Zeb h
 have h1:=spIx (b:=((ltr N:Nat):Int)) (s:=s) (l:=l) (i:=i) (m:=mny s f) hb ⟨h.1,hs⟩ ⟨by omega,by omega⟩ ⟨by omega,by omega⟩
 exact⟨⟨h1.1,by rw[hw.1];exact h1.2⟩,hw.2 _ (ZaI (by rw[hw.1];omega)),Int.emod_nonneg _ (by omega),Int.emod_lt_of_pos _ (by omega)⟩
theorem Zi4{N:Mach}{s f:Int}(hP:Parts 1 64 N)(hb:2≤((ltr N:Nat):Int)∧((ltr N:Nat):Int)≤5)(h:GoodS s f):(thSp N s f).Ok:=by
 refine⟨⟨⟨by simp[thSp],fun x hx=>?_⟩,[],(fun _ z=>by cases z),rfl⟩,fun w hw l hl=>⟨⟨by simp[thSp,gSp],fun x hx=>?_⟩,?_⟩,?_,by show (0:Int)≤100;decide,by show (100:Int)≤1000;decide⟩
 ·obtain⟨p,hp,rfl⟩:=List.mem_map.mp hx
  exact hP.rm _ _ rfl fun l hl=>Zcr hb l hl
 ·obtain⟨i,hi,rfl⟩:=List.mem_map.mp hx
  obtain⟨_,h2,h3⟩:=ZkH hP hb.1 h hw.1 (show l<ltr N from hl) (List.mem_range.mp hi)
  exact hP.stp h2.1 h2.2 h3.1 h3.2
 ·obtain⟨u,hu,e⟩:=hw.2
  have hl:l<ltr N:=hl
  refine⟨u++[(l:Int)],fun d hd=>?_,?_⟩
  ·rcases List.mem_append.mp hd with hd|hd
   ·exact hu d hd
   ·rw[List.mem_singleton.mp hd];exact⟨by omega,by omega⟩
  ·rw[List.foldl_append,← e]
   rfl
 ·show ltr N≤1000
  omega
theorem Zl2{N:Mach}{s f:Int}(hP:Parts 1 64 N)(h:GoodS s f):∀ w,(thSp N s f).U w→0≤sgSp N f w∧sgSp N f w≤9:=fun w hw=>by
 obtain⟨_,hs,hf,hm⟩:=Zeb h
 have h1:=hw.1.2 _ (ZaI (i:=f.toNat) (d:=0) (by have:=hw.1.1;have:=h.2.2.1;omega))
 exact hP.sg _ (ZaI (by rw[hP.s];omega))
noncomputable def SpOut(M:Mach)(s f:Int)(N:Mach):Prop:=∃ R G F R' G',LotsM M R∧Rb M R G∧MetX (thSp (outM M R G) s f) F∧LotsM (mMet (thSp (outM M R G) s f).t (sgSp (outM M R G) f) F) R'∧Rb (mMet (thSp (outM M R G) s f).t (sgSp (outM M R G) f) F) R' G'∧N=outM (mMet (thSp (outM M R G) s f).t (sgSp (outM M R G) f) F) R' G'
noncomputable def SpBig(M:Mach)(s f:Int):Prop:=∃ R G,LotsM M R∧Rb M R G∧BigX (thSp (outM M R G) s f)
noncomputable def ZfT(cs:List AV):Prop:=∃ (M:Mach) (s f:Int),cs=[.d (dM M),.d (.int s),.d (.int f)]∧Parts 1 64 M
noncomputable def Zec(cs:List AV)(c:AV):Prop:=∃ (M:Mach) (s f:Int) (N:Mach),cs=[.d (dM M),.d (.int s),.d (.int f)]∧GoodB M∧GoodS s f∧SpOut M s f N∧c=.d (dM N)
noncomputable def Zi5(CB CS CG:Addr)(cs:List AV)(e:Exc):Prop:=∃ (M:Mach) (s f:Int),cs=[.d (dM M),.d (.int s),.d (.int f)]∧((Bad M.lt∧e=⟨CB,[]⟩)∨(GoodB M∧¬ GoodS s f∧e=⟨CS,[]⟩)∨(GoodB M∧GoodS s f∧SpBig M s f∧e=⟨CG,[]⟩))
section
variable{C_WheelError C_NoBase C_TooGreat C_NotLike C_NoStep:Addr}
theorem ZnN{Q:TV→Prop}{X:Exc→Prop}{C:Addr}{M:Mach}(hM:Mok M)(q:GoodB M→Q (.av (.d (.int (M.lt:Nat)))))(qx:Bad M.lt→X ⟨C,[]⟩):ClR Zi0 Zgh (Zl0 C) [] Q X [.av (.d (dM M))] :=
 ⟨[.d (dM M)],.cons (.d NR.av rfl) .nil,⟨M,rfl,hM⟩,fun c ⟨M',e,hl,ec⟩=>by
  simp only[List.append_nil,List.cons.injEq,AV.d.injEq,and_true] at e
  have e1:=Zb5 e
  subst e1 ec
  exact⟨_,Got.own rfl,q hl⟩,fun x ⟨M',e,hl,ex⟩=>by
  simp only[List.append_nil,List.cons.injEq,AV.d.injEq,and_true] at e
  have e1:=Zb5 e
  subst e1 ex
  exact qx hl⟩
theorem ZnO{Q:TV→Prop}{X:Exc→Prop}{C:Addr}{s f:Int}(q:GoodS s f→Q (.av (.d .none)))(qx:¬ GoodS s f→X ⟨C,[]⟩):ClR Zi3 Zgj (Zl1 C) [] Q X [.av (.d (.int s)),.av (.d (.int f))] :=
 ⟨[.d (.int s),.d (.int f)],.cons (.d NR.av rfl) (.cons (.d NR.av rfl) .nil),⟨s,f,rfl⟩,fun c ⟨s',f',e,hl,ec⟩=>by
  simp only[List.append_nil,List.cons.injEq,AV.d.injEq,PyData.int.injEq,and_true] at e
  obtain⟨rfl,rfl⟩:=e
  subst ec
  exact⟨_,Got.own rfl,q hl⟩,fun x ⟨s',f',e,hl,ex⟩=>by
  simp only[List.append_nil,List.cons.injEq,AV.d.injEq,PyData.int.injEq,and_true] at e
  obtain⟨rfl,rfl⟩:=e
  subst ex
  exact qx hl⟩
theorem Ze2(T:Txt K mg)(Z:Cs K mg C_WheelError C_NoBase C_TooGreat C_NotLike C_NoStep)(B:base.BuiltinsAt mg mainGlobals)(hTs:∀ p∈ts0,p∈Tabs.ts){α:Type}[DecidableEq α]{e:α→PyData}(Fe:KEnc e)(hj:∀ a b,e a=e b→a=b)(hf:∀ x,noLst (e x)=true) :
  Cal P w K mg base (CXE P w) 6 "least_met" ["start", "letters", "lead", "sign", "most"] [] (spFX K (ZkF P w K mg base e) Zi2 (Zj2 C_TooGreat)):=by
 have c_machine_met:Cal P w K mg base (CXE P w) 3 "machine_met" ["start", "letters", "lead", "sign", "most"] [] (spFX K (Zgd P w K mg base e) Zg0 (Zj2 C_TooGreat)):=Zcm T Z Fe hj hf
 have c_least:Cal P w K mg base (CXE P w) 5 "least" ["machine"] [] (spR K ZeD ZcB NP):=Zg8 T B hTs
 refine valRFX T.x_least_met ZfI (fun θ cs ⟨⟨_,e⟩,_⟩=>by rw[e];rfl) (fun θ f cdv A outer s H E hr=>?_) [] (by simp)
 refine⟨_,(Zae (Zaw (ZaC (c_least.mono (by decide)) hr rfl passE (Zaa (ZcN (c_machine_met.mono (by decide)) hr rfl (Zaa (pv 0) (Zaa (pv 1) (Zaa (pv 2) (Zaa (pv 3) (Zaa (pv 4) Zac)))))) Zac)))),?_⟩
 rintro cs ⟨⟨ok,rfl⟩,hn0,hn1,hm,hs⟩
 obtain⟨θ,sg⟩:=θ
 show Sv K _ _ _ [some (.d (e θ.start)),some (.d (.int θ.n)),some (.obj (CloOk P w K mg base (CXE P w) 1 (spR K (PreLX e θ) (PostLX e θ) NP))),some (.obj (CloOk P w K mg base (CXE P w) 1 (spR K (PreSX e θ) (PostS e sg) NP))),some (.d (.int θ.m))] _
 walk_at "vi"
 refine ZiB ?_
 walk_at "vi"
 refine⟨(θ,sg),[.d (e θ.start),.d (.int θ.n),.obj _,.obj _,.d (.int θ.m)],.cons (.d NR.av rfl) (.cons (.d NR.av rfl) (.cons .o (.cons .o (.cons (.d NR.av rfl) .nil)))),⟨ok,rfl⟩,fun c ⟨F,hX,ec⟩=>?_,fun _ z=>z⟩
 subst ec
 refine⟨_,Got.own (ZbT _),?_⟩
 walk_at "vi"
 refine ZfQ (Zi1 hX hn0 hn1 hm hs) fun R G hL hB=>?_
 exact⟨_,Zbz rfl,F,R,G,hX,hL,hB,rfl⟩
theorem Ze3(T:Txt K mg)(Z:Cs K mg C_WheelError C_NoBase C_TooGreat C_NotLike C_NoStep):Cal P w K mg base (CXE P w) 1 "want_step" ["step", "first"] [] (spR K Zi3 Zgj (Zl1 C_NoStep)):=by
 refine valRX T.x_want_step ZfJ (fun cs ⟨s,f,e⟩=>by rw[e];rfl) (fun f0 cdv A outer s0 H E hr=>?_) [] (by simp)
 refine⟨_,(Zae (Zdl (PW.pt (Zdk (Zas ZdO (pv 0) Zad (nomark _)) (Zdk (Zas ZeJ (pv 0) (ZdR T.g_GREATEST_STEP rfl) (nomark _)) (Zdk (Zas ZdO (pv 1) Zad (nomark _)) (Zdx (Zas ZeJ (pv 1) (ZdR T.g_GREATEST_FIRST rfl) (nomark _)))))))
    (Zae (ZdW PySem.F.excBase_ValueError rfl PySem.F.excBase_ValueError Z.x_NoStep rfl rfl Z.c_NoStep))
    ZaO)),?_⟩
 rintro cs ⟨s,f,rfl⟩
 show Sv K _ _ _ [some (.d (.int s)),some (.d (.int f))] _
 walk_at "vs"
 refine ite2 (fun h=>?_) fun h1=>?_
 ·walk_at "vs"
  have:=of_decide_eq_true h
  exact Zb7 ⟨s,f,rfl,fun z=>by have:=z.1;omega,rfl⟩
 walk_at "vs"
 refine ite2 (fun h=>?_) fun h2=>?_
 ·walk_at "vs"
  have:=of_decide_eq_true h
  exact Zb7 ⟨s,f,rfl,fun z=>by have:=z.2.1;omega,rfl⟩
 walk_at "vs"
 refine ite2 (fun h=>?_) fun h3=>?_
 ·walk_at "vs"
  have:=of_decide_eq_true h
  exact Zb7 ⟨s,f,rfl,fun z=>by have:=z.2.2.1;omega,rfl⟩
 walk_at "vs"
 refine ite2 (fun h=>?_) fun h4=>?_
 ·walk_at "vs"
  have:=of_decide_eq_true h
  exact Zb7 ⟨s,f,rfl,fun z=>by have:=z.2.2.2;omega,rfl⟩
 have g1:¬ s<1:=fun z=>h1 (decide_eq_true z)
 have g2:¬ s > 12:=fun z=>h2 (decide_eq_true z)
 have g3:¬ f<0:=fun z=>h3 (decide_eq_true z)
 have g4:¬ f > 24:=fun z=>h4 (decide_eq_true z)
 walk_at "vs"
 exact⟨s,f,rfl,⟨by omega,by omega,by omega,by omega⟩,rfl⟩
theorem ZeE(T:Txt K mg)(Z:Cs K mg C_WheelError C_NoBase C_TooGreat C_NotLike C_NoStep)(B:base.BuiltinsAt mg mainGlobals)(hTs:∀ p∈ts0,p∈Tabs.ts):∀ dvs∈[[],[V.int 0]],Cal P w K mg base (CXE P w) 7 "spaced" ["row", "step", "first"] dvs (spR K ZfT Zec (Zi5 C_NoBase C_NoStep C_TooGreat)):=by
 obtain⟨c0,T0⟩:=T.x_spaced
 have c_base_of:Cal P w K mg base (CXE P w) 2 "base_of" ["row"] [] (spR K Zi0 Zgh (Zl0 C_NoBase)):=Zgi T Z
 have c_want_step:Cal P w K mg base (CXE P w) 1 "want_step" ["step", "first"] [] (spR K Zi3 Zgj (Zl1 C_NoStep)):=Ze3 T Z
 have c_least:Cal P w K mg base (CXE P w) 5 "least" ["machine"] [] (spR K ZeD ZcB NP):=Zg8 T B hTs
 have c_room_of:Cal P w K mg base (CXE P w) 1 "room_of" ["machine", "letters"] [] (spV K ZfS NX):=Zht T
 have c_figures_of:Cal P w K mg base (CXE P w) 2 "figures_of" ["place", "base"] [] (spV K Zcq NX):=Ze0 T [] (by simp)
 have c_least_met:Cal P w K mg base (CXE P w) 6 "least_met" ["start", "letters", "lead", "sign", "most"] [] (spFX K (ZkF P w K mg base tI) Zi2 (Zj2 C_TooGreat)):=Ze2 T Z B hTs KEnc.ints (fun a b e=>ZnM e) fun x=>ZcT x
 refine valRMX (k:=6) T0 Zbg (fun cs ⟨M,s,f,e,_⟩=>by rw[e];rfl) (fun f0 A outer s0 H E hr=>?_)
 refine⟨_,(Zab (Zag (i:=3) Zbg.nd rfl (Or.inr rfl) (ZcN (c_base_of.mono (by decide)) hr rfl (Zaa (pv 0) Zac)))
   (Zab (ZaV (ZcN (c_want_step.mono (by decide)) hr rfl (Zaa (pv 1) (Zaa (pv 2) Zac))))
   (Zab (Zag (i:=4) Zbg.nd rfl (Or.inr rfl) (ZaC (c_least.mono (by decide)) hr rfl passE (Zaa (pv 0) Zac)))
   (Zab (Zag (i:=5) Zbg.nd rfl (Or.inr rfl) (Zan (ZaA (K:=K) rfl) (Zah (Zfe rfl) rfl T.n_max PyProof.Rows.boot_max (Zaa (pv 2) (Zaa (Zan Zkk (pv 1) Zad) Zac))) Zad))
   (Zab (ZgS (name := "lead") (qual := "spaced.<locals>.lead") (params:=defArgs ZaK) (body:=defBody ZaK) (scope:=defScope ZaK) (P:=Zbk) (i:=6) Zbg.nd rfl (Or.inl rfl) rfl rfl rfl rfl rfl T0.tab Zel B)
   (Zab (ZgS (name := "sign") (qual := "spaced.<locals>.sign") (params:=defArgs ZaL) (body:=defBody ZaL) (scope:=defScope ZaL) (P:=Zbk) (i:=7) Zbg.nd rfl (Or.inl rfl) rfl rfl rfl rfl rfl T0.tab Zen B)
   (Zab (Zag (i:=8) Zbg.nd rfl (Or.inl rfl) (Zar (ZaG (K:=K) rfl) rfl T.n_tuple PyProof.Rows.boot_tuple (Zaa (Zbc (N:=["place", "form", "base"]) (cap:=[none,some 4,some 3]) rfl rfl rfl (by kernel_rfl) (ZaT rfl T.n_range (Zaa (pv 5) Zac)) (fun _ _ _ _=>(Zal (i:=0) (show (["place", "form", "base"]:List Str).Nodup from by decide +kernel) rfl (Or.inl rfl))) (fun _ _ _ _=>ZaM) (fun _ _ _ _=>(ZaC (c_room_of.mono (by decide)) hr rfl passE (Zaa (pv 1) (Zaa (ZaC (c_figures_of.mono (by decide)) hr rfl passE (Zaa (pv 0) (Zaa (pv 2) Zac))) Zac))))) Zac)))
   (Zae (Zaw (ZjW (c_least_met.mono (by decide)) hr rfl (Zaa (pv 8) (Zaa (pv 3) (Zaa (pv 6) (Zaa (pv 7) (Zaa (ZdR T.g_MOST_ROOMS rfl) Zac))))))))))))))),?_⟩
 rintro cs ⟨M,st,fi,rfl,hP⟩
 show Sv K _ _ _ [some (.d (dM M)),some (.d (.int st)),some (.d (.int fi)),none,none,none,none,none,none] _
 walk_at "vi"
 refine ZnN hP.mok (fun gM=>?_) fun z=>⟨M,st,fi,rfl,.inl ⟨z,rfl⟩⟩
 walk_at "vi"
 refine ZnO (fun hS=>?_) fun hS=>⟨M,st,fi,rfl,.inr (.inl ⟨gM,hS,rfl⟩)⟩
 walk_at "vi"
 refine ZfQ hP fun R G hL hB=>?_
 have hN:=hB.parts
 have hNl:M.lt=ltr (outM M R G):=hB.lt.symm
 have hb:2≤((ltr (outM M R G):Nat):Int)∧((ltr (outM M R G):Nat):Int)≤5:=by rw[← hNl];exact gM
 rw[hNl]
 generalize eN:outM M R G=N at hN hb
 walk_at "vi"
 refine ZiC ?_
 obtain⟨em,hs1,hf1,hm1⟩:=Zeb hS
 walk_at "vi"
 rw[em]
 walk_at "vi"
 refine ZgU (hTs (Zbk,Zd6) (by simp[ts0])) (by decide +kernel) (by show 6<9;decide) ?_
 show Sv K _ _ _ [some (.d (dM M)),some (.d (.int st)),some (.d (.int fi)),some (.d (.int (ltr N:Nat))),some (.d (dM N)),some (.d (.int (mny st fi:Nat))),some (.obj _),none,none] _
 walk_at "vi"
 refine ZgU (hTs (Zbk,Zd6) (by simp[ts0])) (by decide +kernel) (by show 7<9;decide) ?_
 show Sv K _ _ _ [some (.d (dM M)),some (.d (.int st)),some (.d (.int fi)),some (.d (.int (ltr N:Nat))),some (.d (dM N)),some (.d (.int (mny st fi:Nat))),some (.obj _),some (.obj _),none] _
 walk_at "vi"
 refine Zig ?_
 walk_at "vi"
 refine⟨_,fun (p:Nat)=>.d (.int (rm N.rows (figs ((ltr N:Nat):Int) (p:Int)))),rfl,⟨by omega,by omega⟩,fun i hi=>?_,_,Got.own (ZaJ fun _=>rfl),?_⟩
 ·show Gv K _ _ [none,some (.d (dM N)),some (.d (.int (ltr N:Nat)))] _
  walk_at "vi"
  refine⟨wk_0,?_⟩
  walk_at "vi"
  refine Zeq hb (by omega) (Nat.lt_of_lt_of_le (show ((i:Nat):Int).toNat<2 ^ 10 by omega) (Nat.pow_le_pow_right (by decide) (by decide))) ?_
  walk_at "vi"
  refine Zcg (by walk_at "nrs") ⟨1,64,N,figs ((ltr N:Nat):Int) (i:Int),?_,hN,fun l hl=>Zcr hb l hl,rfl⟩ (Got.own rfl) rfl
  show [dM N,(oI _).data]=_
  rw[Zay]
 rw[Int.toNat_natCast]
 walk_at "vi"
 refine Za9 (ds:=(thSp N st fi).start.map .int) (by rw[TV.data,AV.data,ZaQ (y:=fun (p:Nat)=>PyData.int (rm N.rows (figs ((ltr N:Nat):Int) (p:Int)))),thSp,List.map_map];rfl) (Kp.flat (Zaq _)) ?_
 walk_at "vi"
 refine ZjX ?_
 walk_at "vi"
 refine⟨(thSp N st fi,sgSp N fi),[.d (tI (thSp N st fi).start),.d (.int (ltr N:Nat)),.obj (CloOk P w K mg base (CXE P w) 1 (spR K (PreLX tI (thSp N st fi)) (PostLX tI (thSp N st fi)) NP)),.obj (CloOk P w K mg base (CXE P w) 1 (spR K (PreSX tI (thSp N st fi)) (PostS tI (sgSp N fi)) NP)),.d (.int 100)],
  .cons (.d NR.av rfl) (.cons (.d NR.av rfl) (.cons (.o (fun v G1 G2 m h=>h.same m) fun H0 σ ts as H1 H2 v s L hm=>?lead) (.cons (.o (fun v G1 G2 m h=>h.same m) fun H0 σ ts as H1 H2 v s L hm=>?sign) (.cons (.d NR.av rfl) .nil)))),⟨⟨Zi4 hN hb hS,rfl⟩,by show 1≤ltr N;omega,by show ltr N≤64;omega,by show (100:Int)≤100;decide,Zl2 hN hS⟩,fun c ⟨F,R',G',h1,h2,h3,ec⟩=>?_,fun e z=>⟨M,st,fi,rfl,.inr (.inr ⟨gM,hS,⟨R,G,hL,hB,eN▸z.2⟩,z.1⟩)⟩⟩
 case lead =>
  refine ZgV (k:=0) ZcH Zd4 Zbg.nofree (fun _=>rfl) (fun _ _ _ _ _ s us hl=>by obtain⟨a,b,rfl⟩:=len2 hl;exact .of_eq rfl) (fun cs ⟨x,l,e,_⟩=>by rw[e];rfl) (fun cs ⟨x,l,e,_⟩=>by rw[e];rfl) hm L s fun cl f c A outer s H E hr=>?_
  refine⟨_,(Zab (ZhR (i:=2) ZcH.nd rfl rfl (N:=["index", "step", "figure"]) (cap:=[none,some 4,some 1]) rfl rfl rfl (by kernel_rfl) (ZaT rfl T.n_range (Zaa (pv 3) Zac)) (fun _ _ _ _=>(Zal (i:=0) (show (["index", "step", "figure"]:List Str).Nodup from by decide +kernel) rfl (Or.inl rfl))) (fun _ _ _ _=>ZaM) (fun _ _ _ _=>(Zan (ZaA (K:=K) rfl) (Zan Zby (pv 1) (pv 2)) (pv 0))))
   (Zae (Zaw (Zar (ZaG (K:=K) rfl) rfl T.n_tuple PyProof.Rows.boot_tuple (Zaa (Zbc (N:=["one", "form", "window", "base"]) (cap:=[none,some 5,some 0,some 6]) rfl rfl rfl (by kernel_rfl) (ZbE (K:=K) rfl (pv 2)) (fun _ _ _ _=>(Zal (i:=0) (show (["one", "form", "window", "base"]:List Str).Nodup from by decide +kernel) rfl (Or.inl rfl))) (fun _ _ _ _=>ZaM) (fun _ _ _ _=>(Zat (Zaj (K:=K) rfl hr.units) (Zat (Zaj (K:=K) rfl hr.units) (Zat (Zaj (K:=K) rfl hr.units) (pv 1) Zad (fun _ _=>rfl)) (Zat (Zaj (K:=K) rfl hr.units) (pv 2) (Zan Za7 (pv 0) (pv 3)) (fun _ _=>rfl)) (fun _ _=>rfl)) (Zan ZaU (pv 0) (pv 3)) (fun _ _=>rfl)))) Zac))))),?_⟩
  rintro cs ⟨ww,l,rfl,hw,hl⟩
  show Sv K _ _ _ [some (.d (tI ww)),some (.d (.int l)),none,some (.d (.int (mny st fi:Nat))),some (.d (.int st)),some (.d (dM N)),some (.d (.int (ltr N:Nat)))] _
  have hl:l<ltr N:=hl
  have hS1:=hS.1
  have hS2:=hS.2.1
  walk_at "vs"
  refine Zig ?_
  walk_at "vs"
  refine⟨_,fun (i:Nat)=>.d (.int (st*(l:Int)+(i:Int))),rfl,⟨by omega,by omega⟩,fun i hi=>?_,_,Got.own (ZaJ fun _=>rfl),?_⟩
  ·show Gv K _ _ [none,some (.d (.int st)),some (.d (.int l))] _
   walk_at "vs"
   refine⟨wk_0,?_⟩
   walk_at "vs"
   rfl
  rw[Int.toNat_natCast]
  have eo:AV.own ((List.range (mny st fi)).map fun (i:Nat)=>AV.d (.int (st*(l:Int)+(i:Int))))=oI ((List.range (mny st fi)).map fun (i:Nat)=>st*(l:Int)+(i:Int)):=by rw[oI,List.map_map];rfl
  rw[eo]
  walk_at "vs"
  refine Zc6 (α:=Int) ?_
  walk_at "vs"
  refine⟨(List.range (mny st fi)).map fun (i:Nat)=>st*(l:Int)+(i:Int),PyData.int,fun o=>.d (.int (stp N.rows (ww.getD (o / ((ltr N:Nat):Int)).toNat 0) (o%((ltr N:Nat):Int)))),.inl (Zay _),NR.bor,by rw[List.length_map,List.length_range];omega,fun i hi=>?_,_,Got.own (ZaJ fun _=>rfl),?_⟩
  ·rw[List.length_map,List.length_range] at hi
   obtain⟨g1,g2,g3⟩:=ZkH hN hb.1 hS hw.1 hl hi
   rw[List.getElem_map,List.getElem_range]
   generalize st*(l:Int)+(i:Int)=o at g1 g2 g3
   show Gv K _ _ [none,some (.d (dM N)),some (.d (tI ww)),some (.d (.int (ltr N:Nat)))] _
   walk_at "vm"
   refine⟨wk_0,?_⟩
   walk_at "vm"
   refine ix_T rfl (Za1 g1.1 g1.2) Item.d ?_
   refine ix_T rfl (Zbt g2.1 g2.2) Item.d ?_
   walk_at "vm"
   exact ix_T rfl (Za1 g3.1 (by rw[(hN.row _ (ZaI (d:=[]) (show (ww.getD (o / ((ltr N:Nat):Int)).toNat 0).toNat<N.rows.length by omega))).1];exact g3.2)) Item.d rfl
  walk_at "vs"
  refine Za9 (ds:=(gSp N st fi ww l).map .int) (by rw[TV.data,AV.data,ZaQ (y:=fun o=>PyData.int (stp N.rows (ww.getD (o / ((ltr N:Nat):Int)).toNat 0) (o%((ltr N:Nat):Int)))),gSp,List.map_map,List.map_map];rfl) (Kp.flat (Zaq _)) ?_
  exact⟨_,Zbz rfl,ww,l,rfl,rfl⟩
 case sign =>
  refine ZgV (k:=0) Zem Zd5 Zbg.nofree (fun _=>rfl) (fun _ _ _ _ _ s us hl=>by obtain⟨a,rfl⟩:=len1 hl;exact .of_eq rfl) (fun cs ⟨x,e,_⟩=>by rw[e];rfl) (fun cs ⟨x,e,_⟩=>by rw[e];rfl) hm L s fun cl f c A outer s H E hr=>?_
  refine⟨_,(Zae (Zaw (Zat (Zaj (K:=K) rfl hr.units) (Zat (Zaj (K:=K) rfl hr.units) (pv 1) Zad (fun _ _=>rfl)) (Zat (Zaj (K:=K) rfl hr.units) (pv 0) (pv 2) (fun _ _=>rfl)) (fun _ _=>rfl)))),?_⟩
  rintro cs ⟨ww,rfl,hw⟩
  show Sv K _ _ _ [some (.d (tI ww)),some (.d (dM N)),some (.d (.int fi))] _
  have hw1:ww.length=mny st fi:=hw.1.1
  have hf0:=hS.2.2.1
  have hx:=hw.1.2 _ (ZaI (i:=fi.toNat) (d:=0) (by omega))
  walk_at "vm"
  refine ix_T rfl (Za1 hf0 (by omega)) Item.d ?_
  refine ix_T rfl (Za1 hx.1 (by rw[hN.s];exact hx.2)) Item.d ?_
  exact⟨_,Zbz rfl,ww,rfl,rfl⟩
 subst eN ec
 exact⟨rfl,_,Got.own (ZbT _),_,Zbz rfl,M,st,fi,_,rfl,gM,hS,⟨R,G,F,R',G',hL,hB,h1,h2,h3,rfl⟩,rfl⟩
end
noncomputable def Dgb(b:Int)(w:List Int):Prop:=∀ d∈w,0≤d∧d<b
theorem Dgb.snoc{b:Int}{v:List Int}{d:Int}(h:Dgb b (v++[d])):Dgb b v∧0≤d∧d<b:=⟨fun e he=>h e (List.mem_append_left _ he),h d (List.mem_append_right _ (.head _))⟩
theorem Dgb.add{b:Int}{v:List Int}{d:Int}(h:Dgb b v)(hd:0≤d∧d<b):Dgb b (v++[d]):=fun e he=>by
 rcases List.mem_append.mp he with he|he
 ·exact h e he
 ·rw[List.mem_singleton.mp he];exact hd
noncomputable abbrev bs(N:Mach):Int:=((ltr N:Nat):Int)
noncomputable def Rn(N:Mach)(n:Int):Int:=rm N.rows (figs (bs N) n)
noncomputable def Zz(N:Mach):Prop:=stp N.rows 0 0=0
noncomputable def sgw(M:Mach)(w:List Int):Int:=M.signs.getD (rm M.rows w).toNat 0
theorem Zi6{b k:Int}(h:¬ 0<k):figs b k=[]:=by unfold figs;rw[ZcZ h];rfl
theorem Zi7{N:Mach}(hb:2≤bs N∧bs N≤5)(z:Zz N){q d:Int}(hq:0≤q)(hd:0≤d∧d<bs N):Rn N (q*bs N+d)=stp N.rows (Rn N q) d:=by
 by_cases h:0<q*bs N+d
 ·unfold Rn
  rw[ZiY hb hq hd h,Zcb]
 ·have h1:0≤q*bs N:=Int.mul_nonneg hq (by omega)
  have hd0:d=0:=by omega
  have hq0:q=0:=by
   rcases Int.lt_or_eq_of_le hq with y|y
   ·have:0<q*bs N:=Int.mul_pos y (by omega)
    omega
   ·exact y.symm
  subst hd0 hq0
  unfold Rn
  rw[Zi6 (k:=0*bs N+0) (by omega),Zi6 (k:=0) (by omega)]
  exact z.symm
theorem Zed{α:Type}{M:List α→Prop}(xs:List α)(h0:M [])(h1:∀ ys d,M ys→M (ys++[d])):M xs:=by
 have:∀ ys:List α,M ys.reverse:=fun ys=>by
  induction ys with
  | nil=>exact h0
  | cons d ys ih=>rw[List.reverse_cons];exact h1 _ _ ih
 have:=this xs.reverse
 rwa [List.reverse_reverse] at this
theorem ZkI{b:Int}(hb:0≤b)(w:List Int):Dgb b w→0≤num b w:=by
 refine Zed (M:=fun w=>Dgb b w→0≤num b w) w (fun _=>Int.le_refl _) fun v d ih h=>?_
 obtain⟨hv,hd⟩:=h.snoc
 have h1:=Int.mul_nonneg (ih hv) hb
 rw[ZeM]
 omega
theorem Zg9{M:Mach}{R G:List Int}(hL:LotsM M R)(hB:Rb M R G)(w:List Int):Dgb (bs M) w→Bi M R G (rm M.rows w,rm (outM M R G).rows w):=by
 refine Zed (M:=fun w=>Dgb (bs M) w→Bi M R G (rm M.rows w,rm (outM M R G).rows w)) w (fun _=>hL.bi0 hB) fun v d ih h=>?_
 obtain⟨hv,hd⟩:=h.snoc
 have:=hL.bin hB (ih hv) (l:=d.toNat) (show d.toNat<ltr M by have h1:=hd.1;have h2:d<((ltr M:Nat):Int):=hd.2;omega)
 rw[Zcb,Zcb]
 rw[Int.toNat_of_nonneg hd.1] at this
 exact this
theorem Zdj{M:Mach}{R G:List Int}(hL:LotsM M R)(hB:Rb M R G){w:List Int}(hw:Dgb (bs M) w):sgw (outM M R G) w=sgw M w:=(hL.bis hB (Zg9 hL hB w hw)).symm
theorem Ze4{M:Mach}{R G:List Int}(hL:LotsM M R)(hB:Rb M R G)(z:Zz M):Zz (outM M R G):=by
 obtain⟨al,_,lo⟩:=hL.ex
 obtain⟨r,e⟩:=hB.z
 have n0:=hB.p.n0
 have l0:=hB.p.l0
 have h:=hB.nx (i:=0) (l:=0) (by rw[e];simp) (show 0<ltr M by have h9:(1:Int)≤((ltr M:Nat):Int):=l0;omega)
 have e0:G[0]'(by rw[e];simp)=0:=by simp[e]
 have g0:gR M R 0 0=0:=by
  rw[Zj7 (by omega)]
  have:nxM M (0:Int).toNat 0=0:=by
   unfold nxM
   rw[show (((0:Int).toNat:Nat):Int)=0 from rfl,show ((0:Nat):Int)=0 from rfl,z]
   rfl
  rw[this]
  exact lo.z n0
 unfold Zz
 rw[e0] at h
 rw[show (0:Int)=((0:Nat):Int) from rfl,h,g0,e]
 simp
noncomputable def IsL(N:Mach):Prop:=∃ A R G,LotsM A R∧Rb A R G∧N=outM A R G
theorem Zj8{N N':Mach}(h:IsL N)(h':IsL N')(hl:ltr N=ltr N')(hs:∀ w,Dgb (bs N) w→sgw N w=sgw N' w):N=N':=by
 obtain⟨A,R,G,hL,hB,rfl⟩:=h
 obtain⟨A',R',G',hL',hB',rfl⟩:=h'
 rw[hB.lt,hB'.lt] at hl
 have eb:bs (outM A R G)=bs A:=by show ((ltr _:Nat):Int)=_;rw[hB.lt]
 have eb':bs A=bs A':=by show ((ltr _:Nat):Int)=_;rw[hl]
 refine ZiW hL hB hL' hB' hl (fun p=>∃ w,Dgb (bs A) w∧p=(rm A.rows w,rm A'.rows w)) ⟨[],(fun _ z=>by cases z),rfl⟩ ?_
 rintro p ⟨w,hw,rfl⟩
 refine⟨⟨hB.p.rm _ w rfl hw,hB'.p.rm _ w rfl (by rw[eb'] at hw;exact hw)⟩,?_,fun l hl1=>⟨w++[(l:Int)],hw.add ⟨by omega,by show (l:Int)<(ltr A:Nat);omega⟩,by rw[Zcb,Zcb]⟩⟩
 have:=hs w (by rw[eb];exact hw)
 rw[Zdj hL hB hw,Zdj hL' hB' (by rw[← eb'];exact hw)] at this
 exact this
noncomputable def runX{α:Type}(θ:ThX α)(w:List Int):α:=w.foldl (fun x d=>θ.g x d.toNat) θ.start
theorem Zee{α:Type}(θ:ThX α)(w:List Int)(d:Int):runX θ (w++[d])=θ.g (runX θ w) d.toNat:=by unfold runX;rw[List.foldl_append];rfl
theorem Zgk{α:Type}[DecidableEq α]{θ:ThX α}{sg:α→Int}{F:List α}(hX:MetX θ F)(w:List Int):Dgb (θ.n:Nat) w→runX θ w∈F∧rm (mMet θ.t sg F).rows w=(F.idxOf (runX θ w):Int):=by
 have all:∀ x∈F,∀ l,l<θ.n→θ.g x l∈F:=hX.bf.all fun j hj z=>by omega
 obtain⟨r,e⟩:=hX.bf.pre
 refine Zed (M:=fun w=>Dgb (θ.n:Nat) w→runX θ w∈F∧rm (mMet θ.t sg F).rows w=(F.idxOf (runX θ w):Int)) w (fun _=>⟨by rw[e];exact .head _,?_⟩) fun v d ih h=>?_
 ·show (0:Int)=(F.idxOf θ.start:Int)
  rw[e]
  simp
 ·obtain⟨hv,hd⟩:=h.snoc
  obtain⟨i1,i2⟩:=ih hv
  have hl:d.toNat<θ.n:=by omega
  rw[Zee,Zcb,i2]
  refine⟨all _ i1 _ hl,?_⟩
  have hi:=List.idxOf_lt_length_of_mem i1
  unfold stp
  rw[Int.toNat_natCast]
  have e1:(mMet θ.t sg F).rows.getD (F.idxOf (runX θ v)) []=rowN θ.g F (runX θ v) θ.n:=by
   show (F.map fun a=>rowN θ.g F a θ.n).getD _ []=_
   rw[List.getD_eq_getElem?_getD,List.getElem?_map,List.getElem?_eq_getElem hi,List.getElem_idxOf]
   rfl
  rw[e1,List.getD_eq_getElem?_getD]
  unfold rowN
  rw[List.getElem?_map,List.getElem?_range hl]
  rfl
theorem Zl3{α:Type}[DecidableEq α]{θ:ThX α}{sg:α→Int}{F:List α}(hX:MetX θ F){w:List Int}(hw:Dgb (θ.n:Nat) w):sgw (mMet θ.t sg F) w=sg (runX θ w):=by
 obtain⟨h1,h2⟩:=Zgk (sg:=sg) hX w hw
 have hi:=List.idxOf_lt_length_of_mem h1
 unfold sgw
 rw[h2,Int.toNat_natCast]
 show (F.map sg).getD _ 0=_
 rw[List.getD_eq_getElem?_getD,List.getElem?_map,List.getElem?_eq_getElem hi,List.getElem_idxOf]
 rfl
theorem ZnP{α:Type}[DecidableEq α]{θ:ThX α}{sg:α→Int}{F:List α}(hX:MetX θ F):ltr (mMet θ.t sg F)=θ.n:=by
 obtain⟨r,e⟩:=hX.bf.pre
 have hF:0<F.length:=by rw[e];simp
 show ((F.map fun a=>rowN θ.g F a θ.n).getD 0 []).length=_
 rw[List.getD_eq_getElem?_getD,List.getElem?_map,List.getElem?_eq_getElem hF]
 simp[rowN]
theorem ZkJ{N:Mach}{m:Nat}{p q:Int}(hq:0≤q∧q<m):((List.range m).map fun (i:Nat)=>Rn N (p+(i:Int))).getD q.toNat 0=Rn N (p+q):=by
 rw[List.getD_eq_getElem?_getD,List.getElem?_map,List.getElem?_range (by omega)]
 show Rn N (p+((q.toNat:Nat):Int))=_
 rw[Int.toNat_of_nonneg hq.1]
theorem Zi8{N:Mach}{s f:Int}(hb:2≤bs N∧bs N≤5)(z:Zz N)(h:GoodS s f)(w:List Int):Dgb (bs N) w→runX (thSp N s f) w=(List.range (mny s f)).map fun (i:Nat)=>Rn N (s*num (bs N) w+(i:Int)):=by
 obtain⟨_,hs,hf,hm⟩:=Zeb h
 have h1:=h.1
 refine Zed (M:=fun w=>Dgb (bs N) w→runX (thSp N s f) w=(List.range (mny s f)).map fun (i:Nat)=>Rn N (s*num (bs N) w+(i:Int))) w (fun _=>?_) fun v d ih hd=>?_
 ·show (List.range (mny s f)).map _=_
  refine List.map_congr_left fun i _=>?_
  rw[show num (bs N) []=0 from rfl,Int.mul_zero,Int.zero_add]
  rfl
 ·obtain⟨hv,hd⟩:=hd.snoc
  rw[Zee,ih hv]
  have hp:=ZkI (by omega) v hv
  refine List.map_congr_left fun i hi=>?_
  have hi:=List.mem_range.mp hi
  rw[Int.toNat_of_nonneg hd.1]
  have hx:=spIx (b:=bs N) (s:=s) (l:=d) (i:=i) (m:=mny s f) hb.1 ⟨h1,hs⟩ hd ⟨by omega,by omega⟩
  have hr0:0≤(s*d+(i:Int))%bs N:=Int.emod_nonneg _ (by omega)
  have hr1:(s*d+(i:Int))%bs N<bs N:=Int.emod_lt_of_pos _ (by omega)
  have hdm:=Int.emod_add_mul_ediv (s*d+(i:Int)) (bs N)
  rw[ZkJ hx]
  have hsp:0≤s*num (bs N) v:=Int.mul_nonneg (by omega) hp
  rw[← Zi7 hb z (by omega) ⟨hr0,hr1⟩,ZeM]
  congr 1
  rw[Int.mul_add,Int.add_mul,Int.mul_assoc]
  rw[Int.mul_comm (bs N)] at hdm
  omega
theorem idx0{α:Type}[DecidableEq α](x:α)(r:List α):([x]++r).idxOf x=0:=by simp
theorem SpOut.tell{M N:Mach}{s f:Int}(h:SpOut M s f N)(gM:2≤bs M∧bs M≤5)(hS:GoodS s f)(zM:Zz M):IsL N∧bs N=bs M∧Parts 1 64 N∧Zz N∧∀ w,Dgb (bs M) w→sgw N w=sgw M (figs (bs M) (s*num (bs M) w+f)):=by
 obtain⟨R,G,F,R',G',hL,hB,hX,hL',hB',rfl⟩:=h
 have z1:=Ze4 hL hB zM
 have eb:bs (outM M R G)=bs M:=by show ((ltr _:Nat):Int)=_;rw[hB.lt]
 obtain⟨_,hs,hf,hm⟩:=Zeb hS
 have hb1:2≤bs (outM M R G)∧bs (outM M R G)≤5:=by rw[eb];exact gM
 have en:((thSp (outM M R G) s f).n:Int)=bs M:=eb
 have el:bs (mMet (thSp (outM M R G) s f).t (sgSp (outM M R G) f) F)=bs M:=by
  show ((ltr _:Nat):Int)=_
  rw[ZnP hX]
  exact en
 have run:=fun w (hw:Dgb (bs M) w)=>Zi8 hb1 z1 hS w (by rw[eb];exact hw)
 have z2:Zz (mMet (thSp (outM M R G) s f).t (sgSp (outM M R G) f) F):=by
  have h0:Dgb (bs M) [0]:=fun d hd=>by rw[List.mem_singleton.mp hd];omega
  have h1:=(Zgk (sg:=sgSp (outM M R G) f) hX [0] (by rw[en];exact h0)).2
  have h2:runX (thSp (outM M R G) s f) [0]=(thSp (outM M R G) s f).start:=by
   rw[run [0] h0]
   have:=run [] (fun _ z=>by cases z)
   rw[show runX (thSp (outM M R G) s f) []=(thSp (outM M R G) s f).start from rfl] at this
   rw[this]
   have e0:num (bs (outM M R G)) [0]=num (bs (outM M R G)) []:=by
    show 0*bs (outM M R G)+0=0
    omega
   rw[e0]
  rw[h2] at h1
  obtain⟨r,e⟩:=hX.bf.pre
  have h3:=idx0 (thSp (outM M R G) s f).start r
  rw[← e] at h3
  rw[h3] at h1
  exact h1
 refine⟨⟨_,R',G',hL',hB',rfl⟩,?_,hB'.parts,Ze4 hL' hB' z2,fun w hw=>?_⟩
 ·rw[← el];show ((ltr _:Nat):Int)=_;rw[hB'.lt]
 ·rw[Zdj hL' hB' (by rw[el];exact hw),Zl3 hX (by rw[en];exact hw),run w hw]
  unfold sgSp
  have hf0:=hS.2.2.1
  rw[ZkJ ⟨hf0,hf⟩,eb]
  show sgw (outM M R G) (figs (bs (outM M R G)) _)=_
  rw[eb,Zdj hL hB (Zcr gM)]
theorem ZnQ{α:Type}(f:α→PyData)(xs:List α):(xs.map f).map AV.d=xs.map fun x=>.d (f x):=by rw[List.map_map];rfl
theorem ZnR{Q:TV→Prop}{E:FK}{X:Exc→Sl→Prop}{xs ys:List Int}{a b:TV}(ha:a.data=dI xs)(hb:b.data=dI ys)(na:NR a)(nb:NR b)(hz:xs.length+ys.length≤1000000)(q:Q (.av (oI (xs++ys)))):Op K E X (rPlus K) a b Q:=by
 refine ZoE (ds:=xs.map .int) (es:=ys.map .int) ha hb (Kp.flat (Zaq _)) (Kp.flat (Zaq _)) (by rw[List.length_map,List.length_map];exact hz) ?_ na nb
 rw[← List.map_append,ZnQ]
 exact q
noncomputable def Rf(CB CS CG:Addr)(M:Mach)(s f:Int)(e:Exc):Prop:=(Bad M.lt∧e=⟨CB,[]⟩)∨(GoodB M∧¬ GoodS s f∧e=⟨CS,[]⟩)∨(GoodB M∧GoodS s f∧SpBig M s f∧e=⟨CG,[]⟩)
theorem Zhu{CB CS CG:Addr}{Q:TV→Prop}{X:Exc→Prop}{M:Mach}{s f:Int}(hP:Parts 1 64 M)(q:∀ N,GoodB M→GoodS s f→SpOut M s f N→Q (.av (.d (dM N))))(qx:∀ e,Rf CB CS CG M s f e→X e):ClR ZfT Zec (Zi5 CB CS CG) [] Q X [.av (.d (dM M)),.av (.d (.int s)),.av (.d (.int f))] :=
 ⟨[.d (dM M),.d (.int s),.d (.int f)],.cons (.d NR.av rfl) (.cons (.d NR.av rfl) (.cons (.d NR.av rfl) .nil)),⟨M,s,f,rfl,hP⟩,fun c ⟨M',s',f',N,e,g1,g2,ho,ec⟩=>by
  simp only[List.append_nil,List.cons.injEq,AV.d.injEq,PyData.int.injEq,and_true] at e
  obtain⟨e1,rfl,rfl⟩:=e
  have e1:=Zb5 e1
  subst e1 ec
  exact⟨_,Got.own (ZbT N),q N g1 g2 ho⟩,fun x ⟨M',s',f',e,h⟩=>by
  simp only[List.append_nil,List.cons.injEq,AV.d.injEq,PyData.int.injEq,and_true] at e
  obtain⟨e1,rfl,rfl⟩:=e
  have e1:=Zb5 e1
  subst e1
  exact qx x h⟩
theorem ZfU{CB CS CG:Addr}{Q:TV→Prop}{X:Exc→Prop}{M:Mach}{s:Int}(hP:Parts 1 64 M)(q:∀ N,GoodB M→GoodS s 0→SpOut M s 0 N→Q (.av (.d (dM N))))(qx:∀ e,Rf CB CS CG M s 0 e→X e):ClR ZfT Zec (Zi5 CB CS CG) [.d (.int 0)] Q X [.av (.d (dM M)),.av (.d (.int s))] :=
 ⟨[.d (dM M),.d (.int s)],.cons (.d NR.av rfl) (.cons (.d NR.av rfl) .nil),⟨M,s,0,rfl,hP⟩,fun c ⟨M',s',f',N,e,g1,g2,ho,ec⟩=>by
  simp only[List.cons_append,List.nil_append,List.cons.injEq,AV.d.injEq,PyData.int.injEq,and_true] at e
  obtain⟨e1,rfl,rfl⟩:=e
  have e1:=Zb5 e1
  subst e1 ec
  exact⟨_,Got.own (ZbT N),q N g1 g2 ho⟩,fun x ⟨M',s',f',e,h⟩=>by
  simp only[List.cons_append,List.nil_append,List.cons.injEq,AV.d.injEq,PyData.int.injEq,and_true] at e
  obtain⟨e1,rfl,rfl⟩:=e
  have e1:=Zb5 e1
  subst e1
  exact qx x h⟩
structure LotsC(n L:Nat)(nx:Nat→Nat→Nat)(al R:List Int):Prop where
 len:R.length=n
 sg:∀ i j,i<n→j<n→tl R i=tl R j→tl al i=tl al j
 st:∀ i j,i<n→j<n→tl R i=tl R j→∀ l,l<L→tl R (nx i l)=tl R (nx j l)
 co:∀ rel:Nat→Nat→Prop,(∀ i j,rel i j→i<n∧j<n)→(∀ i j,rel i j→tl al i=tl al j)→(∀ i j,rel i j→∀ l,l<L→rel (nx i l) (nx j l))→∀ i j,rel i j→tl R i=tl R j
noncomputable def NxC(n L:Nat)(nx:Nat→Nat→Nat)(al al':List Int):Prop:=al'.length=n∧∀ i j,i<n→j<n→(tl al' i=tl al' j↔keyL L nx al i=keyL L nx al j)
inductive RefC(n L:Nat)(nx:Nat→Nat→Nat):List Int→Nat→List Int→Prop
 | done {al:List Int} {m:Nat}:cnt n (tl al)≤m→RefC n L nx al m al
 | step {al al' R:List Int} {m:Nat}:m<cnt n (tl al)→NxC n L nx al al'→RefC n L nx al' (cnt n (tl al)) R→RefC n L nx al m R
theorem NxC.fine{n L:Nat}{nx:Nat→Nat→Nat}{al al':List Int}(h:NxC n L nx al al'):Fine n (tl al') (tl al):=fun i j hi hj e=>(Zj6 ((h.2 i j hi hj).mp e)).1
theorem NxC.co{n L:Nat}{nx:Nat→Nat→Nat}{al al':List Int}(h:NxC n L nx al al'){rel:Nat→Nat→Prop}(hb:∀ i j,rel i j→i<n∧j<n)(hc:∀ i j,rel i j→∀ l,l<L→rel (nx i l) (nx j l))(h1:∀ i j,rel i j→tl al i=tl al j):∀ i j,rel i j→tl al' i=tl al' j:=fun i j r =>
 (h.2 i j (hb i j r).1 (hb i j r).2).mpr (ZnE (h1 i j r) fun l hl=>h1 _ _ (hc i j r l hl))
theorem RefC.lots{n L:Nat}{nx:Nat→Nat→Nat}(hnx:∀ i,i<n→∀ l,l<L→nx i l<n){al R:List Int}{m:Nat}(h:RefC n L nx al m R) :
  (∃ A,NxC n L nx A al∧m=cnt n (tl A))→LotsC n L nx al R:=by
 induction h with
 | @done al m h =>
  rintro⟨A,hA,rfl⟩
  have same:=ZkB hA.fine h
  refine⟨hA.1,fun i j _ _ e=>e,fun i j hi hj e l hl=>?_,fun rel hb h1 hc=>h1⟩
  have:=(Zj6 ((hA.2 i j hi hj).mp e)).2 l hl
  exact same _ _ (hnx i hi l hl) (hnx j hj l hl) this
 | @step al al' R m h hn _ ih =>
  intro _
  obtain⟨a1,a5,a6,a7⟩:=ih ⟨al,hn,rfl⟩
  exact⟨a1,fun i j hi hj e=>hn.fine i j hi hj (a5 i j hi hj e),a6,fun rel hb h1 hc=>a7 rel hb (hn.co hb hc h1) hc⟩
theorem RefC.lots0{n L:Nat}{nx:Nat→Nat→Nat}(h0:0<n)(hnx:∀ i,i<n→∀ l,l<L→nx i l<n){al R:List Int}(h:RefC n L nx al 0 R):LotsC n L nx al R:=by
 cases h with
 | done h=>have:=ZiS (f:=tl al) h0;omega
 | step h hn h2 =>
  obtain⟨a1,a5,a6,a7⟩:=h2.lots hnx ⟨al,hn,rfl⟩
  exact⟨a1,fun i j hi hj e=>hn.fine i j hi hj (a5 i j hi hj e),a6,fun rel hb h1 hc=>a7 rel hb (hn.co hb hc h1) hc⟩
noncomputable def keyC(L:Nat)(nx:Nat→Nat→Nat)(al:List Int)(i:Nat):List Int:=tl al i::(List.range L).map fun l=>tl al (nx i l)
theorem Zj9{L:Nat}{nx:Nat→Nat→Nat}{al:List Int}{i j:Nat}:keyC L nx al i=keyC L nx al j↔keyL L nx al i=keyL L nx al j:=by
 unfold keyC keyL
 rw[List.cons.injEq,Prod.mk.injEq]
theorem Zgl{α:Type}[DecidableEq α]{x:α}:∀ {ks σ:List α},x∈ks.foldl addM σ↔x∈σ∨x∈ks
 | [],σ=>by simp
 | k::ks,σ=>by
  rw[List.foldl_cons,Zgl]
  unfold addM
  split
  ·simp only[List.mem_cons]
   constructor
   ·rintro (h|h)
    ·exact .inl h
    ·exact .inr (.inr h)
   ·rintro (h|h|h)
    ·exact .inl h
    ·subst h;exact .inl (by assumption)
    ·exact .inr h
  ·simp only[List.mem_append,List.mem_cons,List.not_mem_nil,or_false]
   exact or_assoc
theorem Zi9{α:Type}[DecidableEq α]:∀ (ks σ:List α),(ks.foldl addM σ).length≤σ.length+ks.length
 | [],σ=>by simp
 | k::ks,σ=>by
  rw[List.foldl_cons]
  refine Nat.le_trans (Zi9 ks _) ?_
  unfold addM
  split<;>simp<;>omega
noncomputable def ixC{α:Type}[DecidableEq α](xs:List α)(x:α):Nat:=xs.idxOf x
theorem Zl4{α:Type}[DecidableEq α]{xs:List α}{x y:α}(hx:x∈xs)(hy:y∈xs)(e:ixC xs x=ixC xs y):x=y:=by
 unfold ixC at e
 have h1:=List.getElem_idxOf (List.idxOf_lt_length_of_mem hx)
 have h2:=List.getElem_idxOf (List.idxOf_lt_length_of_mem hy)
 rw[← h1,← h2]
 simp only[e]
noncomputable def nmC(ks:List (List Int)):List Int:=ks.map fun k=>(ixC (ks.foldl addM []) k:Int)
theorem ZoX{n L:Nat}{nx:Nat→Nat→Nat}{al:List Int}:NxC n L nx al (nmC ((List.range n).map (keyC L nx al))):=by
 have hl:(nmC ((List.range n).map (keyC L nx al))).length=n:=by simp[nmC]
 have ht:∀ i,i<n→tl (nmC ((List.range n).map (keyC L nx al))) i=(ixC (((List.range n).map (keyC L nx al)).foldl addM []) (keyC L nx al i):Int):=fun i hi=>by
  unfold tl nmC
  rw[List.getD_eq_getElem?_getD,List.getElem?_map,List.getElem?_map,List.getElem?_range hi]
  rfl
 have hm:∀ i,i<n→keyC L nx al i∈((List.range n).map (keyC L nx al)).foldl addM []:=fun i hi=>Zgl.mpr (.inr (List.mem_map.mpr ⟨i,List.mem_range.mpr hi,rfl⟩))
 refine⟨hl,fun i j hi hj=>?_⟩
 rw[ht i hi,ht j hj,← Zj9]
 refine⟨fun e=>?_,fun e=>by rw[e]⟩
 exact Zl4 (hm i hi) (hm j hj) (by omega)
noncomputable def Zha(cs:List AV):Prop:=∃ M:Mach,cs=[.d (tR M.rows),.d (tI M.signs)]∧Parts 1 64 M
noncomputable def Ze5(cs:List AV)(c:AV):Prop:=∃ (M:Mach) (R:List Int),cs=[.d (tR M.rows),.d (tI M.signs)]∧LotsC M.rows.length (ltr M) (nxM M) M.signs R∧c=oI R
theorem ZeF(T:Txt K mg):Cal P w K mg base (CXE P w) 1 "_law_classes" ["_law_rows", "_law_signs"] [] (spR K Zha Ze5 NP):=by
 refine valR T.x_law_classes ZaE (fun cs ⟨M,e,_⟩=>by rw[e];rfl) (fun f cdv A outer s H E hr=>?_) [] (by simp)
 refine⟨_,(Zab (Zag (i:=2) ZaE.nd rfl (Or.inr rfl) (Zar (Zhl (K:=K) rfl) rfl T.n_list PyProof.Rows.boot_list (Zaa (pv 1) Zac)))
   (Zab (Zag (i:=3) ZaE.nd rfl (Or.inl rfl) Zad)
   (Zab (Zb6 PassesOwn.never (Zas ZeJ (Zah ZbG rfl T.n_len PySem.boot_len (Zaa (Zar (ZbZ (K:=K) rfl rfl) rfl T.n_set PyProof.Rows.boot_set (Zaa (pv 2) Zac)) Zac)) (pv 3) (nomark _))
    (Zab (Zag (i:=3) ZaE.nd rfl (Or.inl rfl) (Zah ZbG rfl T.n_len PySem.boot_len (Zaa (Zar (ZbZ (K:=K) rfl rfl) rfl T.n_set PyProof.Rows.boot_set (Zaa (pv 2) Zac)) Zac)))
    (Zab (ZhR (i:=4) ZaE.nd rfl rfl (N:=["_law_room", "_law_marks", "_law_rows"]) (cap:=[none,some 2,some 0]) rfl rfl rfl (by kernel_rfl) (ZaT rfl T.n_range (Zaa (Zah (Zai (K:=K) rfl) rfl T.n_len PySem.boot_len (Zaa (pv 0) Zac)) Zac)) (fun _ _ _ _=>(Zal (i:=0) (show (["_law_room", "_law_marks", "_law_rows"]:List Str).Nodup from by decide +kernel) rfl (Or.inl rfl))) (fun _ _ _ _=>ZaM) (fun _ _ _ _=>(Zar (ZaG (K:=K) rfl) rfl T.n_tuple PyProof.Rows.boot_tuple (Zaa (Zan (ZaA (K:=K) rfl) (ZbU (Zaa (Zat (Zaj (K:=K) rfl hr.units) (pv 1) (pv 0) (fun _ _=>rfl)) Zac)) (Zbc (N:=["_law_to", "_law_marks"]) (cap:=[none,some 1]) rfl rfl rfl (by kernel_rfl) (ZbE (K:=K) rfl (Zat (Zaj (K:=K) rfl hr.units) (pv 2) (pv 0) (fun _ _=>rfl))) (fun _ _ _ _=>(Zal (i:=0) (show (["_law_to", "_law_marks"]:List Str).Nodup from by decide +kernel) rfl (Or.inl rfl))) (fun _ _ _ _=>ZaM) (fun _ _ _ _=>(Zat (Zaj (K:=K) rfl hr.units) (pv 1) (pv 0) (fun _ _=>rfl))))) Zac))))
    (Zab (Zag (i:=5) ZaE.nd rfl (Or.inr rfl) ZdH)
    (Zab (Zbp PassesOwn.never rfl (ZbE (K:=K) rfl (pv 4)) (Zal (i:=6) ZaE.nd rfl (Or.inl rfl))
     (Zae (ZaV (ZbW (K:=K) rfl PySem.F.plainAttrs_dict PySem.F.slot_dict_setdefault PySem.F.type_dict_setdefault (Znx hr.units) (pv 5) (Zaa (pv 6) (Zaa (Zah ZiD rfl T.n_len PySem.boot_len (Zaa (pv 5) Zac)) Zac))))))
    (Zae (Zag (i:=2) ZaE.nd rfl (Or.inr rfl) (Zbc (N:=["_law_key", "_law_numbers"]) (cap:=[none,some 5]) rfl rfl rfl (by kernel_rfl) (ZbE (K:=K) rfl (pv 4)) (fun _ _ _ _=>(Zal (i:=0) (show (["_law_key", "_law_numbers"]:List Str).Nodup from by decide +kernel) rfl (Or.inl rfl))) (fun _ _ _ _=>ZaM) (fun _ _ _ _=>(Zat (Zaj (K:=K) rfl hr.units) (pv 1) (pv 0) (fun _ _=>rfl)))))))))))
   (Zae (Zaw (pv 2)))))),?_⟩
 rintro cs ⟨M,rfl,hP⟩
 show Sv K _ _ _ [some (.d (tR M.rows)),some (.d (tI M.signs)),none,none,none,none,none] _
 have hn0:=hP.n0
 have hn1:=hP.n1
 have hs:=hP.s
 have hl1:((ltr M:Nat):Int)≤64:=hP.l1
 walk_at "vi"
 refine ZjE (ds:=M.signs.map .int) rfl Kp.d ?_
 rw[ZiH]
 walk_at "vi"
 refine ZcM (fun m ρ=>∃ (al:List Int) (k:Nat) (o1 o2 o3:Option AV),ρ=[some (.d (tR M.rows)),some (.d (tI M.signs)),some (oI al),some (.d (.int k)),o1,o2,o3]∧al.length=M.rows.length∧k≤M.rows.length∧(∀ R,RefC M.rows.length (ltr M) (nxM M) al k R→RefC M.rows.length (ltr M) (nxM M) M.signs 0 R)∧m=M.rows.length-k) M.rows.length ⟨M.signs,0,none,none,none,rfl,hs,Nat.zero_le _,fun R h=>h,rfl⟩ ?_
 rintro m ρ ⟨al,k,o1,o2,o3,rfl,hal,hk,hR,rfl⟩
 have hcl:=Zg3 M.rows.length (tl al)
 walk_at "vi"
 refine Zc9 (ks:=al) (Zay al) (by omega) ?_
 walk_at "vi"
 refine Zcj ?_
 rw[Zdi hal]
 walk_at "vi"
 refine ite2 (fun h=>?_) fun h=>?_
 ·have hlt:k<cnt M.rows.length (tl al):=by have:=of_decide_eq_true h;omega
  walk_at "vi"
  refine Zc9 (ks:=al) (Zay al) (by omega) ?_
  walk_at "vi"
  refine Zcj ?_
  rw[Zdi hal]
  walk_at "vi"
  refine Zig ?_
  walk_at "vi"
  refine ZdC rfl ?_
  rw[List.length_map]
  walk_at "vi"
  refine⟨((M.rows.length:Nat):Int),fun i=>.d (tI (keyC (ltr M) (nxM M) al i)),rfl,⟨by omega,by omega⟩,fun i hi=>?_,_,Got.own (ZaJ fun _=>ZcT _),?_⟩
  ·have hi:i<M.rows.length:=by omega
   have hrow:=hP.row _ (List.getElem_mem hi)
   have eg:M.rows.getD i []=M.rows[i]:=by rw[List.getD_eq_getElem?_getD,List.getElem?_eq_getElem hi];rfl
   show Gv K _ _ [none,some (.d (.list (AV.datas (al.map fun k=>.d (.int k))))),some (.d (tR M.rows))] _
   walk_at "vi"
   refine⟨wk_0,?_⟩
   walk_at "vi"
   refine Zft ?_
   walk_at "vi"
   refine ix_L (congrArg PyData.list (Zdv al)) (Za1 (by omega) (by omega)) (Item.flat rfl) ?_
   walk_at "vi"
   refine⟨[.d (.int (tl al i))],.cons rfl .nil,by show 1≤1000;decide,?_⟩
   walk_at "vi"
   refine Zc6 (α:=Int) ?_
   walk_at "vi"
   refine ix_T rfl (Zbt (by omega) (by omega)) Item.d ?_
   rw[Int.toNat_natCast,eg]
   refine⟨M.rows[i],PyData.int,fun y=>.d (.int (tl al y.toNat)),.inr rfl,NR.av,by rw[hrow.1];show ltr M≤_;omega,fun l hlt=>?_,_,Got.own (ZaJ fun _=>rfl),?_⟩
   ·have hy:=hrow.2 _ (List.getElem_mem hlt)
    show Gv K _ _ [none,some (.d (.list (AV.datas (al.map fun k=>.d (.int k)))))] _
    walk_at "vi"
    refine⟨wk_0,?_⟩
    walk_at "vi"
    exact ix_L (congrArg PyData.list (Zdv al)) (Za1 hy.1 (by omega)) (Item.flat rfl) rfl
   refine ZnR (xs:=[tl al i]) (ys:=M.rows[i].map fun y=>tl al y.toNat) rfl (by rw[TV.data,AV.data,ZaQ (y:=fun y:Int=>PyData.int (tl al y.toNat)),dI,List.map_map];rfl) NR.av NR.av (by rw[List.length_map,hrow.1];show 1+ltr M≤_;omega) ?_
   walk_at "vi"
   refine Za9 (ds:=([tl al i]++M.rows[i].map fun y=>tl al y.toNat).map .int) (by exact Zay _) (Kp.flat (Zaq _)) ?_
   rw[Zgf hP hi]
   rfl
  rw[Int.toNat_natCast]
  walk_at "vi"
  have kd:(AV.own ((List.range M.rows.length).map fun i=>.d (tI (keyC (ltr M) (nxM M) al i)))).data=.list (((List.range M.rows.length).map (keyC (ltr M) (nxM M) al)).map tI):=by rw[Zcw,List.map_map];rfl
  refine Zh4 4 rfl ?_
  show Sv K _ _ _ [some (.d (tR M.rows)),some (.d (tI M.signs)),some (oI al),some (.d (.int (cnt M.rows.length (tl al):Nat))),some (.d (AV.own ((List.range M.rows.length).map fun i=>.d (tI (keyC (ltr M) (nxM M) al i)))).data),some (.dic []),o3] _
  rw[kd]
  have hnx:=ZoX (n:=M.rows.length) (L:=ltr M) (nx:=nxM M) (al:=al)
  have hkl:((List.range M.rows.length).map (keyC (ltr M) (nxM M) al)).length=M.rows.length:=by simp
  generalize (List.range M.rows.length).map (keyC (ltr M) (nxM M) al)=ks at hnx hkl
  walk_at "vi"
  refine Zif (α:=List Int) ?_
  walk_at "vi"
  refine⟨ks,tI,.inl rfl,⟨_,rfl⟩,fun i ρ=>∃ o3,ρ=[some (.d (tR M.rows)),some (.d (tI M.signs)),some (oI al),some (.d (.int (cnt M.rows.length (tl al):Nat))),some (.d (.list (ks.map tI))),some (.dic (encD tI (numK ((ks.take i).foldl addM [])))),o3],⟨o3,rfl⟩,?_,?_⟩
  ·rintro i ρ hi ⟨o3,rfl⟩
   have ht:ks.take (i+1)=ks.take i++[ks[i]]:=by rw[List.take_succ,List.getElem?_eq_getElem hi];rfl
   have hgl:=Zi9 (ks.take i) []
   have htl:(ks.take i).length≤i:=by rw[List.length_take];omega
   have hfold:(ks.take (i+1)).foldl addM []=addM ((ks.take i).foldl addM []) ks[i]:=by rw[ht,List.foldl_append];rfl
   generalize (ks.take i).foldl addM []=G at hgl hfold
   have hnl:(numK G).length=G.length:=by unfold numK;rw[List.length_map,List.length_zipIdx]
   refine gv_6 ?_
   refine Zny (n:=5) (kvs:=numK G) rfl ?hz ?_
   case hz=>rw[hnl];simp at hgl;omega
   walk_at "vi"
   refine ZjY (kvs:=numK G) rfl ?_
   rw[hnl]
   refine⟨ks[i],_,rfl,NR.av,rfl,fun h=>?_,fun h=>?_⟩
   ·rw[ZcA] at h
    by_cases hm:ks[i]∈G
    ·refine⟨some (.d (tI ks[i])),?_⟩
     rw[hfold,show addM G ks[i]=G from if_pos hm]
    ·rw[if_neg hm] at h
     cases h
   ·rw[ZcA] at h
    by_cases hm:ks[i]∈G
    ·rw[if_pos hm] at h
     cases h
    ·refine⟨some (.d (tI ks[i])),?_⟩
     rw[hfold,show addM G ks[i]=G++[ks[i]] from if_neg hm,show putA (numK G) ks[i] (.int ((G.length:Nat):Int))=numK (G++[ks[i]]) from ZgY hm]
     rfl
  ·rintro ρ ⟨o3,rfl⟩
   rw[List.take_length]
   have hmem:∀ k∈ks,k∈ks.foldl addM []:=fun k hk=>Zgl.mpr (.inr hk)
   have enm:AV.own (ks.map fun k=>.d (.int (ixC (ks.foldl addM []) k:Nat)))=oI (nmC ks):=by rw[nmC,oI,List.map_map];rfl
   generalize ks.foldl addM []=G at hmem enm
   walk_at "vi"
   refine Zc6 (α:=List Int) ?_
   walk_at "vi"
   refine⟨ks,tI,fun k=>.d (.int (ixC G k:Nat)),.inl rfl,NR.av,by omega,fun i hi=>?_,_,Got.own (ZaJ fun _=>rfl),?_⟩
   ·show Gv K _ _ [none,some (.d (.dict (encD tI (numK G))))] _
    walk_at "vi"
    refine⟨wk_0,?_⟩
    walk_at "vi"
    exact Zhq KEnc.ints (c:=ks[i]) (kvs:=numK G) (z:=.int (ixC G ks[i]:Int)) rfl rfl (by rw[ZcA,if_pos (hmem _ (List.getElem_mem hi))];rfl) (Item.flat rfl) rfl
   rw[enm]
   walk_at "vi"
   exact⟨M.rows.length-cnt M.rows.length (tl al),by omega,nmC ks,_,_,_,_,rfl,hnx.1,hcl,fun R hr=>hR R (.step hlt hnx hr),rfl⟩
 ·have hge:cnt M.rows.length (tl al)≤k:=by
   have:¬ ((k:Int)<(cnt M.rows.length (tl al):Nat)):=fun z=>h (decide_eq_true z)
   omega
  walk_at "vi"
  exact⟨_,Zhp rfl,M,al,rfl,(hR al (.done hge)).lots0 hn0 (Zcp hP),rfl⟩
theorem Zka{M N:Mach}(h1:tR M.rows=tR N.rows)(h2:tI M.signs=tI N.signs):M=N:=Zb5 (by show PyData.tuple [tR M.rows,tI M.signs]=.tuple [tR N.rows,tI N.signs];rw[h1,h2])
theorem Zef{Q:TV→Prop}{X:Exc→Prop}{M:Mach}(hP:Parts 1 64 M)(q:∀ R,LotsC M.rows.length (ltr M) (nxM M) M.signs R→Q (.av (oI R))):ClR Zha Ze5 NP [] Q X [.av (.d (tR M.rows)),.av (.d (tI M.signs))] :=
 ⟨[.d (tR M.rows),.d (tI M.signs)],.cons (.d NR.av rfl) (.cons (.d NR.av rfl) .nil),⟨M,rfl,hP⟩,fun c ⟨M',R,e,h1,ec⟩=>by
  simp only[List.append_nil,List.cons.injEq,AV.d.injEq,and_true] at e
  have e1:=Zka e.1 e.2
  subst e1 ec
  exact⟨_,Got.own (ZbB R),q R h1⟩,fun _ z=>z.elim⟩
structure LsN(N:Mach):Prop where
 p:Parts 1 64 N
 bf:Bfs (gR N (stA N)) (ltr N) [0] 0 (rgI N.rows.length)
 ap:∀ rel:Nat→Nat→Prop,(∀ i j,rel i j→i<N.rows.length∧j<N.rows.length)→(∀ i j,rel i j→tl N.signs i=tl N.signs j)→(∀ i j,rel i j→∀ l,l<ltr N→rel (nxM N i l) (nxM N j l))→∀ i j,rel i j→i=j
theorem IsL.n{N:Mach}(h:IsL N):LsN N:=by
 obtain⟨A,R,G,hL,hB,rfl⟩:=h
 refine⟨hB.parts,?_,fun rel h1 h2 h3=>Rb.co hL hB rel (fun i j r=>by have:=h1 i j r;rw[hB.len] at this;exact this) h2 fun i j r l hl=>h3 i j r l (by rw[hB.lt];exact hl)⟩
 have:=hB.self
 rw[hB.lt,hB.len]
 exact this
theorem ZnS{n:Nat}{met r:List Int}(e:rgI n=met++r):met=rgI met.length∧met.length≤n:=by
 have hl:n=met.length+r.length:=by have:=congrArg List.length e;simpa [rgI] using this
 refine⟨List.ext_getElem (by simp[rgI]) fun i h1 h2=>?_,by omega⟩
 have h3:i<n:=by omega
 have:=congrArg (fun xs=>xs[i]?) e
 simp only[rgI,List.getElem?_map,List.getElem?_range h3,List.getElem?_append_left h1,List.getElem?_eq_getElem h1] at this
 simp only[rgI,List.getElem_map,List.getElem_range]
 exact (Option.some.inj this).symm
theorem Zhb{α:Type}[DecidableEq α](g:α→Nat→α)(a:α)(met:List α)(l:Nat):∀ k,∃ r,growM g a met (l+k)=growM g a met l++r
 | 0=>⟨[],by simp⟩
 | k+1=>by
  obtain⟨r,e⟩:=Zhb g a met l k
  obtain⟨r2,e2⟩:=Zdg (growM g a met (l+k)) (g a (l+k))
  exact⟨r++r2,by rw[← Nat.add_assoc,Zaz,e2,e,List.append_assoc]⟩
noncomputable def At(N:Mach)(i m:Nat):Prop:=Bfs (gR N (stA N)) (ltr N) (rgI m) i (rgI N.rows.length)
theorem LsN.at0{N:Mach}(h:LsN N):At N 0 1:=h.bf
noncomputable def AtL(N:Mach)(i l m:Nat):Prop:=∃ m0,i<m0∧Bfs (gR N (stA N)) (ltr N) (growM (gR N (stA N)) (i:Int) (rgI m0) (ltr N)) (i+1) (rgI N.rows.length)∧growM (gR N (stA N)) (i:Int) (rgI m0) l=rgI m
theorem At.in{N:Mach}{i m:Nat}(h:At N i m)(hi:i<N.rows.length):i<m∧AtL N i 0 m:=by
 unfold At at h
 generalize hF:rgI N.rows.length=F at h
 generalize hM:rgI m=met at h
 cases h with
 | done h =>
  have h1:=congrArg List.length hF
  have h2:=congrArg List.length hM
  simp[rgI] at h1 h2
  omega
 | @step _ _ _ h h2 =>
  subst hM
  have hm:i<m:=by simpa [rgI] using h
  have e:(rgI m)[i]=(i:Int):=by simp[rgI]
  rw[e,← hF] at h2
  exact⟨hm,m,hm,h2,by simp[growM]⟩
theorem AtL.out{N:Mach}{i m:Nat}(h:AtL N i (ltr N) m):At N (i+1) m:=by
 obtain⟨m0,_,h2,h3⟩:=h
 rw[h3] at h2
 exact h2
theorem AtL.next{N:Mach}(hP:Parts 1 64 N){i l m:Nat}(hi:i<N.rows.length)(hl:l<ltr N)(h:AtL N i l m):let to:=stp N.rows i l;(0≤to∧to≤m)∧AtL N i (l+1) (if to=m then m+1 else m):=by
 obtain⟨m0,h1,h2,h3⟩:=h
 have hg:gR N (stA N) (i:Int) l=stp N.rows i l:=Zj3 hP (by omega) (by omega) hl
 have hst:=hP.stp (r:=i) (l:=l) (by omega) (by omega) (by omega) (by show (l:Int)<((ltr N:Nat):Int);omega)
 obtain⟨r,e⟩:=h2.pre
 obtain⟨r2,e2⟩:=Zhb (gR N (stA N)) (i:Int) (rgI m0) (l+1) (ltr N-(l+1))
 rw[show l+1+(ltr N-(l+1))=ltr N by omega] at e2
 rw[e2,List.append_assoc] at e
 obtain⟨p1,p2⟩:=ZnS e
 have hs:=Zaz (gR N (stA N)) (i:Int) (rgI m0) l
 rw[h3,hg] at hs
 intro to
 by_cases hm:stp N.rows i l∈rgI m
 ·have hlt:=Zbl.mp hm
  rw[show addM (rgI m) (stp N.rows i l)=rgI m from if_pos hm] at hs
  refine⟨⟨hlt.1,by show stp N.rows i l≤_;omega⟩,m0,h1,h2,?_⟩
  rw[hs,if_neg (show ¬ stp N.rows i l=(m:Int) by omega)]
 ·rw[show addM (rgI m) (stp N.rows i l)=rgI m++[stp N.rows i l] from if_neg hm] at hs
  rw[hs] at p1
  have hl2:(rgI m++[stp N.rows i l]).length=m+1:=by simp[rgI]
  rw[hl2] at p1
  have e3:stp N.rows i l=(m:Int):=by
   have:=congrArg (fun xs=>xs[m]?) p1
   have hlen:(rgI m).length=m:=by simp[rgI]
   rw[List.getElem?_append_right (by omega),hlen] at this
   simp[rgI] at this
   exact this
  refine⟨⟨by show 0≤stp N.rows i l;omega,by show stp N.rows i l≤_;omega⟩,m0,h1,h2,?_⟩
  rw[hs,p1,if_pos e3]
noncomputable def Zgm(ds:List PyData)(c:AV):Prop:=∃ k:Int,ds=[.int k]∧c=.d (.bool true)
theorem Zkb(T:Txt K mg):Cal P w K mg base (CXE P w) 1 "_law_whole" ["_law_found"] [] (spV K Zgm NX):=by
 refine val T.x_law_whole ZfK (fun ds c ⟨k,e,_⟩=>by rw[e];rfl) (fun f cdv A outer s H E hr=>?_) [] (by simp)
 refine⟨_,(Zae (Zaw (Zer (Zah (Zbm (K:=K) rfl) rfl T.n_isinstance PyProof.Rows.boot_isinstance (Zaa (pv 0) (Zaa (ZcK (v:=.ty "int") rfl T.n_int PyProof.Rows.boot_int rfl) Zac))) (Zfc (Zkj (Zah (Zbm (K:=K) rfl) rfl T.n_isinstance PyProof.Rows.boot_isinstance (Zaa (pv 0) (Zaa (ZcK (v:=.ty "bool") rfl T.n_bool PyProof.Rows.boot_bool rfl) Zac)))))))),?_⟩
 rintro ds c ⟨k,rfl,rfl⟩
 show Sv K _ _ _ [some (.d (.int k))] _
 walk_at "vs"
 refine Zf5 ?_
 walk_at "vs"
 refine Zfv ?_
 walk_at "vs"
 exact Zbz rfl
theorem ZfV{Q:TV→Prop}{k:Int}(q:Q (.av (.d (.bool true)))):Cl Zgm [] Q [.av (.d (.int k))]:=Zcg (by walk_at "nrs") ⟨k,rfl,rfl⟩ (Got.own rfl) q
theorem Zja{E:FK}{X:Exc→Sl→Prop}{ρ:Sl}{te:TE}{g:TG}{DV:VEnds}(h:Ev K E X te ρ fun a=>∃ x,a=.av (.d x)∧Gv K g x ρ DV.nx):Sv K E X (tAsg te g) ρ DV:=fun H0 σ ts as H D st s x f=>h H0 σ ts as H _ s x fun a ⟨y,ea,hg⟩ v H1 s1=>by
 subst ea
 exact hg H0 σ ts as H1 v D.nx s1 fun ρ' p σ' H' s'=>f.nx ρ' p σ' H' s'
noncomputable def Zjb(cs:List AV):Prop:=∃ N:Mach,cs=[.d (dM N),.d (.int (bs N))]∧LsN N∧stp N.rows 0 0=0
theorem Zgn(T:Txt K mg):Cal P w K mg base (CXE P w) 2 "_law_is_least" ["_law_found", "_law_letters"] [] (spR K Zjb (fun _ c=>c=.d (.bool true)) NP):=by
 have c_law_whole:Cal P w K mg base (CXE P w) 1 "_law_whole" ["_law_found"] [] (spV K Zgm NX):=Zkb T
 have c_law_classes:Cal P w K mg base (CXE P w) 1 "_law_classes" ["_law_rows", "_law_signs"] [] (spR K Zha Ze5 NP):=ZeF T
 refine valR T.x_law_is_least ZaH (fun cs ⟨N,e,_⟩=>by rw[e];rfl) (fun f cdv A outer s H E hr=>?_) [] (by simp)
 refine⟨_,(Zab (Zdl (PW.pt (Zdk (ZcV (Zdw (Zah (Zbm (K:=K) rfl) rfl T.n_isinstance PyProof.Rows.boot_isinstance (Zaa (pv 0) (Zaa (ZcK (v:=.ty "tuple") rfl T.n_tuple PyProof.Rows.boot_tuple rfl) Zac))))) (Zdx (Zas (Zid (K:=K) rfl hr.units) (Zah (Zai (K:=K) rfl) rfl T.n_len PySem.boot_len (Zaa (pv 0) Zac)) Zad (nomark _)))))
    (Zae (Zaw Zek))
    ZaO)
   (Zab (ZdN (pv 0) (Zdp (K:=K) (n:=2) rfl rfl (Za5 (Zal (i:=2) ZaH.nd rfl (Or.inl rfl)) (Za5 (Zal (i:=3) ZaH.nd rfl (Or.inl rfl)) Zdm))))
   (Zab (Zdl (PW.pt (Zdk (ZcV (Zdw (Zah (Zbm (K:=K) rfl) rfl T.n_isinstance PyProof.Rows.boot_isinstance (Zaa (pv 2) (Zaa (ZcK (v:=.ty "tuple") rfl T.n_tuple PyProof.Rows.boot_tuple rfl) Zac))))) (Zdk (ZcV (Zdw (Zah (Zbm (K:=K) rfl) rfl T.n_isinstance PyProof.Rows.boot_isinstance (Zaa (pv 3) (Zaa (ZcK (v:=.ty "tuple") rfl T.n_tuple PyProof.Rows.boot_tuple rfl) Zac))))) (Zdx (ZcV (ZiE ZdO (ZcF (K:=K) rfl hr.units) ZkP Zad (Zah (Zai (K:=K) rfl) rfl T.n_len PySem.boot_len (Zaa (pv 2) Zac)) (Zah (Zai (K:=K) rfl) rfl T.n_len PySem.boot_len (Zaa (pv 3) Zac)) Zad))))))
    (Zae (Zaw Zek))
    ZaO)
   (Zab (Zdl (ZcV (Zdw (Zah (Zia (K:=K) rfl rfl) rfl T.n_all PyProof.Rows.boot_all (Zaa (Zbc (N:=["_law_sign_here"]) (cap:=[none]) rfl rfl rfl (by kernel_rfl) (ZbE (K:=K) rfl (pv 3)) (fun _ _ _ _=>(Zal (i:=0) (show (["_law_sign_here"]:List Str).Nodup from by decide +kernel) rfl (Or.inl rfl))) (fun _ _ _ _=>ZaM) (fun _ _ _ _=>(ZaC (c_law_whole.mono (by decide)) hr rfl passE (Zaa (pv 0) Zac)))) Zac))))
    (Zae (Zaw Zek))
    ZaO)
   (Zab (Zag (i:=4) ZaH.nd rfl (Or.inl rfl) Zad)
   (Zab (Zbp PassesOwn.never rfl (ZaT rfl T.n_range (Zaa (Zah (Zai (K:=K) rfl) rfl T.n_len PySem.boot_len (Zaa (pv 2) Zac)) Zac)) (Zal (i:=5) ZaH.nd rfl (Or.inl rfl))
    (Zab (Zdl (PW.pt (Zdk (Zas Zmk (pv 5) (pv 4) (nomark _)) (Zdk (ZcV (Zdw (Zah (Zbm (K:=K) rfl) rfl T.n_isinstance PyProof.Rows.boot_isinstance (Zaa (Zat (Zaj (K:=K) rfl hr.units) (pv 2) (pv 5) (fun _ _=>rfl)) (Zaa (ZcK (v:=.ty "tuple") rfl T.n_tuple PyProof.Rows.boot_tuple rfl) Zac))))) (Zdx (Zas (Zid (K:=K) rfl hr.units) (Zah (Zai (K:=K) rfl) rfl T.n_len PySem.boot_len (Zaa (Zat (Zaj (K:=K) rfl hr.units) (pv 2) (pv 5) (fun _ _=>rfl)) Zac)) (pv 1) (nomark _))))))
     (Zae (Zaw Zek))
     ZaO)
    (Zae (Zbp PassesOwn.never rfl (ZbE (K:=K) rfl (Zat (Zaj (K:=K) rfl hr.units) (pv 2) (pv 5) (fun _ _=>rfl))) (Zal (i:=6) ZaH.nd rfl (Or.inl rfl))
     (Zab (Zdl (PW.pt (Zdk (ZcV (Zdw (ZaC (c_law_whole.mono (by decide)) hr rfl passE (Zaa (pv 6) Zac)))) (Zdk (ZcV (Zjt ZkP ZkP Zad (pv 6) (pv 4))) (Zdx (Zas Zmk (pv 6) (Zah (Zai (K:=K) rfl) rfl T.n_len PySem.boot_len (Zaa (pv 2) Zac)) (nomark _))))))
      (Zae (Zaw Zek))
      ZaO)
     (Zae (Zag (i:=4) ZaH.nd rfl (Or.inl rfl) (Zan (ZaA (K:=K) rfl) (pv 4) (Zar ZhJ rfl T.n_int PyProof.Rows.boot_int (Zaa (Zdn (ZcF (K:=K) rfl hr.units) (pv 6) (pv 4) (nomark _)) Zac))))))))))
   (Zae (Zaw (Zer (Zdn (ZcF (K:=K) rfl hr.units) (Zat (Zaj (K:=K) rfl hr.units) (Zat (Zaj (K:=K) rfl hr.units) (pv 2) Zad (fun _ _=>rfl)) Zad (fun _ _=>rfl)) Zad (nomark _)) (Zfc (Zdn (ZcF (K:=K) rfl hr.units) (Zah ZbG rfl T.n_len PySem.boot_len (Zaa (Zar (ZbZ (K:=K) rfl rfl) rfl T.n_set PyProof.Rows.boot_set (Zaa (ZaC (c_law_classes.mono (by decide)) hr rfl passE (Zaa (pv 2) (Zaa (pv 3) Zac))) Zac)) Zac)) (Zah (Zai (K:=K) rfl) rfl T.n_len PySem.boot_len (Zaa (pv 2) Zac)) (nomark _)))))))))))),?_⟩
 rintro cs ⟨N,rfl,hL,hz⟩
 show Sv K _ _ _ [some (.d (dM N)),some (.d (.int (bs N))),none,none,none,none,none] _
 have hP:=hL.p
 have hn0:=hP.n0
 have hn1:=hP.n1
 have hs:=hP.s
 have hl0:(1:Int)≤((ltr N:Nat):Int):=hP.l0
 have hl1:((ltr N:Nat):Int)≤64:=hP.l1
 walk_at "vm"
 refine Zc4 rfl ?_
 walk_at "vm"
 refine ZdC rfl ?_
 walk_at "vm"
 refine iteNS rfl ?_
 walk_at "vm"
 refine Zja ?_
 walk_at "vm"
 refine⟨_,rfl,?_⟩
 refine ZcO ?_
 walk_at "vm"
 refine Zc4 rfl ?_
 walk_at "vm"
 refine Zc4 rfl ?_
 walk_at "vm"
 refine ZiF ?_
 walk_at "vm"
 refine ZdC rfl ?_
 rw[List.length_map]
 refine⟨0,((N.rows.length:Nat):Int),rfl,rfl,decide_eq_true (by omega),?_⟩
 walk_at "vm"
 refine ZdC rfl ?_
 rw[List.length_map,hs]
 refine⟨rfl,?_⟩
 walk_at "vm"
 refine⟨decide_eq_true (by omega),?_⟩
 walk_at "vm"
 refine Zc6 (α:=Int) ?_
 walk_at "vm"
 refine⟨N.signs,PyData.int,fun _=>.d (.bool true),.inr rfl,NR.av,by omega,fun j hj=>?_,_,Got.own (ZaJ fun _=>rfl),?_⟩
 ·show Gv K _ _ [none] _
  walk_at "vm"
  refine⟨wk_0,?_⟩
  walk_at "vm"
  exact ZfV rfl
 walk_at "vm"
 refine ZmS (cs:=N.signs.map fun _=>true) (by rw[TV.data,AV.data,ZaQ,List.map_map];rfl) ?_
 rw[show (N.signs.map fun _=>true).all id=true by simp]
 walk_at "vm"
 refine ZeN ?_
 walk_at "vm"
 refine ZdC rfl ?_
 rw[List.length_map]
 walk_at "vm"
 refine⟨((N.rows.length:Nat):Int),rfl,⟨by omega,by omega⟩,fun i ρ=>∃ (m:Nat) (o1 o2:Option AV),ρ=[some (.d (dM N)),some (.d (.int (bs N))),some (.d (tR N.rows)),some (.d (tI N.signs)),some (.d (.int (m:Nat))),o1,o2]∧At N i m,⟨1,none,none,rfl,hL.at0⟩,?_,?_⟩
 ·rintro i ρ hi ⟨m,o1,o2,rfl,hA⟩
  have hi:i<N.rows.length:=by omega
  obtain⟨him,hAL⟩:=hA.in hi
  have hrow:=hP.row _ (List.getElem_mem hi)
  have hrl:(N.rows[i]).length=ltr N:=hrow.1
  have eg:N.rows.getD i []=N.rows[i]:=by rw[List.getD_eq_getElem?_getD,List.getElem?_eq_getElem hi];rfl
  walk_at "vi"
  refine s_if ?_
  walk_at "vi"
  refine ite2 (fun h=>?_) fun _=>?_
  ·exfalso
   have:=of_decide_eq_true h
   omega
  walk_at "vi"
  refine ix_T rfl (Zbt (by omega) (by omega)) Item.d ?_
  walk_at "vi"
  refine Zc4 rfl ?_
  walk_at "vi"
  refine ix_T rfl (Zbt (by omega) (by omega)) Item.d ?_
  walk_at "vi"
  refine ZdC rfl ?_
  rw[List.length_map,Int.toNat_natCast,eg,hrl]
  walk_at "vi"
  refine iteNS rfl ?_
  walk_at "vi"
  refine Zif (α:=Int) ?_
  walk_at "vi"
  refine ix_T rfl (Zbt (by omega) (by omega)) Item.d ?_
  rw[Int.toNat_natCast,eg]
  refine⟨N.rows[i],PyData.int,.inr rfl,⟨_,rfl⟩,fun l ρ=>∃ (m:Nat) (o2:Option AV),ρ=[some (.d (dM N)),some (.d (.int (bs N))),some (.d (tR N.rows)),some (.d (tI N.signs)),some (.d (.int (m:Nat))),some (.d (.int i)),o2]∧AtL N i l m,⟨m,o2,rfl,hAL⟩,?_,?_⟩
  ·rintro l ρ hl ⟨m,o2,rfl,hA⟩
   obtain⟨⟨t0,t1⟩,hN⟩:=hA.next hP hi (by omega)
   have et:stp N.rows i l=N.rows[i][l]:=by
    unfold stp
    rw[Int.toNat_natCast,Int.toNat_natCast,eg,List.getD_eq_getElem?_getD,List.getElem?_eq_getElem hl]
    rfl
   have tr:=hrow.2 _ (List.getElem_mem hl)
   rw[et] at t0 t1 hN
   generalize N.rows[i][l]=to at t0 t1 hN tr
   walk_at "vi"
   refine s_if ?_
   walk_at "vi"
   refine ZfV ?_
   walk_at "vi"
   refine ZjT ?_
   walk_at "vi"
   refine⟨0,to,rfl,rfl,fun _=>?_,fun h=>?_⟩
   case refine_2 =>
    exact absurd t0 (of_decide_eq_false h)
   walk_at "vi"
   rw[decide_eq_true t1]
   walk_at "vi"
   refine ZdC rfl ?_
   rw[List.length_map]
   walk_at "vi"
   refine ite2 (fun h=>?_) fun _=>?_
   ·exfalso
    have:=of_decide_eq_true h
    omega
   walk_at "vi"
   refine ZlK ?_
   walk_at "vi"
   have e:(m:Int)+(if decide (to=(m:Int))=true then 1 else 0)=((if to=(m:Int) then m+1 else m:Nat):Int):=by
    by_cases h:to=(m:Int)
    ·rw[if_pos h,if_pos (decide_eq_true h)];omega
    ·rw[if_neg h,if_neg (by simpa using h)];omega
   rw[e]
   exact⟨_,_,rfl,hN⟩
  ·rintro ρ ⟨m,o2,rfl,hA⟩
   rw[hrl] at hA
   walk_at "vi"
   exact⟨m,_,_,rfl,hA.out⟩
 ·rintro ρ ⟨m,o1,o2,rfl,_⟩
  have hr0:(N.rows.getD 0 []).length=ltr N:=rfl
  walk_at "vi"
  refine ix_T rfl (Zbt (by decide) (by omega)) Item.d ?_
  walk_at "vi"
  refine ix_T rfl (Za1 (by decide) (by show (0:Int)<_;rw[show (0:Int).toNat=0 from rfl,hr0];omega)) Item.d ?_
  walk_at "vi"
  rw[decide_eq_true (show (N.rows.getD (0:Int).toNat []).getD (0:Int).toNat 0=0 from hz)]
  walk_at "vi"
  refine Zef hP fun R hR=>?_
  walk_at "vi"
  refine Zc9 (ks:=R) (Zay R) (by rw[hR.len];omega) ?_
  walk_at "vi"
  refine Zcj ?_
  rw[Zdi hR.len,ZlX fun i j hi hj e=>hL.ap (fun i j=>(i<N.rows.length∧j<N.rows.length)∧tl R i=tl R j) (fun i j r=>r.1) (fun i j r=>hR.sg i j r.1.1 r.1.2 r.2) (fun i j r l hl=>⟨⟨Zcp hP i r.1.1 l hl,Zcp hP j r.1.2 l hl⟩,hR.st i j r.1.1 r.1.2 r.2 l hl⟩) i j ⟨⟨hi,hj⟩,e⟩]
  walk_at "vi"
  refine ZdC rfl ?_
  rw[List.length_map]
  walk_at "vi"
  rw[decide_eq_true rfl]
  exact⟨_,Zbz rfl,rfl⟩
theorem ZfW{Q:TV→Prop}{X:Exc→Prop}{N:Mach}(hL:LsN N)(hz:stp N.rows 0 0=0){l:Int}(hl:l=bs N)(q:Q (.av (.d (.bool true)))):ClR Zjb (fun _ c=>c=.d (.bool true)) NP [] Q X [.av (.d (dM N)),.av (.d (.int l))]:=by
 subst hl
 exact⟨[.d (dM N),.d (.int (bs N))],.cons (.d NR.av rfl) (.cons (.d NR.av rfl) .nil),⟨N,rfl,hL,hz⟩,fun c e=>e▸⟨_,Got.own rfl,q⟩,fun _ z=>z.elim⟩
noncomputable def PostN(c:AV):Prop:=∃ r:Int,c=.d (.int r)∧0≤r
noncomputable def ZdL(cs:List AV):Prop:=∃ (ns:List Int) (k:Int),cs=[.d (dI ns),.d (.int k)]∧0≤k∧k<900
theorem Zjc(T:Txt K mg):Cal P w K mg base (CXE P w) 1 "_law_cell" ["_law_script", "_law_k"] [] (spR K ZdL (fun _=>PostN) NP):=by
 refine valR T.x_law_cell ZaY (fun cs ⟨c,k,e,_⟩=>by rw[e];rfl) (fun f cdv A outer s H E hr=>?_) [] (by simp)
 refine⟨_,(Zab (Zag (i:=2) ZaY.nd rfl (Or.inl rfl) Zad)
   (Zab (Zdz (Zas ZdO (pv 1) (Zah (Zai (K:=K) rfl) rfl T.n_len PySem.boot_len (Zaa (pv 0) Zac)) (nomark _))
    (Zae (Zag (i:=2) ZaY.nd rfl (Or.inl rfl) (Zat (Zaj (K:=K) rfl hr.units) (pv 0) (pv 1) (fun _ _=>rfl))))
    ZaO)
   (Zab (Zag (i:=3) ZaY.nd rfl (Or.inl rfl) (Zan ZaU (Zan Zby (Zan (ZaA (K:=K) rfl) (Zan (ZaA (K:=K) rfl) (Zan ZaU (pv 2) Zad) (Zan Zby Zad (pv 1))) Zad) Zad) Zad))
   (Zab (Zag (i:=4) ZaY.nd rfl (Or.inl rfl) (pv 3))
   (Zab (Zbp PassesOwn.never rfl (ZaT rfl T.n_range (Zaa Zad Zac)) (Zal (i:=5) ZaY.nd rfl (Or.inl rfl))
    (Zab (Zag (i:=3) ZaY.nd rfl (Or.inl rfl) (Zan ZaU (Zan (ZaA (K:=K) rfl) (Zan Zby (pv 3) Zad) Zad) Zad))
    (Zae (Zag (i:=4) ZaY.nd rfl (Or.inl rfl) (Zan (ZaA (K:=K) rfl) (Zan Zby (pv 4) Zad) (pv 3))))))
   (Zae (Zaw (pv 4)))))))),?_⟩
 rintro cs ⟨ns,k,rfl,h0,h1⟩
 show Sv K _ _ _ [some (.d (dI ns)),some (.d (.int k)),none,none,none,none] _
 walk_at "vs"
 refine Zf6 (fun ρ=>∃ c:Int,ρ=[some (.d (dI ns)),some (.d (.int k)),some (.d (.int c)),none,none,none]) ?_ ?_
 case refine_2 =>
  walk_at "vs"
  refine Zc5 rfl ?_
  rw[List.length_map]
  walk_at "vs"
  refine ite2 (fun h=>?_) fun h=>?_
  ·have hk:=of_decide_eq_true h
   walk_at "vs"
   refine ix_L rfl (Zcz h0 hk) (Item.flat rfl) ?_
   walk_at "vs"
   exact⟨_,rfl⟩
  ·walk_at "vs"
   exact⟨0,rfl⟩
 rintro ρ ⟨c,rfl⟩
 walk_at "vs"
 have e0:0≤(c%2147483647+1009*k+7)*48271%2147483647:=Int.emod_nonneg _ (by decide)
 have e1:(c%2147483647+1009*k+7)*48271%2147483647<2147483647:=Int.emod_lt_of_pos _ (by decide)
 generalize (c%2147483647+1009*k+7)*48271%2147483647=n0 at e0 e1
 refine ZeN ?_
 walk_at "vs"
 refine⟨4,rfl,⟨by decide,by decide⟩,fun i ρ=>∃ (n v:Int) (o:Option AV),ρ=[some (.d (dI ns)),some (.d (.int k)),some (.d (.int c)),some (.d (.int n)),some (.d (.int v)),o]∧(0≤n∧n<2147483647)∧0≤v,⟨n0,n0,none,rfl,⟨e0,e1⟩,e0⟩,?_,?_⟩
 ·rintro i ρ hi ⟨n,v,o,rfl,hn,hv⟩
  walk_at "vs"
  have g0:0≤(n*69621+7919)%2147483647:=Int.emod_nonneg _ (by decide)
  have g1:(n*69621+7919)%2147483647<2147483647:=Int.emod_lt_of_pos _ (by decide)
  generalize (n*69621+7919)%2147483647=n2 at g0 g1
  exact⟨n2,v*2147483647+n2,_,rfl,⟨g0,g1⟩,by omega⟩
 ·rintro ρ ⟨n,v,o,rfl,hn,hv⟩
  walk_at "vs"
  exact⟨_,Zbz rfl,v,rfl,hv⟩
theorem ZbC{Q:TV→Prop}{X:Exc→Prop}{ns:List Int}{k:Int}(h0:0≤k∧k<900)(q:∀ r:Int,0≤r→Q (.av (.d (.int r)))):ClR ZdL (fun _=>PostN) NP [] Q X [.av (.d (dI ns)),.av (.d (.int k))] :=
 ⟨_,.cons (.d NR.av rfl) (.cons (.d NR.av rfl) .nil),⟨ns,k,rfl,h0.1,h0.2⟩,fun _ ⟨r,e,h1⟩=>e▸⟨_,Got.own rfl,q r h1⟩,fun _ z=>z.elim⟩
noncomputable def Zjd(cs:List AV):Prop:=∃ (ns:List Int) (a l r m:Int),cs=[.d (dI ns),.d (.int a),.d (.int l),.d (.int r),.d (.int m)]∧(0≤a∧a≤100)∧(1≤r∧r≤100)∧(1≤l∧l≤64)∧(1≤m∧m≤10)
noncomputable def Zgo(cs:List AV)(c:AV):Prop:=∃ (ns:List Int) (a l r m:Int) (M:Mach),cs=[.d (dI ns),.d (.int a),.d (.int l),.d (.int r),.d (.int m)]∧Good r l m M∧c=.d (dM M)
theorem Zhv(T:Txt K mg):Cal P w K mg base (CXE P w) 2 "_law_machine" ["_law_script", "_law_at", "_law_base", "_law_many", "_law_width"] [] (spR K Zjd Zgo NP):=by
 have c_law_cell:Cal P w K mg base (CXE P w) 1 "_law_cell" ["_law_script", "_law_k"] [] (spR K ZdL (fun _=>PostN) NP):=Zjc T
 refine valR T.x_law_machine ZaD (fun cs ⟨a,b,c,d,k,e,_⟩=>by rw[e];rfl) (fun f cdv A outer s H E hr=>?_) [] (by simp)
 refine⟨_,(Zab (Zag (i:=5) ZaD.nd rfl (Or.inl rfl) (Zan ZaU (ZaC (c_law_cell.mono (by decide)) hr rfl passE (Zaa (pv 0) (Zaa (pv 1) Zac))) Zad))
   (Zab (Zag (i:=6) ZaD.nd rfl (Or.inl rfl) (ZbU Zac))
   (Zab (Zag (i:=7) ZaD.nd rfl (Or.inl rfl) (ZbU Zac))
   (Zab (Zbp PassesOwn.never rfl (ZaT rfl T.n_range (Zaa (pv 3) Zac)) (Zal (i:=8) ZaD.nd rfl (Or.inl rfl))
    (Zab (Zag (i:=9) ZaD.nd rfl (Or.inl rfl) (ZbU Zac))
    (Zab (Zbp PassesOwn.never rfl (ZaT rfl T.n_range (Zaa (pv 2) Zac)) (Zal (i:=10) ZaD.nd rfl (Or.inl rfl))
     (Zab (Zag (i:=5) ZaD.nd rfl (Or.inl rfl) (Zan ZaU (Zan (ZaA (K:=K) rfl) (Zan (ZaA (K:=K) rfl) (Zan Zby (pv 5) Zad) Zad) (ZaC (c_law_cell.mono (by decide)) hr rfl passE (Zaa (pv 0) (Zaa (Zan (ZaA (K:=K) rfl) (Zan (ZaA (K:=K) rfl) (pv 1) Zad) (pv 8)) Zac)))) Zad))
     (Zae (ZaV (ZbW (K:=K) rfl PySem.F.plainAttrs_list PySem.F.slot_list_append PySem.F.type_list_append ZaP (pv 9) (Zaa (Zan ZaU (Zan Za7 (pv 5) Zad) (pv 3)) Zac))))))
    (Zab (ZaV (ZbW (K:=K) rfl PySem.F.plainAttrs_list PySem.F.slot_list_append PySem.F.type_list_append ZaP (pv 6) (Zaa (pv 9) Zac)))
    (Zae (ZaV (ZbW (K:=K) rfl PySem.F.plainAttrs_list PySem.F.slot_list_append PySem.F.type_list_append ZaP (pv 7) (Zaa (Zan ZaU (Zan Za7 (pv 5) Zad) (pv 4)) Zac))))))))
   (Zab (ZdN Zad (Zfd (Zat (Zaj (K:=K) rfl hr.units) (pv 6) Zad (fun _ _=>rfl)) Zad (ZdS hr.units)))
   (Zae (Zaw (ZcW (Zaa (Zar (ZaG (K:=K) rfl) rfl T.n_tuple PyProof.Rows.boot_tuple (Zaa (Zbc (N:=["_law_row"]) (cap:=[none]) rfl rfl rfl (by kernel_rfl) (ZbE (K:=K) rfl (pv 6)) (fun _ _ _ _=>(Zal (i:=0) (show (["_law_row"]:List Str).Nodup from by decide +kernel) rfl (Or.inl rfl))) (fun _ _ _ _=>ZaM) (fun _ _ _ _=>(Zar (ZaG (K:=K) rfl) rfl T.n_tuple PyProof.Rows.boot_tuple (Zaa (pv 0) Zac)))) Zac)) (Zaa (Zar (ZaG (K:=K) rfl) rfl T.n_tuple PyProof.Rows.boot_tuple (Zaa (pv 7) Zac)) Zac)))))))))),?_⟩
 rintro cs ⟨ns,a,l,r,m,rfl,ha1,hr1,hl1,hm1⟩
 show Sv K _ _ _ [some (.d (dI ns)),some (.d (.int a)),some (.d (.int l)),some (.d (.int r)),some (.d (.int m)),none,none,none,none,none,none] _
 walk_at "vs"
 refine ZbC (by omega) fun c0 hc0=>?_
 walk_at "vs"
 have n00:0≤c0%2147483647:=Int.emod_nonneg _ (by decide)
 have n01:c0%2147483647<2147483647:=Int.emod_lt_of_pos _ (by decide)
 generalize c0%2147483647=n0 at n00 n01
 walk_at "vs"
 refine ZeN ?_
 walk_at "vs"
 refine⟨r,rfl,⟨by omega,by omega⟩,fun i ρ=>∃ (n:Int) (rows:List (List Int)) (signs:List Int) (o8 o10:Option AV),ρ=[some (.d (dI ns)),some (.d (.int a)),some (.d (.int l)),some (.d (.int r)),some (.d (.int m)),some (.d (.int n)),some (oL rows),some (oI signs),o8,none,o10]∧(0≤n∧n<2147483647)∧rows.length=i∧(∀ x∈rows,(x.length:Int)=l∧∀ y∈x,0≤y∧y<r)∧signs.length=i∧∀ x∈signs,0≤x∧x<m,⟨n0,[],[],none,none,rfl,⟨n00,n01⟩,rfl,by simp,rfl,by simp⟩,?_,?_⟩
 ·rintro i ρ hi ⟨n,rows,signs,o8,o10,rfl,hn,h1,h2,h3,h4⟩
  walk_at "vs"
  refine ZeN ?_
  walk_at "vs"
  refine⟨l,rfl,⟨by omega,by omega⟩,fun j ρ=>∃ (n:Int) (row:List Int) (o10:Option AV),ρ=[some (.d (dI ns)),some (.d (.int a)),some (.d (.int l)),some (.d (.int r)),some (.d (.int m)),some (.d (.int n)),some (oL rows),some (oI signs),some (.d (.int i)),some (oI row),o10]∧(0≤n∧n<2147483647)∧row.length=j∧(∀ y∈row,0≤y∧y<r),⟨n,[],o10,rfl,hn,rfl,by simp⟩,?_,?_⟩
  ·rintro j ρ hj ⟨n,row,o10,rfl,gn,g1,g2⟩
   walk_at "vs"
   refine ZbC (by omega) fun c1 hc1=>?_
   walk_at "vs"
   have e0:0≤(n*48271+7919+c1)%2147483647:=Int.emod_nonneg _ (by decide)
   have e1:(n*48271+7919+c1)%2147483647<2147483647:=Int.emod_lt_of_pos _ (by decide)
   generalize (n*48271+7919+c1)%2147483647=n2 at e0 e1
   walk_at "vs"
   refine v_ap ?hz ?_
   case hz=>rw[List.length_map];omega
   walk_at "vs"
   rw[Zd7]
   refine⟨n2,_,_,rfl,⟨e0,e1⟩,by simp[g1],fun y hy=>?_⟩
   rcases List.mem_append.mp hy with hy|hy
   ·exact g2 y hy
   ·rw[List.mem_singleton.mp hy]
    exact⟨Int.emod_nonneg _ (by omega),Int.emod_lt_of_pos _ (by omega)⟩
  ·rintro ρ ⟨n,row,o10,rfl,gn,g1,g2⟩
   refine Znb ?_
   refine Zne (m:=9) (n:=6) rfl rfl (by decide) (by rw[List.length_map];omega) ?_
   show Sv K _ _ _ [_,_,_,_,_,_,some (AV.own (rows.map oI++[oI row])),some (oI signs),some (.d (.int i)),none,_] _
   rw[ZlQ]
   walk_at "vs"
   refine v_ap ?hz ?_
   case hz=>rw[List.length_map];omega
   rw[Zd7]
   refine⟨n,rows++[row],signs++[_],_,_,rfl,gn,by simp[h1],fun x hx=>?_,by simp[h3],fun x hx=>?_⟩
   ·rcases List.mem_append.mp hx with hx|hx
    ·exact h2 x hx
    ·rw[List.mem_singleton.mp hx]
     exact⟨by omega,g2⟩
   ·rcases List.mem_append.mp hx with hx|hx
    ·exact h4 x hx
    ·rw[List.mem_singleton.mp hx]
     exact⟨Int.emod_nonneg _ (by omega),Int.emod_lt_of_pos _ (by omega)⟩
 ·rintro ρ ⟨n,rows,signs,o8,o10,rfl,gn,h1,h2,h3,h4⟩
  have hr0:0<rows.length:=by omega
  obtain⟨row0,rest,rfl⟩:∃ a b,rows=a::b:=by
   cases rows with
   | nil=>simp at hr0
   | cons a b=>exact⟨a,b,rfl⟩
  have hl0:0<row0.length:=by have:=(h2 row0 (.head _)).1;omega
  walk_at "vs"
  refine Zno ?_
  walk_at "vs"
  refine⟨0,0,row0.map fun k=>.d (.int k),rfl,?_,rfl,Znj ⟨_,0,rfl,?_,?_⟩⟩
  ·unfold ixN;rw[List.length_map];simp
  ·unfold ixN;rw[List.length_map];simp[hl0]
  ·show Sv K _ _ _ [_,_,_,_,_,_,some (AV.own (((row0::rest).map oI).set 0 (.own ((row0.map fun k=>.d (.int k)).set 0 (.d (.int 0)))))),_,_,_,_] _
   have ee:AV.own (((row0::rest).map oI).set 0 (.own ((row0.map fun k=>.d (.int k)).set 0 (.d (.int 0)))))=oL (row0.set 0 0::rest):=by
    rw[← List.map_set];rfl
   rw[ee]
   generalize hM:row0.set 0 0::rest=rows2
   walk_at "vs"
   refine Zc3 ?_
   walk_at "vs"
   refine Zc6 (α:=List Int) ?_
   walk_at "vs"
   refine⟨rows2,dI,fun x=>.d (tI x),.inl ?_,NR.bor,?_,fun i hi=>?_,_,Got.own (ZaJ fun x=>ZcT x),?_⟩
   ·show PyData.list (AV.datas (rows2.map oI))=_
    have:=ZlO rows2
    exact this
   ·rw[← hM];simp only[List.length_cons] at h1 ⊢;omega
   ·show Gv K _ _ [none] _
    walk_at "vs"
    refine⟨wk_0,?_⟩
    walk_at "vs"
    exact Za9 (ds:=rows2[i].map .int) rfl (.inl rfl) rfl
   walk_at "vs"
   refine Za9 (ds:=rows2.map tI) (by rw[TV.data,AV.data,ZaQ]) (.inl rfl) ?_
   walk_at "vs"
   refine Za9 (ds:=signs.map .int) (Zdv signs▸rfl) (Kp.flat (Zaq _)) ?_
   walk_at "vs"
   refine⟨[.d (tR rows2),.d (tI signs)],.cons rfl (.cons rfl .nil),by simp,?_⟩
   refine⟨_,Zbz rfl,ns,a,l,r,m,⟨rows2,signs⟩,rfl,⟨by omega,by omega,?_,?_,by show (signs.length:Int)=r;omega,h4,?_⟩,rfl⟩
   ·show (rows2.length:Int)=r
    rw[← hM];simp only[List.length_cons] at h1 ⊢;omega
   ·intro x hx
    rw[← hM] at hx
    rcases List.mem_cons.mp hx with e|hx
    ·subst e
     refine⟨by rw[List.length_set];exact (h2 row0 (.head _)).1,fun y hy=>?_⟩
     rcases Zgc hy with hy|hy
     ·exact (h2 row0 (.head _)).2 y hy
     ·subst hy;omega
    ·exact h2 x (.tail _ hx)
   ·show (rows2.getD 0 []).getD 0 0=0
    rw[← hM]
    cases row0 with
    | nil=>simp at hl0
    | cons a b=>rfl
theorem Zgp{Q:TV→Prop}{X:Exc→Prop}{ns:List Int}{a l r m:Int}(h0:0≤a∧a≤100)(h1:1≤r∧r≤100)(h2:1≤l∧l≤64)(h3:1≤m∧m≤10)(q:∀ M,Good r l m M→Q (.av (.d (dM M)))):ClR Zjd Zgo NP [] Q X [.av (.d (dI ns)),.av (.d (.int a)),.av (.d (.int l)),.av (.d (.int r)),.av (.d (.int m))] :=
 ⟨[.d (dI ns),.d (.int a),.d (.int l),.d (.int r),.d (.int m)],.cons (.d NR.av rfl) (.cons (.d NR.av rfl) (.cons (.d NR.av rfl) (.cons (.d NR.av rfl) (.cons (.d NR.av rfl) .nil)))),⟨ns,a,l,r,m,rfl,h0,h1,h2,h3⟩,fun c hc=>by
  obtain⟨ns',a',l',r',m',M,e,hM,rfl⟩:=hc
  simp only[List.append_nil,List.cons.injEq,AV.d.injEq,PyData.int.injEq,and_true] at e
  obtain⟨_,rfl,rfl,rfl,rfl⟩:=e
  exact⟨_,Got.own (ZbT M),q M hM⟩,fun _ z=>z.elim⟩
noncomputable def S_sg(ds:List PyData)(c:AV):Prop:=∃ (M:Mach) (p:Int),ds=[dM M,.int (bs M),.int p]∧Parts 1 64 M∧(2≤bs M∧bs M≤5)∧(0≤p∧p.toNat<2 ^ 900)∧c=.d (.int (sgw M (figs (bs M) p)))
theorem Zgq(T:Txt K mg):Cal P w K mg base (CXE P w) 1 "_law_sign" ["_law_machine_here", "_law_base", "_law_place"] [] (spV K S_sg NX):=by
 refine val T.x_law_sign Zbo (fun ds c ⟨M,p,e,_⟩=>by rw[e];rfl) (fun f0 cdv A outer s0 H E hr=>?_) [] (by simp)
 refine⟨_,(Zab (Zag (i:=3) Zbo.nd rfl (Or.inl rfl) (ZbU Zac))
   (Zab (Zb6 PassesOwn.never (Zas ZeJ (pv 2) Zad (nomark _))
    (Zab (ZaV (ZbW (K:=K) rfl PySem.F.plainAttrs_list PySem.F.slot_list_append PySem.F.type_list_append ZaP (pv 3) (Zaa (Zan ZaU (pv 2) (pv 1)) Zac)))
    (Zae (Zag (i:=2) Zbo.nd rfl (Or.inl rfl) (Zan Za7 (pv 2) (pv 1))))))
   (Zab (Zag (i:=4) Zbo.nd rfl (Or.inl rfl) Zad)
   (Zab (Zbp PassesOwn.never rfl (Zlx (K:=K) rfl rfl T.n_reversed (Zaa (pv 3) Zac)) (Zal (i:=5) Zbo.nd rfl (Or.inl rfl))
    (Zae (Zag (i:=4) Zbo.nd rfl (Or.inl rfl) (Zat (Zaj (K:=K) rfl hr.units) (Zat (Zaj (K:=K) rfl hr.units) (Zat (Zaj (K:=K) rfl hr.units) (pv 0) Zad (fun _ _=>rfl)) (pv 4) (fun _ _=>rfl)) (pv 5) (fun _ _=>rfl)))))
   (Zae (Zaw (Zat (Zaj (K:=K) rfl hr.units) (Zat (Zaj (K:=K) rfl hr.units) (pv 0) Zad (fun _ _=>rfl)) (pv 4) (fun _ _=>rfl)))))))),?_⟩
 rintro ds c ⟨M,p,rfl,hP,hb,hp,rfl⟩
 have hW:Dgb (bs M) (figs (bs M) p):=fun x hx=>Zcr hb x hx
 show Sv K _ _ _ [some (.d (dM M)),some (.d (.int (bs M))),some (.d (.int p)),none,none,none] _
 walk_at "vs"
 refine ZcM (fun m ρ=>∃ (ds:List Int) (r:Int),ρ=[some (.d (dM M)),some (.d (.int (bs M))),some (.d (.int r)),some (oI ds),none,none]∧Lig (bs M) p ds r∧m=r.toNat) p.toNat ⟨[],p,rfl,.start hp.1 hp.2,rfl⟩ ?_
 rintro m ρ ⟨ds,r,rfl,L,rfl⟩
 walk_at "vs"
 refine ite2 (fun h=>?_) fun h=>?_
 ·have hr0:0<r:=of_decide_eq_true h
  obtain⟨L',hl,hm⟩:=L.step hb.1 hb.2 hr0
  walk_at "vs"
  refine v_ap ?hz ?_
  case hz=>rw[List.length_map];omega
  walk_at "vs"
  exact⟨(r / bs M).toNat,hm,ds++[r%bs M],r / bs M,by rw[oI,List.map_append];rfl,L',rfl⟩
 have hr0:¬ 0<r:=fun z=>h (decide_eq_true z)
 obtain⟨e,hl⟩:=L.done hr0
 subst e
 refine Zh4 3 rfl ?_
 show Sv K _ _ _ [some (.d (dM M)),some (.d (.int (bs M))),some (.d (.int r)),some (.d (oI (dig (bs M) p)).data),none,none] _
 rw[Zay]
 walk_at "vs"
 refine ZoV (α:=Int) ?_
 walk_at "vs"
 have hrr:dig (bs M) p=(figs (bs M) p).reverse:=by unfold figs;rw[List.reverse_reverse]
 generalize figs (bs M) p=ww at hW hrr
 rw[hrr]
 refine⟨_,ww,PyData.int,rfl,rfl,⟨_,rfl⟩,fun i ρ=>∃ o,ρ=[some (.d (dM M)),some (.d (.int (bs M))),some (.d (.int r)),some (.d (dI ww.reverse)),some (.d (.int (rm M.rows (ww.take i)))),o],⟨none,rfl⟩,?_,?_⟩
 ·rintro i ρ hi ⟨o,rfl⟩
  have h1:=hP.rm _ (ww.take i) rfl fun l hl'=>hW l (List.mem_of_mem_take hl')
  have h2:=hW _ (List.getElem_mem hi)
  have hx:=(hP.row _ (ZaI (d:=[]) (show (rm M.rows (ww.take i)).toNat<M.rows.length by omega))).1
  walk_at "vm"
  refine ix_T rfl (Zbt h1.1 h1.2) Item.d ?_
  walk_at "vs"
  refine ix_T rfl (Za1 h2.1 (by rw[hx];exact h2.2)) Item.d ?_
  walk_at "vs"
  refine⟨some (.d (.int ww[i])),?_⟩
  rw[List.take_add_one,List.getElem?_eq_getElem hi]
  show _=[_,_,_,_,some (AV.d (.int (rm M.rows (ww.take i++[ww[i]])))),_]
  rw[Zcb]
  rfl
 ·rintro ρ ⟨o,rfl⟩
  rw[List.take_length]
  have h1:=hP.rm _ ww rfl hW
  walk_at "vm"
  refine ix_T rfl (Za1 h1.1 (by rw[hP.s];exact h1.2)) Item.d ?_
  exact Zbz rfl
theorem ZkK{Q:TV→Prop}{M:Mach}{b p:Int}(hP:Parts 1 64 M)(hbb:b=bs M)(hb:2≤bs M∧bs M≤5)(hp:0≤p∧p.toNat<2 ^ 900)(q:Q (.av (.d (.int (sgw M (figs (bs M) p)))))):Cl S_sg [] Q [.av (.d (dM M)),.av (.d (.int b)),.av (.d (.int p))]:=by
 subst hbb
 exact Zcg (by walk_at "nrs") ⟨M,p,rfl,hP,hb,hp,rfl⟩ (Got.own rfl) q
theorem RowsOk.of{l:Nat}{r:Int}{rows:List (List Int)}{x:List Int}(h:∀ x∈rows,x.length=l∧∀ y∈x,0≤y∧y<r)(hx:x.length=l∧∀ y∈x,0≤y∧y<r):∀ z∈rows++[x],z.length=l∧∀ y∈z,0≤y∧y<r:=fun z hz=>by
 rcases List.mem_append.mp hz with hz|hz
 ·exact h z hz
 ·rw[List.mem_singleton.mp hz];exact hx
noncomputable def Zje(cs:List AV):Prop:=∃ M:Mach,cs=[.d (dM M)]∧Parts 1 64 M∧M.rows.length≤50∧Zz M
noncomputable def Zgr(cs:List AV)(c:AV):Prop:=∃ M N:Mach,cs=[.d (dM M)]∧Parts 1 64 N∧ltr N=ltr M∧Zz N∧c=.d (dM N)
theorem Zl5(rows:List (List Int))(x:List Int):AV.own ((rows.map fun x=>.d (tI x))++[.d (tI x)])=AV.own ((rows++[x]).map fun x=>.d (tI x)):=by rw[List.map_append];rfl
theorem Zkc(T:Txt K mg):Cal P w K mg base (CXE P w) 1 "_law_twice" ["_law_machine_here"] [] (spR K Zje Zgr NP):=by
 refine valR T.x_law_twice Zbs (fun cs ⟨M,e,_⟩=>by rw[e];rfl) (fun f cdv A outer s H E hr=>?_) [] (by simp)
 refine⟨_,(Zab (Zag (i:=1) Zbs.nd rfl (Or.inr rfl) (Zah (Zai (K:=K) rfl) rfl T.n_len PySem.boot_len (Zaa (Zat (Zaj (K:=K) rfl hr.units) (pv 0) Zad (fun _ _=>rfl)) Zac)))
   (Zab (Zag (i:=2) Zbs.nd rfl (Or.inl rfl) (ZbU Zac))
   (Zab (Zbp PassesOwn.never rfl (ZaT rfl T.n_range (Zaa Zad Zac)) (Zal (i:=3) Zbs.nd rfl (Or.inr rfl))
    (Zae (Zbp PassesOwn.never rfl (ZbE (K:=K) rfl (Zat (Zaj (K:=K) rfl hr.units) (pv 0) Zad (fun _ _=>rfl))) (Zal (i:=4) Zbs.nd rfl (Or.inl rfl))
     (Zae (ZaV (ZbW (K:=K) rfl PySem.F.plainAttrs_list PySem.F.slot_list_append PySem.F.type_list_append ZaP (pv 2) (Zaa (Zar (ZaG (K:=K) rfl) rfl T.n_tuple PyProof.Rows.boot_tuple (Zaa (Zbc (N:=["_law_letter", "_law_to", "_law_rooms", "_law_copy"]) (cap:=[none,none,some 1,some 3]) rfl rfl rfl (by kernel_rfl) (Zd0 (K:=K) rfl rfl T.n_enumerate (Zaa (pv 4) Zac)) (fun _ _ _ _=>(Zdp (K:=K) (n:=2) rfl rfl (Za5 (Zal (i:=0) (show (["_law_letter", "_law_to", "_law_rooms", "_law_copy"]:List Str).Nodup from by decide +kernel) rfl (Or.inl rfl)) (Za5 (Zal (i:=1) (show (["_law_letter", "_law_to", "_law_rooms", "_law_copy"]:List Str).Nodup from by decide +kernel) rfl (Or.inl rfl)) Zdm)))) (fun _ _ _ _=>ZaM) (fun _ _ _ _=>(Zan (ZaA (K:=K) rfl) (pv 1) (Zan Zby (pv 2) (Zan ZaU (Zan (ZaA (K:=K) rfl) (pv 0) (pv 3)) Zad))))) Zac)) Zac)))))))
   (Zae (Zaw (ZcW (Zaa (Zar (ZaG (K:=K) rfl) rfl T.n_tuple PyProof.Rows.boot_tuple (Zaa (pv 2) Zac)) (Zaa (Zan (ZaA (K:=K) rfl) (Zat (Zaj (K:=K) rfl hr.units) (pv 0) Zad (fun _ _=>rfl)) (Zat (Zaj (K:=K) rfl hr.units) (pv 0) Zad (fun _ _=>rfl))) Zac)))))))),?_⟩
 rintro cs ⟨M,rfl,hP,hm,hz⟩
 show Sv K _ _ _ [some (.d (dM M)),none,none,none,none] _
 have hn0:=hP.n0
 have hs:=hP.s
 have hl0:(1:Int)≤((ltr M:Nat):Int):=hP.l0
 have hl1:((ltr M:Nat):Int)≤64:=hP.l1
 walk_at "vm"
 refine ZdC rfl ?_
 rw[List.length_map]
 walk_at "vm"
 refine ZeN ?_
 walk_at "vm"
 refine⟨2,rfl,⟨by decide,by decide⟩,fun i ρ=>∃ (rows:List (List Int)) (o1 o2:Option AV),ρ=[some (.d (dM M)),some (.d (.int (M.rows.length:Nat))),some (.own (rows.map fun x=>.d (tI x))),o1,o2]∧rows.length=i*M.rows.length∧(∀ x∈rows,x.length=ltr M∧∀ y∈x,0≤y∧y<2*(M.rows.length:Int))∧(0<i→(rows.getD 0 []).getD 0 0=0),⟨[],none,none,rfl,by simp,by simp,by omega⟩,?_,?_⟩
 ·rintro i ρ hi ⟨rows,o1,o2,rfl,h1,h2,h3⟩
  have hi:i<2:=hi
  walk_at "vm"
  refine Zif (α:=List Int) ?_
  walk_at "vm"
  refine⟨M.rows,tI,.inr rfl,⟨_,rfl⟩,fun j ρ=>∃ (rows:List (List Int)) (o2:Option AV),ρ=[some (.d (dM M)),some (.d (.int (M.rows.length:Nat))),some (.own (rows.map fun x=>.d (tI x))),some (.d (.int i)),o2]∧rows.length=i*M.rows.length+j∧(∀ x∈rows,x.length=ltr M∧∀ y∈x,0≤y∧y<2*(M.rows.length:Int))∧(0<i∨0<j→(rows.getD 0 []).getD 0 0=0),⟨rows,o2,rfl,by omega,h2,fun z=>h3 (by omega)⟩,?_,?_⟩
  ·rintro j ρ hj ⟨rows,o2,rfl,g1,g2,g3⟩
   have hrow:=hP.row _ (List.getElem_mem hj)
   have hrl:(M.rows[j]).length=ltr M:=hrow.1
   have hz0:j=0→(M.rows[j]).getD 0 0=0:=fun e=>by
    subst e
    have z:(M.rows.getD 0 []).getD 0 0=0:=hz
    rw[List.getD_eq_getElem?_getD (l:=M.rows),List.getElem?_eq_getElem hj] at z
    exact z
   generalize M.rows[j]=row at hrow hrl hz0
   walk_at "vm"
   refine ZdK (ZeS ?_)
   walk_at "vm"
   refine⟨_,row.map PyData.int,rfl,rfl,NR.av,by rw[List.length_map];omega,fun n ys=>∃ xs:List Int,ys=xs.map (fun k=>.d (.int k))∧xs.length=n∧(∀ x∈xs,0≤x∧x<2*(M.rows.length:Int))∧(0<n→i=0→xs.getD 0 0=row.getD 0 0),⟨[],rfl,rfl,by simp,by omega⟩,?_,?_⟩
   ·rintro k ys hk ⟨xs,rfl,x1,x2,x3⟩
    rw[List.length_map] at hk
    have eg:(row.map PyData.int).getD k .none=.int row[k]:=by rw[List.getD_eq_getElem?_getD,List.getElem?_map,List.getElem?_eq_getElem hk];rfl
    show Gv K _ (.tuple [.int k,(row.map PyData.int).getD k .none]) [none,none,some (.d (.int (M.rows.length:Nat))),some (.d (.int i))] _
    rw[eg]
    refine ZcO ?_
    walk_at "vs"
    refine⟨ZnH,ZeR ?_⟩
    walk_at "vs"
    have hy:=hrow.2 _ (List.getElem_mem hk)
    have hq:((k:Int)+(i:Int))%2=0∨((k:Int)+(i:Int))%2=1:=by omega
    refine⟨_,rfl,xs++[_],by rw[List.map_append];rfl,by simp[x1],fun x hx=>?_,fun _ hi0=>?_⟩
    ·rcases List.mem_append.mp hx with hx|hx
     ·exact x2 x hx
     ·rw[List.mem_singleton.mp hx]
      rcases hq with e|e<;>rw[e]
      ·exact⟨by omega,by omega⟩
      ·exact⟨by omega,by omega⟩
    ·by_cases hk0:0<k
     ·have:=x3 hk0 hi0
      rw[List.getD_eq_getElem?_getD,List.getElem?_append_left (by omega),← List.getD_eq_getElem?_getD]
      exact this
     ·have hk1:k=0:=by omega
      subst hk1 hi0
      have hx0:xs=[]:=List.length_eq_zero_iff.mp x1
      subst hx0
      rw[List.getD_eq_getElem?_getD (l:=row),List.getElem?_eq_getElem hk]
      show row[0]+(M.rows.length:Int)*(((0:Nat):Int)+((0:Nat):Int))%2=_
      simp
   ·rintro ys ⟨xs,rfl,x1,x2,x3⟩
    rw[List.length_map] at x1 x3
    refine⟨_,Got.own (ZbB xs),?_⟩
    walk_at "vs"
    refine Za9 (ds:=xs.map .int) (by exact Zay xs) (Kp.flat (Zaq _)) ?_
    refine v_ap ?hz ?_
    case hz =>
     rw[List.length_map,g1]
     have:i*M.rows.length≤1*M.rows.length:=Nat.mul_le_mul_right _ (by omega)
     omega
    rw[show AV.own ((rows.map fun x=>.d (tI x))++[.d (.tuple (xs.map .int))])=AV.own ((rows++[xs]).map fun x=>.d (tI x)) from Zl5 rows xs]
    refine⟨rows++[xs],_,rfl,by rw[List.length_append,g1];simp;omega,RowsOk.of g2 ⟨by omega,x2⟩,fun _=>?_⟩
    by_cases hr0:0<rows.length
    ·rw[List.getD_eq_getElem?_getD (l:=rows++[xs]),List.getElem?_append_left hr0,← List.getD_eq_getElem?_getD]
     refine g3 ?_
     rcases Nat.eq_zero_or_pos i with e|e
     ·subst e;right;omega
     ·exact .inl e
    ·have hr1:rows=[]:=List.length_eq_zero_iff.mp (by omega)
     subst hr1
     have hi0:i=0:=by
      rcases Nat.eq_zero_or_pos i with e|e
      ·exact e
      ·have:1*M.rows.length≤i*M.rows.length:=Nat.mul_le_mul_right _ e
       simp at g1
       omega
     subst hi0
     have hj0:j=0:=by simp at g1;omega
     have:=x3 (by omega) rfl
     rw[hz0 hj0] at this
     exact this
  ·rintro ρ ⟨rows,o2,rfl,g1,g2,g3⟩
   walk_at "vm"
   exact⟨rows,_,_,rfl,by rw[g1,Nat.succ_mul],g2,fun _=>g3 (.inr hn0)⟩
 ·rintro ρ ⟨rows,o1,o2,rfl,h1,h2,h3⟩
  have h1:rows.length=2*M.rows.length:=h1
  have e:(rows.getD 0 []).length=ltr M:=(h2 _ (ZaI (show 0<rows.length by omega))).1
  have hN:Parts 1 64 ⟨rows,M.signs++M.signs⟩:=⟨by show 0<rows.length;omega,by show rows.length≤100;omega,by show (M.signs++M.signs).length=rows.length;rw[List.length_append];omega,fun x hx=>⟨by show x.length=(rows.getD 0 []).length;rw[e];exact (h2 x hx).1,fun y hy=>by have:=(h2 x hx).2 y hy;show 0≤y∧y<(rows.length:Int);omega⟩,by show (1:Int)≤((rows.getD 0 []).length:Nat);omega,by show ((rows.getD 0 []).length:Int)≤64;omega,fun x hx=>(List.mem_append.mp hx).elim (hP.sg x) (hP.sg x)⟩
  walk_at "vm"
  refine Zc3 ?_
  walk_at "vm"
  refine Za9 (ds:=rows.map tI) (by exact (Zcw rows fun x=>.d (tI x))) (Kp.flat (Zct (fun x=>ZcT x) rows)) ?_
  walk_at "vm"
  refine ZoJ (ds:=M.signs.map .int) (es:=M.signs.map .int) rfl rfl Kp.d Kp.d (by rw[List.length_map];omega) ?_
  rw[← List.map_append]
  walk_at "vm"
  refine⟨[.d (tR rows),.d (tI (M.signs++M.signs))],.cons rfl (.cons rfl .nil),by show 2≤1000;decide,?_⟩
  exact⟨_,Zbz rfl,M,⟨rows,M.signs++M.signs⟩,rfl,hN,e,h3 (by decide),rfl⟩
theorem Zjf{Q:TV→Prop}{X:Exc→Prop}{M:Mach}(hP:Parts 1 64 M)(hm:M.rows.length≤50)(hz:Zz M)(q:∀ N,Parts 1 64 N→ltr N=ltr M→Zz N→Q (.av (.d (dM N)))):ClR Zje Zgr NP [] Q X [.av (.d (dM M))] :=
 ⟨[.d (dM M)],.cons (.d NR.av rfl) .nil,⟨M,rfl,hP,hm,hz⟩,fun c ⟨M',N,e,h1,h2,h3,ec⟩=>by
  simp only[List.append_nil,List.cons.injEq,AV.d.injEq,and_true] at e
  have e1:=Zb5 e
  subst e1 ec
  exact⟨_,Got.own (ZbT N),q N h1 h2 h3⟩,fun _ z=>z.elim⟩
theorem Zhw{M:Mach}(hP:Parts 1 64 M)(hb:2≤bs M∧bs M≤5)(p:Int):0≤Rn M p∧Rn M p<M.rows.length:=hP.rm _ _ rfl fun l hl=>Zcr hb l hl
theorem Zl6{M:Mach}{R R0:List Int}(hC:LotsC M.rows.length (ltr M) (nxM M) M.signs R)(hP:Parts 1 64 M)(hL:LotsM M R0){i j:Nat}(hi:i<M.rows.length)(hj:j<M.rows.length):tl R i=tl R j↔tl R0 i=tl R0 j:=by
 obtain⟨al,ha,lo⟩:=hL.ex
 constructor
 ·intro e
  exact lo.co (fun i j=>(i<M.rows.length∧j<M.rows.length)∧tl R i=tl R j) (fun i j r=>r.1) (fun i j r=>(ha i j r.1.1 r.1.2).mpr (hC.sg i j r.1.1 r.1.2 r.2)) (fun i j r l hl=>⟨⟨Zcp hP i r.1.1 l hl,Zcp hP j r.1.2 l hl⟩,hC.st i j r.1.1 r.1.2 r.2 l hl⟩) i j ⟨⟨hi,hj⟩,e⟩
 ·intro e
  exact hC.co (fun i j=>(i<M.rows.length∧j<M.rows.length)∧tl R0 i=tl R0 j) (fun i j r=>r.1) (fun i j r=>(ha i j r.1.1 r.1.2).mp (lo.sg i j r.1.1 r.1.2 r.2)) (fun i j r l hl=>⟨⟨Zcp hP i r.1.1 l hl,Zcp hP j r.1.2 l hl⟩,lo.st i j r.1.1 r.1.2 r.2 l hl⟩) i j ⟨⟨hi,hj⟩,e⟩
theorem Zkd{M:Mach}{R0 G:List Int}(hL:LotsM M R0)(hB:Rb M R0 G)(hb:2≤bs M∧bs M≤5)(p q:Int):Rn (outM M R0 G) p=Rn (outM M R0 G) q↔tl R0 (Rn M p).toNat=tl R0 (Rn M q).toNat:=by
 have eb:bs (outM M R0 G)=bs M:=by show ((ltr _:Nat):Int)=_;rw[hB.lt]
 have key:∀ p:Int,(0≤Rn (outM M R0 G) p∧Rn (outM M R0 G) p<G.length)∧tl R0 (Rn M p).toNat=G.getD (Rn (outM M R0 G) p).toNat 0:=fun p=>by
  have h:=Zg9 hL hB (figs (bs M) p) (fun x hx=>Zcr hb x hx)
  unfold Rn
  rw[eb]
  exact⟨h.2.1,h.2.2⟩
 obtain⟨p1,p2⟩:=key p
 obtain⟨q1,q2⟩:=key q
 rw[p2,q2]
 refine⟨fun e=>by rw[e],fun e=>?_⟩
 have hp:(Rn (outM M R0 G) p).toNat<G.length:=by omega
 have hq:(Rn (outM M R0 G) q).toNat<G.length:=by omega
 rw[ZiV hp,ZiV hq] at e
 have h1:=hB.nd.idxOf_getElem _ hp
 have h2:=hB.nd.idxOf_getElem _ hq
 rw[e] at h1
 omega
theorem Zjg{α:Type}{m:Nat}{f g:Nat→α}:(List.range m).map f=(List.range m).map g↔∀ i,i<m→f i=g i:=by
 refine⟨fun e i hi=>?_,fun h=>List.map_congr_left fun i hi=>h i (List.mem_range.mp hi)⟩
 have:=congrArg (fun xs=>xs[i]?) e
 simp only[List.getElem?_map,List.getElem?_range hi] at this
 exact Option.some.inj this
noncomputable def WC(M:Mach)(R:List Int)(s f p:Int):List Int:=(List.range (mny s f)).map fun (i:Nat)=>tl R (Rn M (s*p+(i:Int))).toNat
noncomputable def WN(N:Mach)(s f p:Int):List Int:=(List.range (mny s f)).map fun (i:Nat)=>Rn N (s*p+(i:Int))
theorem Zjh{M:Mach}{R R0 G:List Int}{s f:Int}(hC:LotsC M.rows.length (ltr M) (nxM M) M.signs R)(hP:Parts 1 64 M)(hL:LotsM M R0)(hB:Rb M R0 G)(hb:2≤bs M∧bs M≤5)(p q:Int):WN (outM M R0 G) s f p=WN (outM M R0 G) s f q↔WC M R s f p=WC M R s f q:=by
 unfold WN WC
 rw[Zjg,Zjg]
 refine forall_congr' fun i=>forall_congr' fun _=>?_
 have h1:=Zhw hP hb (s*p+(i:Int))
 have h2:=Zhw hP hb (s*q+(i:Int))
 rw[Zkd hL hB hb,Zl6 hC hP hL (by omega) (by omega)]
theorem Ze6{M:Mach}{R:List Int}(hC:LotsC M.rows.length (ltr M) (nxM M) M.signs R)(hP:Parts 1 64 M)(hb:2≤bs M∧bs M≤5)(z:Zz M){a e:Int}(ha:0≤a)(he:0≤e∧e<bs M):tl R (Rn M (a*bs M+e)).toNat=tl R (nxM M (Rn M a).toNat e.toNat):=by
 have h1:=Zhw hP hb a
 rw[Zi7 hb z ha he]
 unfold nxM
 rw[Int.toNat_of_nonneg h1.1,Int.toNat_of_nonneg he.1]
theorem Ze7{b s p d:Int}{i:Nat}:s*(p*b+d)+(i:Int)=(s*p+(s*d+(i:Int)) / b)*b+(s*d+(i:Int))%b:=by
 have h:=Int.emod_add_mul_ediv (s*d+(i:Int)) b
 have e1:s*(p*b+d)=s*p*b+s*d:=by rw[Int.mul_add,Int.mul_assoc]
 have e2:(s*p+(s*d+(i:Int)) / b)*b=s*p*b+b*((s*d+(i:Int)) / b):=by rw[Int.add_mul,Int.mul_comm ((s*d+(i:Int)) / b)]
 rw[e1,e2]
 omega
theorem ZnT{M:Mach}{R:List Int}{s f p:Int}{q:Int}(hq:0≤q∧q<mny s f):(WC M R s f p).getD q.toNat 0=tl R (Rn M (s*p+q)).toNat:=by
 unfold WC
 rw[List.getD_eq_getElem?_getD,List.getElem?_map,List.getElem?_range (by omega)]
 show tl R (Rn M (s*p+((q.toNat:Nat):Int))).toNat=_
 rw[Int.toNat_of_nonneg hq.1]
theorem Zji{M:Mach}{R:List Int}{s f:Int}(hC:LotsC M.rows.length (ltr M) (nxM M) M.signs R)(hP:Parts 1 64 M)(hb:2≤bs M∧bs M≤5)(z:Zz M)(hS:GoodS s f){p q d:Int}(hp:0≤p)(hq:0≤q)(hd:0≤d∧d<bs M)(e:WC M R s f p=WC M R s f q):WC M R s f (p*bs M+d)=WC M R s f (q*bs M+d):=by
 obtain⟨_,hs,hf,hm⟩:=Zeb hS
 have h1:=hS.1
 refine Zjg.mpr fun i hi=>?_
 have hx:=spIx (b:=bs M) (s:=s) (l:=d) (i:=i) (m:=mny s f) hb.1 ⟨h1,hs⟩ hd ⟨by omega,by omega⟩
 have hr:0≤(s*d+(i:Int))%bs M∧(s*d+(i:Int))%bs M<bs M:=⟨Int.emod_nonneg _ (by omega),Int.emod_lt_of_pos _ (by omega)⟩
 rw[Ze7,Ze7]
 have np:0≤s*p:=Int.mul_nonneg (by omega) hp
 have nq:0≤s*q:=Int.mul_nonneg (by omega) hq
 rw[Ze6 hC hP hb z (by omega) hr,Ze6 hC hP hb z (by omega) hr]
 have e2:=congrArg (fun w=>w.getD ((s*d+(i:Int)) / bs M).toNat 0) e
 simp only[ZnT hx] at e2
 have g1:=Zhw hP hb (s*p+(s*d+(i:Int)) / bs M)
 have g2:=Zhw hP hb (s*q+(s*d+(i:Int)) / bs M)
 exact hC.st _ _ (by omega) (by omega) e2 _ (by have:=hr.2;show ((s*d+(i:Int))%bs M).toNat<ltr M;have h3:(s*d+(i:Int))%bs M<((ltr M:Nat):Int):=this;omega)
theorem ZnU{α β:Type}{E:α→β→Prop}(inj:∀ x x' y,E x y→E x' y→x=x'):∀ {A:List α},A.Nodup→(∀ x∈A,∃ y,E x y)→∃ B:List β,B.length=A.length∧B.Nodup∧∀ y∈B,∃ x∈A,E x y:=fun {A}=>by
 induction A with
 | nil=>exact fun _ _=>⟨[],rfl,by simp,by simp⟩
 | cons x A ih =>
  intro nd h
  obtain⟨hx,nd⟩:=List.nodup_cons.mp nd
  obtain⟨B,h1,h2,h3⟩:=ih nd fun y hy=>h y (.tail _ hy)
  obtain⟨y,hy⟩:=h x (.head _)
  refine⟨y::B,by simp[h1],List.nodup_cons.mpr ⟨fun z=>?_,h2⟩,fun u hu=>?_⟩
  ·obtain⟨x',m,e⟩:=h3 y z
   exact hx (inj x x' y hy e▸m)
  ·rcases List.mem_cons.mp hu with e|hu
   ·subst e;exact⟨x,.head _,hy⟩
   ·obtain⟨x',m,e⟩:=h3 u hu
    exact⟨x',.tail _ m,e⟩
theorem ZoY{N:Mach}{s f:Int}(ok:(thSp N s f).Ok)(u:List Int):Dgb (bs N) u→(thSp N s f).U (runX (thSp N s f) u):=by
 refine Zed (M:=fun u=>Dgb (bs N) u→(thSp N s f).U (runX (thSp N s f) u)) u (fun _=>ok.mem) fun v d ih hd=>?_
 obtain⟨hv,hd⟩:=hd.snoc
 rw[Zee]
 exact ok.cl _ (ih hv) _ (by have h2:d<((ltr N:Nat):Int):=hd.2;have h1:=hd.1;show d.toNat<ltr N;omega)
section
variable{M:Mach}{R R0 G:List Int}{s f:Int}
theorem Zjj(hC:LotsC M.rows.length (ltr M) (nxM M) M.signs R)(hP:Parts 1 64 M)(hL:LotsM M R0)(hB:Rb M R0 G)(hb:2≤bs M∧bs M≤5)(z:Zz M)(hS:GoodS s f){met:List (List Int)}(nd:met.Nodup)(hm:∀ x∈met,∃ p,0≤p∧x=WC M R s f p)(h:100<met.length):BigX (thSp (outM M R0 G) s f):=by
 have eb:bs (outM M R0 G)=bs M:=by show ((ltr _:Nat):Int)=_;rw[hB.lt]
 have hb':2≤bs (outM M R0 G)∧bs (outM M R0 G)≤5:=by rw[eb];exact hb
 have zN:=Ze4 hL hB z
 have ok:=Zi4 hB.parts hb' hS
 obtain⟨B,b1,b2,b3⟩:=ZnU (E:=fun x y=>∃ p,0≤p∧x=WC M R s f p∧y=WN (outM M R0 G) s f p) (fun x x' y ⟨p,_,e1,e2⟩ ⟨p',_,e1',e2'⟩=>by rw[e1,e1'];exact (Zjh hC hP hL hB hb p p').mp (e2.symm.trans e2')) nd fun x hx=>let ⟨p,hp,e⟩:=hm x hx;⟨_,p,hp,e,rfl⟩
 refine⟨B,b2,fun y hy=>?_,by show (100:Int)<(B.length:Int);omega⟩
 obtain⟨x,_,p,hp,_,e⟩:=b3 y hy
 have hf:Dgb (bs (outM M R0 G)) (figs (bs (outM M R0 G)) p):=fun x hx=>Zcr hb' x hx
 have:=ZoY ok _ hf
 rw[Zi8 hb' zN hS _ hf,ZgA hb'.1 hb'.2 hp] at this
 rw[e]
 exact this
theorem Zjk(hC:LotsC M.rows.length (ltr M) (nxM M) M.signs R)(hP:Parts 1 64 M)(hL:LotsM M R0)(hB:Rb M R0 G)(hb:2≤bs M∧bs M≤5)(z:Zz M)(hS:GoodS s f){met:List (List Int)}(all:∀ p,0≤p→WC M R s f p∈met)(h:met.length≤100):¬ BigX (thSp (outM M R0 G) s f):=by
 rintro⟨B,nd,u,hm⟩
 have eb:bs (outM M R0 G)=bs M:=by show ((ltr _:Nat):Int)=_;rw[hB.lt]
 have hb':2≤bs (outM M R0 G)∧bs (outM M R0 G)≤5:=by rw[eb];exact hb
 have zN:=Ze4 hL hB z
 obtain⟨D,d1,d2,d3⟩:=ZnU (E:=fun x y=>∃ p,0≤p∧x=WN (outM M R0 G) s f p∧y=WC M R s f p) (fun x x' y ⟨p,_,e1,e2⟩ ⟨p',_,e1',e2'⟩=>by rw[e1,e1'];exact (Zjh hC hP hL hB hb p p').mpr (e2.symm.trans e2')) nd fun x hx=>by
  obtain⟨_,w,hw,e⟩:=u x hx
  have e:x=runX (thSp (outM M R0 G) s f) w:=e
  rw[Zi8 hb' zN hS w hw] at e
  exact⟨_,_,ZkI (by omega) w hw,e,rfl⟩
 have hl:=Zdh (U:=met) d2 fun y hy=>by
  obtain⟨x,_,p,hp,_,e⟩:=d3 y hy
  rw[e];exact all p hp
 have hm:(100:Int)<(B.length:Int):=hm
 omega
theorem Zjl(hC:LotsC M.rows.length (ltr M) (nxM M) M.signs R)(hP:Parts 1 64 M)(hb:2≤bs M∧bs M≤5)(z:Zz M)(hS:GoodS s f){met:List (List Int)}(h0:WC M R s f 0∈met)(hm:∀ x∈met,∃ p,0≤p∧x=WC M R s f p∧∀ d,0≤d→d<bs M→WC M R s f (p*bs M+d)∈met):∀ (n:Nat) (p:Int),0≤p→p.toNat≤n→WC M R s f p∈met
 | 0,p,hp,hn=>by
  have:p=0:=by omega
  subst this
  exact h0
 | n+1,p,hp,hn=>by
  by_cases hz:p=0
  ·subst hz;exact h0
  ·have hdm:=Int.emod_add_mul_ediv p (bs M)
   have hr0:0≤p%bs M:=Int.emod_nonneg _ (by omega)
   have hr1:p%bs M<bs M:=Int.emod_lt_of_pos _ (by omega)
   have hq0:0≤p / bs M:=Int.ediv_nonneg hp (by omega)
   have hq1:p / bs M<p:=Int.ediv_lt_of_lt_mul (by omega) (by have:p*2≤p*bs M:=Int.mul_le_mul_of_nonneg_left hb.1 hp;omega)
   have ih:=Zjl hC hP hb z hS h0 hm n (p / bs M) hq0 (by omega)
   obtain⟨q,hq,e,cl⟩:=hm _ ih
   have:=cl _ hr0 hr1
   rw[← Zji hC hP hb z hS hq0 hq ⟨hr0,hr1⟩ e] at this
   rw[Int.mul_comm (bs M)] at hdm
   rw[show p / bs M*bs M+p%bs M=p by omega] at this
   exact this
end
noncomputable def mkR(M:Mach)(R:List Int)(j:Nat):List Int:=(List.range (ltr M)).map fun l=>tl R (nxM M j l)
theorem ZkL{M:Mach}{R:List Int}{j:Nat}{e:Int}(he:0≤e∧e<bs M):atI ((mkR M R j).map PyData.int) e=some (.int (tl R (nxM M j e.toNat))):=by
 have h2:e<((ltr M:Nat):Int):=he.2
 have hl:(mkR M R j).length=ltr M:=by simp[mkR]
 rw[Za1 he.1 (by rw[hl];exact h2)]
 unfold mkR
 rw[List.getD_eq_getElem?_getD,List.getElem?_map,List.getElem?_range (by have:=he.1;omega)]
 rfl
theorem ZoZ{k:Nat}{f:Nat→Int}{q:Int}(hq:0≤q∧q<k):atI (((List.range k).map f).map PyData.int) q=some (.int (f q.toNat)):=by
 rw[Za1 hq.1 (by rw[List.length_map,List.length_range];exact hq.2),List.getD_eq_getElem?_getD,List.getElem?_map,List.getElem?_range (by omega)]
 rfl
noncomputable def Zjm(cs:List AV):Prop:=∃ (M:Mach) (s f:Int),cs=[.d (dM M),.d (.int (bs M)),.d (.int s),.d (.int f)]∧Parts 1 64 M∧(2≤bs M∧bs M≤5)∧Zz M∧GoodS s f
noncomputable def Zgs(cs:List AV)(c:AV):Prop:=∃ (M:Mach) (s f:Int) (n:Nat),cs=[.d (dM M),.d (.int (bs M)),.d (.int s),.d (.int f)]∧(∀ R0 G,LotsM M R0→Rb M R0 G→(100<n↔BigX (thSp (outM M R0 G) s f)))∧c=.d (.int n)
theorem Zhx(T:Txt K mg):Cal P w K mg base (CXE P w) 2 "_law_windows" ["_law_machine_here", "_law_base", "_law_step", "_law_first"] [] (spR K Zjm Zgs NP):=by
 have c_law_classes:Cal P w K mg base (CXE P w) 1 "_law_classes" ["_law_rows", "_law_signs"] [] (spR K Zha Ze5 NP):=ZeF T
 refine valR T.x_law_windows Zao (fun cs ⟨M,s,f,e,_⟩=>by rw[e];rfl) (fun f0 cdv A outer s0 H E hr=>?_) [] (by simp)
 refine⟨_,(Zab (Zag (i:=4) Zao.nd rfl (Or.inr rfl) (ZaC (c_law_classes.mono (by decide)) hr rfl passE (Zaa (Zat (Zaj (K:=K) rfl hr.units) (pv 0) Zad (fun _ _=>rfl)) (Zaa (Zat (Zaj (K:=K) rfl hr.units) (pv 0) Zad (fun _ _=>rfl)) Zac))))
   (Zab (Zag (i:=5) Zao.nd rfl (Or.inl rfl) ZdH)
   (Zab (Zbp PassesOwn.never rfl (ZaT rfl T.n_range (Zaa (Zah (Zai (K:=K) rfl) rfl T.n_len PySem.boot_len (Zaa (pv 4) Zac)) Zac)) (Zal (i:=6) Zao.nd rfl (Or.inl rfl))
    (Zae (ZdN (Zbc (N:=["_law_to", "_law_marks"]) (cap:=[none,some 4]) rfl rfl rfl (by kernel_rfl) (ZbE (K:=K) rfl (Zat (Zaj (K:=K) rfl hr.units) (Zat (Zaj (K:=K) rfl hr.units) (pv 0) Zad (fun _ _=>rfl)) (pv 6) (fun _ _=>rfl))) (fun _ _ _ _=>(Zal (i:=0) (show (["_law_to", "_law_marks"]:List Str).Nodup from by decide +kernel) rfl (Or.inl rfl))) (fun _ _ _ _=>ZaM) (fun _ _ _ _=>(Zat (Zaj (K:=K) rfl hr.units) (pv 1) (pv 0) (fun _ _=>rfl)))) (Zfd (pv 5) (Zat (Zaj (K:=K) rfl hr.units) (pv 4) (pv 6) (fun _ _=>rfl)) (ZdS hr.units)))))
   (Zab (Zag (i:=7) Zao.nd rfl (Or.inl rfl) (Zan (ZaA (K:=K) rfl) (Zah (Zfe rfl) rfl T.n_max PyProof.Rows.boot_max (Zaa (pv 3) (Zaa (Zan Zkk (pv 2) Zad) Zac))) Zad))
   (Zab (Zag (i:=8) Zao.nd rfl (Or.inl rfl) (ZbU (Zaa (Zat (Zaj (K:=K) rfl hr.units) (pv 4) Zad (fun _ _=>rfl)) Zac)))
   (Zab (Zb6 PassesOwn.never (Zas ZdO (Zah (Zai (K:=K) rfl) rfl T.n_len PySem.boot_len (Zaa (pv 8) Zac)) (pv 7) (nomark _))
    (Zae (ZaV (ZbW (K:=K) rfl PySem.F.plainAttrs_list PySem.F.slot_list_append PySem.F.type_list_append ZaP (pv 8) (Zaa (Zat (Zaj (K:=K) rfl hr.units) (Zat (Zaj (K:=K) rfl hr.units) (pv 5) (Zat (Zaj (K:=K) rfl hr.units) (pv 8) (Zan Za7 (Zah (Zai (K:=K) rfl) rfl T.n_len PySem.boot_len (Zaa (pv 8) Zac)) (pv 1)) (fun _ _=>rfl)) (fun _ _=>rfl)) (Zan ZaU (Zah (Zai (K:=K) rfl) rfl T.n_len PySem.boot_len (Zaa (pv 8) Zac)) (pv 1)) (fun _ _=>rfl)) Zac)))))
   (Zab (Zag (i:=9) Zao.nd rfl (Or.inl rfl) (ZbU (Zaa (Zar (ZaG (K:=K) rfl) rfl T.n_tuple PyProof.Rows.boot_tuple (Zaa (pv 8) Zac)) Zac)))
   (Zab (Zag (i:=10) Zao.nd rfl (Or.inl rfl) Zad)
   (Zab (Zb6 PassesOwn.never (PW.pt (Zki (Zas ZdO (pv 10) (Zah (Zai (K:=K) rfl) rfl T.n_len PySem.boot_len (Zaa (pv 9) Zac)) (nomark _)) (ZhC (Zas ZdO (Zah (Zai (K:=K) rfl) rfl T.n_len PySem.boot_len (Zaa (pv 9) Zac)) Zad (nomark _)))))
    (Zab (Zbp PassesOwn.never rfl (ZaT rfl T.n_range (Zaa (pv 1) Zac)) (Zal (i:=11) Zao.nd rfl (Or.inl rfl))
     (Zab (Zag (i:=12) Zao.nd rfl (Or.inl rfl) (ZbU Zac))
     (Zab (Zbp PassesOwn.never rfl (ZaT rfl T.n_range (Zaa (pv 7) Zac)) (Zal (i:=13) Zao.nd rfl (Or.inl rfl))
      (Zab (Zag (i:=14) Zao.nd rfl (Or.inl rfl) (Zan (ZaA (K:=K) rfl) (Zan Zby (pv 2) (pv 11)) (pv 13)))
      (Zae (ZaV (ZbW (K:=K) rfl PySem.F.plainAttrs_list PySem.F.slot_list_append PySem.F.type_list_append ZaP (pv 12) (Zaa (Zat (Zaj (K:=K) rfl hr.units) (Zat (Zaj (K:=K) rfl hr.units) (pv 5) (Zat (Zaj (K:=K) rfl hr.units) (Zat (Zaj (K:=K) rfl hr.units) (pv 9) (pv 10) (fun _ _=>rfl)) (Zan Za7 (pv 14) (pv 1)) (fun _ _=>rfl)) (fun _ _=>rfl)) (Zan ZaU (pv 14) (pv 1)) (fun _ _=>rfl)) Zac))))))
     (Zae (Zdz (Zas (Zc1 (K:=K) rfl hr.units) (Zar (ZaG (K:=K) rfl) rfl T.n_tuple PyProof.Rows.boot_tuple (Zaa (pv 12) Zac)) (pv 9) (by with_unfolding_all rfl))
      (Zae (ZaV (ZbW (K:=K) rfl PySem.F.plainAttrs_list PySem.F.slot_list_append PySem.F.type_list_append ZaP (pv 9) (Zaa (Zar (ZaG (K:=K) rfl) rfl T.n_tuple PyProof.Rows.boot_tuple (Zaa (pv 12) Zac)) Zac))))
      ZaO)))))
    (Zae (Zag (i:=10) Zao.nd rfl (Or.inl rfl) (Zan (ZaA (K:=K) rfl) (pv 10) Zad)))))
   (Zae (Zaw (Zah (Zai (K:=K) rfl) rfl T.n_len PySem.boot_len (Zaa (pv 9) Zac))))))))))))),?_⟩
 rintro cs ⟨M,st,fi,rfl,hP,hb,hz,hS⟩
 have hn0:=hP.n0
 have hn1:=hP.n1
 obtain⟨em,hs1,hf1,hm1⟩:=Zeb hS
 have hst:=hS.1
 have hst2:=hS.2.1
 show Sv K _ _ _ [some (.d (dM M)),some (.d (.int (bs M))),some (.d (.int st)),some (.d (.int fi)),none,none,none,none,none,none,none,none,none,none,none] _
 walk_at "vm"
 refine Zef hP fun R hC=>?_
 have hRl:=hC.len
 walk_at "vm"
 refine Zh4 4 rfl ?_
 show Sv K _ _ _ [some (.d (dM M)),some (.d (.int (bs M))),some (.d (.int st)),some (.d (.int fi)),some (.d (oI R).data),some (.dic []),none,none,none,none,none,none,none,none,none] _
 rw[Zay]
 walk_at "vm"
 refine ZeN ?_
 walk_at "vm"
 refine Zc5 rfl ?_
 rw[List.length_map,hRl]
 walk_at "vm"
 refine⟨((M.rows.length:Nat):Int),rfl,⟨by omega,by omega⟩,fun i ρ=>∃ (kvs:List (Int×PyData)) (o6:Option AV),ρ=[some (.d (dM M)),some (.d (.int (bs M))),some (.d (.int st)),some (.d (.int fi)),some (.d (dI R)),some (.dic (encD PyData.int kvs)),o6,none,none,none,none,none,none,none,none]∧kvs.length≤i∧∀ j,j<i→getA kvs (tl R j)=some (dI (mkR M R j)),⟨[],none,rfl,Nat.le_refl _,fun j hj=>by omega⟩,?_,?_⟩
 ·rintro i ρ hi ⟨kvs,o6,rfl,hk,hget⟩
  have hi:i<M.rows.length:=by omega
  have hrow:=hP.row _ (List.getElem_mem hi)
  have eg:M.rows.getD i []=M.rows[i]:=by rw[List.getD_eq_getElem?_getD,List.getElem?_eq_getElem hi];rfl
  have hl1:((ltr M:Nat):Int)≤64:=hP.l1
  refine gv_6 ?_
  refine ZjZ (n:=5) KEnc.int rfl (by omega) ?_
  walk_at "vm"
  refine Zc6 (α:=Int) ?_
  walk_at "vm"
  refine ix_T rfl (Zbt (by omega) (by omega)) Item.d ?_
  rw[Int.toNat_natCast,eg]
  refine⟨M.rows[i],PyData.int,fun y=>.d (.int (tl R y.toNat)),.inr rfl,NR.av,by rw[hrow.1];show ltr M≤_;omega,fun l hlt=>?_,_,Got.own (ZaJ fun _=>rfl),?_⟩
  ·have hy:=hrow.2 _ (List.getElem_mem hlt)
   show Gv K _ _ [none,some (.d (dI R))] _
   walk_at "vm"
   refine⟨wk_0,?_⟩
   walk_at "vm"
   exact ix_L rfl (Zcz hy.1 (by rw[hRl];exact hy.2)) (Item.flat rfl) rfl
  walk_at "vm"
  refine ix_L rfl (Zcz (by omega) (by omega)) (Item.flat rfl) ?_
  have ez:(AV.own (M.rows[i].map fun y=>.d (.int (tl R y.toNat)))).data=dI (mkR M R i):=by
   rw[AV.data,ZaQ (y:=fun y:Int=>PyData.int (tl R y.toNat)),mkR,← Zgf hP hi,dI,List.map_map]
   rfl
  refine⟨dI (mkR M R i),tl R i,congrArg (fun x=>TV.av (AV.d x)) ez,rfl,NR.av,?_⟩
  refine⟨putA kvs (tl R i) (dI (mkR M R i)),_,rfl,by have:=ZgP kvs (tl R i) (dI (mkR M R i));omega,fun j hj=>?_⟩
  rw[ZgO]
  by_cases e:tl R j=tl R i
  ·rw[if_pos e]
   have:mkR M R i=mkR M R j:=List.map_congr_left fun l hl=>(hC.st j i (by omega) hi e l (List.mem_range.mp hl)).symm
   rw[this]
  ·rw[if_neg e]
   exact hget j (by
    have:j≠i:=fun z=>e (by rw[z])
    omega)
 rintro ρ ⟨kvs,o6,rfl,_,hget⟩
 rw[Int.toNat_natCast] at hget
 have hlead:∀ p:Int,getA kvs (tl R (Rn M p).toNat)=some (dI (mkR M R (Rn M p).toNat)):=fun p=>hget _ (by have:=Zhw hP hb p;omega)
 have r0:Rn M 0=0:=by unfold Rn;rw[Zi6 (by decide)];rfl
 walk_at "vi"
 refine ZiC ?_
 walk_at "vi"
 rw[em]
 walk_at "vi"
 refine Zft ?_
 walk_at "vi"
 refine ix_L rfl (Zcz (by decide) (by omega)) (Item.flat rfl) ?_
 walk_at "vi"
 refine⟨[.d (.int (tl R 0))],.cons rfl .nil,by show 1≤1000;decide,?_⟩
 walk_at "vi"
 refine ZcM (fun m ρ=>∃ k:Nat,ρ=[some (.d (dM M)),some (.d (.int (bs M))),some (.d (.int st)),some (.d (.int fi)),some (.d (dI R)),some (.dic (encD PyData.int kvs)),o6,some (.d (.int (mny st fi:Nat))),some (oI ((List.range k).map fun (p:Nat)=>tl R (Rn M (p:Int)).toNat)),none,none,none,none,none,none]∧1≤k∧k≤mny st fi∧m=mny st fi-k) (mny st fi-1) ⟨1,?_,Nat.le_refl _,by omega,rfl⟩ ?_
 ·have:(List.range 1).map (fun (p:Nat)=>tl R (Rn M (p:Int)).toNat)=[tl R 0]:=by
   show [tl R (Rn M ((0:Nat):Int)).toNat]=_
   rw[show ((0:Nat):Int)=0 from rfl,r0]
   rfl
  rw[this]
  rfl
 rintro m ρ ⟨k,rfl,hk1,hk2,rfl⟩
 walk_at "vi"
 refine Zc5 (ds:=((List.range k).map fun (p:Nat)=>tl R (Rn M (p:Int)).toNat).map .int) (by exact Zay _) ?_
 rw[List.length_map,List.length_map,List.length_range]
 walk_at "vi"
 refine ite2 (fun h=>?_) fun h=>?_
 ·have hlt:k<mny st fi:=by have:=of_decide_eq_true h;omega
  have hr:0≤(k:Int)%bs M∧(k:Int)%bs M<bs M:=⟨Int.emod_nonneg _ (by omega),Int.emod_lt_of_pos _ (by omega)⟩
  have hq0:0≤(k:Int) / bs M:=Int.ediv_nonneg (by omega) (by omega)
  have hq1:(k:Int) / bs M<k:=Int.ediv_lt_of_lt_mul (by omega) (by have:(k:Int)*2≤k*bs M:=Int.mul_le_mul_of_nonneg_left hb.1 (by omega);omega)
  have hdm:=Int.emod_add_mul_ediv (k:Int) (bs M)
  have hle:=Ze6 hC hP hb hz (a:=(k:Int) / bs M) hq0 hr
  rw[Int.mul_comm (bs M)] at hdm
  rw[show (k:Int) / bs M*bs M+(k:Int)%bs M=(k:Int) by omega] at hle
  walk_at "vi"
  refine Zc5 (ds:=((List.range k).map fun (p:Nat)=>tl R (Rn M (p:Int)).toNat).map .int) (by exact Zay _) ?_
  rw[List.length_map,List.length_map,List.length_range]
  walk_at "vi"
  refine ix_L (Zay _) (ZoZ (f:=fun (p:Nat)=>tl R (Rn M (p:Int)).toNat) ⟨hq0,hq1⟩) (Item.flat rfl) ?_
  rw[Int.toNat_of_nonneg hq0]
  refine Zhq KEnc.int (c:=tl R (Rn M ((k:Int) / bs M)).toNat) (kvs:=kvs) (z:=dI (mkR M R (Rn M ((k:Int) / bs M)).toNat)) rfl rfl (hlead _) Item.br ?_
  walk_at "vi"
  refine Zc5 (ds:=((List.range k).map fun (p:Nat)=>tl R (Rn M (p:Int)).toNat).map .int) (by exact Zay _) ?_
  rw[List.length_map,List.length_map,List.length_range]
  walk_at "vi"
  refine ix_L rfl (ZkL hr) (Item.flat rfl) ?_
  rw[← hle]
  refine v_ap ?hz ?_
  case hz=>rw[List.length_map,List.length_map,List.length_range];omega
  rw[Zd7]
  refine⟨mny st fi-(k+1),by omega,k+1,?_,by omega,by omega,rfl⟩
  rw[List.range_succ,List.map_append]
  rfl
 have hk:k=mny st fi:=by
  have:¬ ((k:Int)<(mny st fi:Nat)):=fun z=>h (decide_eq_true z)
  omega
 subst hk
 have ew:(List.range (mny st fi)).map (fun (p:Nat)=>tl R (Rn M (p:Int)).toNat)=WC M R st fi 0:=by
  unfold WC
  refine List.map_congr_left fun i _=>?_
  rw[Int.mul_zero,Int.zero_add]
 rw[ew]
 walk_at "vi"
 refine Zft ?_
 walk_at "vi"
 refine Za9 (ds:=(WC M R st fi 0).map .int) (by exact Zay _) (Kp.flat (Zaq _)) ?_
 walk_at "vi"
 refine⟨[.d (tI (WC M R st fi 0))],.cons rfl .nil,by show 1≤1000;decide,?_⟩
 walk_at "vi"
 have WCl:∀ p,(WC M R st fi p).length=mny st fi:=fun p=>by simp[WC]
 refine ZcM (fun m ρ=>∃ (met:List (List Int)) (at':Nat) (o11 o12 o13 o14:Option AV),ρ=[some (.d (dM M)),some (.d (.int (bs M))),some (.d (.int st)),some (.d (.int fi)),some (.d (dI R)),some (.dic (encD PyData.int kvs)),o6,some (.d (.int (mny st fi:Nat))),some (oI (WC M R st fi 0)),some (oE tI met),some (.d (.int (at':Nat))),o11,o12,o13,o14]∧met.Nodup∧(∀ x∈met,∃ p,0≤p∧x=WC M R st fi p)∧WC M R st fi 0∈met∧(∀ j (h:j<met.length),j<at'→∀ p,0≤p→met[j]=WC M R st fi p→∀ d,0≤d→d<bs M→WC M R st fi (p*bs M+d)∈met)∧met.length≤107∧at'≤107∧m=108-at') 108 ⟨[WC M R st fi 0],0,none,none,none,none,rfl,by simp,fun x hx=>⟨0,by decide,List.mem_singleton.mp hx⟩,.head _,fun j _ hj=>by omega,by simp,by omega,rfl⟩ ?_
 rintro m ρ ⟨met,at',o11,o12,o13,o14,rfl,nd,hW,h0,hcl,hml,hal,rfl⟩
 walk_at "vi"
 refine Zc5 (ds:=met.map tI) (by exact ZbN tI met) ?_
 rw[List.length_map]
 walk_at "vi"
 refine ite2 (fun h=>?_) fun h=>?_
 ·have hlt:at' < met.length:=by have:=of_decide_eq_true h;omega
  walk_at "vi"
  refine Zc5 (ds:=met.map tI) (by exact ZbN tI met) ?_
  rw[List.length_map]
  walk_at "vi"
  refine ite2 (fun h2=>?_) fun h2=>?_
  ·have hl2:met.length<102:=by have:=of_decide_eq_true h2;omega
   obtain⟨p,hp,ep⟩:=hW _ (List.getElem_mem hlt)
   have np:0≤st*p:=Int.mul_nonneg (by omega) hp
   walk_at "vi"
   refine ZeN ?_
   walk_at "vi"
   refine⟨bs M,rfl,⟨by omega,by omega⟩,fun l ρ=>∃ (G:List (List Int)) (o11 o12 o13 o14:Option AV),ρ=[some (.d (dM M)),some (.d (.int (bs M))),some (.d (.int st)),some (.d (.int fi)),some (.d (dI R)),some (.dic (encD PyData.int kvs)),o6,some (.d (.int (mny st fi:Nat))),some (oI (WC M R st fi 0)),some (oE tI G),some (.d (.int (at':Nat))),o11,o12,o13,o14]∧G.Nodup∧(∀ x∈G,∃ p,0≤p∧x=WC M R st fi p)∧(∃ r,G=met++r)∧(∀ d:Int,0≤d→d<l→WC M R st fi (p*bs M+d)∈G)∧G.length≤met.length+l,⟨met,o11,o12,o13,o14,rfl,nd,hW,⟨[],by simp⟩,fun d h1 h2=>by omega,by omega⟩,?_,?_⟩
   ·rintro l ρ hl ⟨G,o11,o12,o13,o14,rfl,gnd,gW,⟨r,er⟩,gcl,gl⟩
    have hl:(l:Int)<bs M:=by omega
    have hG:at' < G.length:=by rw[er,List.length_append];omega
    have eG:G[at']=WC M R st fi p:=by
     simp only[er]
     rw[List.getElem_append_left hlt]
     exact ep
    walk_at "vi"
    refine ZeN ?_
    walk_at "vi"
    refine⟨((mny st fi:Nat):Int),rfl,⟨by omega,by omega⟩,fun k ρ=>∃ (o13 o14:Option AV),ρ=[some (.d (dM M)),some (.d (.int (bs M))),some (.d (.int st)),some (.d (.int fi)),some (.d (dI R)),some (.dic (encD PyData.int kvs)),o6,some (.d (.int (mny st fi:Nat))),some (oI (WC M R st fi 0)),some (oE tI G),some (.d (.int (at':Nat))),some (.d (.int l)),some (oI ((List.range k).map fun (i:Nat)=>tl R (Rn M (st*(p*bs M+(l:Int))+(i:Int))).toNat)),o13,o14],⟨o13,o14,rfl⟩,?_,?_⟩
    ·rintro k ρ hk ⟨o13,o14,rfl⟩
     have hk:k<mny st fi:=by omega
     have hx:=spIx (b:=bs M) (s:=st) (l:=(l:Int)) (i:=(k:Int)) (m:=mny st fi) hb.1 ⟨hst,hs1⟩ ⟨by omega,hl⟩ ⟨by omega,by omega⟩
     have hr:0≤(st*(l:Int)+(k:Int))%bs M∧(st*(l:Int)+(k:Int))%bs M<bs M:=⟨Int.emod_nonneg _ (by omega),Int.emod_lt_of_pos _ (by omega)⟩
     have hle:=Ze6 hC hP hb hz (a:=st*p+(st*(l:Int)+(k:Int)) / bs M) (by omega) hr
     rw[← Ze7 (d:=(l:Int))] at hle
     walk_at "vi"
     refine ix_L (ZbN tI G) (Znz hG) (Item.flat (ZcT _)) ?_
     rw[eG]
     walk_at "vi"
     refine ix_T rfl (Za1 hx.1 (by rw[WCl];exact hx.2)) Item.d ?_
     rw[ZnT hx]
     refine Zhq KEnc.int (c:=tl R (Rn M (st*p+(st*(l:Int)+(k:Int)) / bs M)).toNat) (kvs:=kvs) (z:=dI (mkR M R (Rn M (st*p+(st*(l:Int)+(k:Int)) / bs M)).toNat)) rfl rfl (hlead _) Item.br ?_
     walk_at "vi"
     refine ix_L rfl (ZkL hr) (Item.flat rfl) ?_
     rw[← hle]
     refine v_ap ?hz ?_
     case hz=>rw[List.length_map,List.length_map,List.length_range];omega
     rw[Zd7]
     refine⟨some (.d (.int k)),some (.d (.int (st*(l:Int)+(k:Int)))),?_⟩
     rw[List.range_succ,List.map_append]
     rfl
    ·rintro ρ ⟨o13,o14,rfl⟩
     rw[Int.toNat_natCast]
     have ew2:(List.range (mny st fi)).map (fun (i:Nat)=>tl R (Rn M (st*(p*bs M+(l:Int))+(i:Int))).toNat)=WC M R st fi (p*bs M+(l:Int)):=rfl
     rw[ew2]
     have hpl:0≤p*bs M+(l:Int):=by have:=Int.mul_nonneg hp (show 0≤bs M by omega);omega
     walk_at "vi"
     refine s_if ?_
     walk_at "vi"
     refine Za9 (ds:=(WC M R st fi (p*bs M+(l:Int))).map .int) (by exact Zay _) (Kp.flat (Zaq _)) ?_
     walk_at "vi"
     refine ZoI Enc.int.tuple (c:=WC M R st fi (p*bs M+(l:Int))) (xs:=G) rfl (.inl (ZbN tI G)) ?_
     have dl:∀ {G':List (List Int)},(∀ x∈G,x∈G')→WC M R st fi (p*bs M+(l:Int))∈G'→∀ d:Int,0≤d→d<((l+1:Nat):Int)→WC M R st fi (p*bs M+d)∈G':=fun sub hm d h1 h2=>by
      by_cases h3:d<(l:Int)
      ·exact sub _ (gcl d h1 h3)
      ·have:d=(l:Int):=by omega
       rw[this];exact hm
     by_cases hm:WC M R st fi (p*bs M+(l:Int))∈G
     ·refine⟨_,rfl,?_⟩
      rw[if_neg (by simp[hm])]
      walk_at "vi"
      exact⟨G,_,_,_,_,rfl,gnd,gW,⟨r,er⟩,dl (fun _ z=>z) hm,by omega⟩
     ·refine⟨_,rfl,?_⟩
      rw[if_pos (by simp[hm])]
      walk_at "vi"
      refine Za9 (ds:=(WC M R st fi (p*bs M+(l:Int))).map .int) (by exact Zay _) (Kp.flat (Zaq _)) ?_
      refine v_ap ?hz ?_
      case hz=>rw[List.length_map];omega
      have eo:AV.own ((G.map fun x=>.d (tI x))++[.d (.tuple ((WC M R st fi (p*bs M+(l:Int))).map .int))])=oE tI (G++[WC M R st fi (p*bs M+(l:Int))]):=by rw[oE,List.map_append];rfl
      rw[eo]
      refine⟨G++[WC M R st fi (p*bs M+(l:Int))],_,_,_,_,rfl,?_,fun x hx=>?_,⟨r++[WC M R st fi (p*bs M+(l:Int))],by rw[er,List.append_assoc]⟩,dl (fun _ z=>List.mem_append_left _ z) (List.mem_append_right _ (.head _)),by rw[List.length_append];simp;omega⟩
      ·have:=ZiI (x:=WC M R st fi (p*bs M+(l:Int))) gnd
       rw[show addM G (WC M R st fi (p*bs M+(l:Int)))=G++[WC M R st fi (p*bs M+(l:Int))] from if_neg hm] at this
       exact this
      ·rcases List.mem_append.mp hx with hx|hx
       ·exact gW x hx
       ·exact⟨_,hpl,List.mem_singleton.mp hx⟩
   ·rintro ρ ⟨G,o11,o12,o13,o14,rfl,gnd,gW,⟨r,er⟩,gcl,gl⟩
    rw[Int.toNat_of_nonneg (by omega)] at gcl
    have sub:∀ x∈met,x∈G:=fun x hx=>by rw[er];exact List.mem_append_left _ hx
    have hG:at' < G.length:=by rw[er,List.length_append];omega
    walk_at "vi"
    refine⟨108-(at'+1),by omega,G,at'+1,_,_,_,_,rfl,gnd,gW,sub _ h0,fun j hj hja q hq eq d h1 h2=>?_,by omega,by omega,rfl⟩
    by_cases h3:j<at'
    ·have:G[j]=met[j]'(by omega):=by
      simp only[er]
      exact List.getElem_append_left (by omega)
     rw[this] at eq
     exact sub _ (hcl j (by omega) h3 q hq eq d h1 h2)
    ·have hj2:j=at':=by omega
     subst hj2
     have e3:G[j]=WC M R st fi p:=by
      simp only[er]
      rw[List.getElem_append_left hlt]
      exact ep
     rw[Zji hC hP hb hz hS hq hp ⟨h1,h2⟩ (eq.symm.trans e3)]
     exact gcl d h1 h2
  ·have hl2:102≤met.length:=by
    have:¬ ((met.length:Int)<102):=fun z=>h2 (decide_eq_true z)
    omega
   walk_at "vi"
   refine Zc5 (ds:=met.map tI) (by exact ZbN tI met) ?_
   rw[List.length_map]
   exact⟨_,Zbz rfl,M,st,fi,met.length,rfl,fun R0 G hL hB=>⟨fun h=>Zjj hC hP hL hB hb hz hS nd hW h,fun _=>by omega⟩,rfl⟩
 ·have hge:met.length≤at':=by
   have:¬ ((at':Int)<met.length):=fun z=>h (decide_eq_true z)
   omega
  have all:∀ q,0≤q→WC M R st fi q∈met:=fun q hq=>Zjl hC hP hb hz hS h0 (fun x hx=>by
   obtain⟨j,hj,e⟩:=List.getElem_of_mem hx
   obtain⟨q,hq,e2⟩:=hW x hx
   exact⟨q,hq,e2,fun d h1 h2=>hcl j hj (by omega) q hq (e.trans e2) d h1 h2⟩) _ q hq (Nat.le_refl _)
  walk_at "vi"
  refine Zc5 (ds:=met.map tI) (by exact ZbN tI met) ?_
  rw[List.length_map]
  exact⟨_,Zbz rfl,M,st,fi,met.length,rfl,fun R0 G hL hB=>⟨fun h=>Zjj hC hP hL hB hb hz hS nd hW h,fun hB2=>Nat.lt_of_not_le fun h=>Zjk hC hP hL hB hb hz hS all h hB2⟩,rfl⟩
theorem Zeg{Q:TV→Prop}{X:Exc→Prop}{M:Mach}{s f:Int}{b:Int}(hbb:b=bs M)(hP:Parts 1 64 M)(hb:2≤bs M∧bs M≤5)(hz:Zz M)(hS:GoodS s f)(q:∀ n:Nat,(∀ R0 G,LotsM M R0→Rb M R0 G→(100<n↔BigX (thSp (outM M R0 G) s f)))→Q (.av (.d (.int n)))):ClR Zjm Zgs NP [] Q X [.av (.d (dM M)),.av (.d (.int b)),.av (.d (.int s)),.av (.d (.int f))]:=by
 subst hbb
 exact⟨[.d (dM M),.d (.int (bs M)),.d (.int s),.d (.int f)],.cons (.d NR.av rfl) (.cons (.d NR.av rfl) (.cons (.d NR.av rfl) (.cons (.d NR.av rfl) .nil))),⟨M,s,f,rfl,hP,hb,hz,hS⟩,fun c ⟨M',s',f',n,e,h1,ec⟩=>by
  simp only[List.append_nil,List.cons.injEq,AV.d.injEq,PyData.int.injEq,and_true] at e
  obtain⟨e1,_,e2,e3⟩:=e
  have e1:=Zb5 e1
  subst e1 e2 e3 ec
  exact⟨_,Got.own rfl,q n h1⟩,fun _ z=>z.elim⟩
noncomputable def dON:Option Int→PyData
 | none=>.none
 | some k=>.int k
theorem Zl7{a b:Option Int}(h:dON a=dON b):a=b:=by
 cases a<;>cases b<;>simp[dON] at h ⊢
 exact h
noncomputable def dAs:Option Mach→PyData
 | none=>.tuple [.none,.bool true]
 | some M=>.tuple [dM M,.bool false]
theorem Zke(o:Option Mach):noLst (dAs o)=true:=by cases o with|none=>rfl|some M=>have h:=ZbT M;simp[dAs,noLst,noLsts] at h ⊢;exact h
noncomputable def AsO(M:Mach)(s f:Int)(o:Option Mach):Prop:=(SpBig M s f∧o=none)∨∃ N,SpOut M s f N∧o=some N
noncomputable def Zjn(cs:List AV):Prop:=∃ (M:Mach) (s:Int) (f:Option Int),cs=[.d (dM M),.d (.int s),.d (dON f)]∧Parts 1 64 M∧GoodB M∧GoodS s (f.getD 0)
noncomputable def Zgt(cs:List AV)(c:AV):Prop:=∃ (M:Mach) (s:Int) (f:Option Int) (o:Option Mach),cs=[.d (dM M),.d (.int s),.d (dON f)]∧AsO M s (f.getD 0) o∧c=.d (dAs o)
section
variable{C_WheelError C_NoBase C_TooGreat C_NotLike C_NoStep:Addr}
theorem Zkf(T:Txt K mg)(Z:Cs K mg C_WheelError C_NoBase C_TooGreat C_NotLike C_NoStep)(B:base.BuiltinsAt mg mainGlobals)(hTs:∀ p∈ts0,p∈Tabs.ts):Cal P w K mg base (CXE P w) 8 "_law_asked" ["_law_machine_here", "_law_step", "_law_first"] [] (spR K Zjn Zgt NP):=by
 have c_spaced:Cal P w K mg base (CXE P w) 7 "spaced" ["row", "step", "first"] [] (spR K ZfT Zec (Zi5 C_NoBase C_NoStep C_TooGreat)):=ZeE T Z B hTs [] (by simp)
 have c_spaced_d:Cal P w K mg base (CXE P w) 7 "spaced" ["row", "step", "first"] [.int 0] (spR K ZfT Zec (Zi5 C_NoBase C_NoStep C_TooGreat)):=ZeE T Z B hTs [.int 0] (by simp)
 refine valR T.x_law_asked ZaZ (fun cs ⟨M,s,f,e,_⟩=>by rw[e];rfl) (fun f0 cdv A outer s0 H E hr=>?_) [] (by simp)
 refine⟨_,(Zab (Zag (i:=3) ZaZ.nd rfl (Or.inl rfl) Zfb)
   (Zab (Zag (i:=4) ZaZ.nd rfl (Or.inl rfl) Zek)
   (Zab (ZjJ (i:=5) rfl rfl ZaZ.nd rfl rfl rfl Z.c_TooGreat
    (fun _ _=>(Zae (Zag (i:=3) ZaZ.nd rfl (Or.inl rfl) (Zjq (Zas Zkm (pv 2) Zfb (nomark _)) (ZcN (c_spaced_d.mono (by decide)) hr rfl (Zaa (pv 0) (Zaa (pv 1) Zac))) (ZcN (c_spaced.mono (by decide)) hr rfl (Zaa (pv 0) (Zaa (pv 1) (Zaa (pv 2) Zac))))))))
    (fun _ _=>(Zab (Zag (i:=4) ZaZ.nd rfl (Or.inl rfl) (Zer (Zah (Zdr (K:=K) rfl) rfl T.n_isinstance PyProof.Rows.boot_isinstance (Zaa (pv 5) (Zaa (ZdM (v:=.ref C_WheelError) rfl Z.c_WheelError rfl) Zac))) (Zfc (Zah (Zdr (K:=K) rfl) rfl T.n_isinstance PyProof.Rows.boot_isinstance (Zaa (pv 5) (Zaa (ZcK (v:=.ty "ValueError") rfl T.n_ValueError L2.ZdX rfl) Zac))))))
    (Zae (Zag (i:=4) ZaZ.nd rfl (Or.inl rfl) (Zer (pv 4) (Zfc (Zkj (Zah (Zdr (K:=K) rfl) rfl T.n_isinstance PyProof.Rows.boot_isinstance (Zaa (pv 5) (Zaa (ZcW (Zaa (ZdM (v:=.ref C_NoStep) rfl Z.c_NoStep rfl) (Zaa (ZdM (v:=.ref C_NoBase) rfl Z.c_NoBase rfl) (Zaa (ZdM (v:=.ref C_NotLike) rfl Z.c_NotLike rfl) Zac)))) Zac)))))))))))
   (Zae (Zaw (ZcW (Zaa (pv 3) (Zaa (pv 4) Zac)))))))),?_⟩
 rintro cs ⟨M,s,f,rfl,hP,gM,gS⟩
 show Sv K _ _ _ [some (.d (dM M)),some (.d (.int s)),some (.d (dON f)),none,none,none] _
 have hx:∀ e,Rf C_NoBase C_NoStep C_TooGreat M s (f.getD 0) e→SpBig M s (f.getD 0)∧e=⟨C_TooGreat,[]⟩:=fun e h=>by
  rcases h with⟨h,_⟩|⟨_,h,_⟩|⟨_,_,h,e⟩
  ·have g1:=gM.1
   have g2:=gM.2
   rcases h with h|h<;>omega
  ·exact absurd gS h
  ·exact⟨h,e⟩
 walk_at "vs"
 refine ZjK (X':=fun e ρ=>(SpBig M s (f.getD 0)∧e=⟨C_TooGreat,[]⟩)∧ρ=[some (.d (dM M)),some (.d (.int s)),some (.d (dON f)),some (.d .none),some (.d (.bool false)),none]) (fun F'=>?_) ?_
 ·cases f with
  | none =>
   walk_at "vs"
   refine is_N (by rfl) ?_
   walk_at "vs"
   refine ZfU hP (fun N _ _ h=>?_) fun e h=>⟨hx e h,rfl⟩
   walk_at "vs"
   refine Zc3 ?_
   walk_at "vs"
   refine⟨[.d (dM N),.d (.bool false)],.cons rfl (.cons rfl .nil),by show 2≤1000;decide,?_⟩
   exact⟨_,Zbz rfl,M,s,none,some N,rfl,.inr ⟨N,h,rfl⟩,rfl⟩
  | some f =>
   walk_at "vs"
   refine is_S (by rfl) ?_
   walk_at "vs"
   refine Zhu hP (fun N _ _ h=>?_) fun e h=>⟨hx e h,rfl⟩
   walk_at "vs"
   refine Zc3 ?_
   walk_at "vs"
   refine⟨[.d (dM N),.d (.bool false)],.cons rfl (.cons rfl .nil),by show 2≤1000;decide,?_⟩
   exact⟨_,Zbz rfl,M,s,some f,some N,rfl,.inr ⟨N,h,rfl⟩,rfl⟩
 ·rintro e ρ' ⟨⟨hb,rfl⟩,rfl⟩
  refine⟨Z.m_TooGreat,rfl,by simp,?_⟩
  show Sv K _ _ _ [some (.d (dM M)),some (.d (.int s)),some (.d (dON f)),some (.d .none),some (.d (.bool false)),some (.d (dX ⟨C_TooGreat,[]⟩))] _
  walk_at "vs"
  refine ZmE ?_
  walk_at "vs"
  refine Zip Z.k_TooGreat rfl Z.i_we ?_
  walk_at "vs"
  refine Zip Z.k_TooGreat rfl Z.i_val ?_
  walk_at "v"
  walk_at "v"
  walk_at "v"
  walk_at "v"
  walk_at "v"
  walk_at "v"
  walk_at "v"
  refine Zlr (i:=5) (e:=⟨C_TooGreat,[]⟩) (cs:=[.ref C_NoStep,.ref C_NoBase,.ref C_NotLike]) (cvs:=[.ref C_NoStep,.ref C_NoBase,.ref C_NotLike]) (by rfl) (.cons (.cons (.cons .nil))) (.cons rfl (.cons rfl (.cons rfl .nil))) (by simp) Z.k_TooGreat Z.i_no ?_
  walk_at "vs"
  simp only[List.set_cons_succ,List.set_cons_zero]
  walk_at "vs"
  refine Zc3 ?_
  walk_at "vs"
  refine⟨[.d .none,.d (.bool true)],.cons rfl (.cons rfl .nil),by show 2≤1000;decide,?_⟩
  exact⟨_,Zbz rfl,M,s,f,none,rfl,.inl ⟨hb,rfl⟩,rfl⟩
end
theorem Zeh{Q:TV→Prop}{X:Exc→Prop}{M:Mach}{s:Int}{f:Option Int}{a:TV}(na:NR a)(ha:a.data=dON f)(hP:Parts 1 64 M)(gM:GoodB M)(gS:GoodS s (f.getD 0))(q:∀ o,AsO M s (f.getD 0) o→Q (.av (.d (dAs o)))):ClR Zjn Zgt NP [] Q X [.av (.d (dM M)),.av (.d (.int s)),a] :=
 ⟨[.d (dM M),.d (.int s),.d (dON f)],.cons (.d NR.av rfl) (.cons (.d NR.av rfl) (.cons (.d na ha) .nil)),⟨M,s,f,rfl,hP,gM,gS⟩,fun c ⟨M',s',f',o,e,h,ec⟩=>by
  simp only[List.append_nil,List.cons.injEq,AV.d.injEq,PyData.int.injEq,and_true] at e
  obtain⟨e1,rfl,e3⟩:=e
  have e1:=Zb5 e1
  have e3:=Zl7 e3
  subst e1 e3 ec
  exact⟨_,Got.own (Zke o),q o h⟩,fun _ z=>z.elim⟩
theorem Zjo:Enc dAs 4:=by
 refine⟨fun a b=>?_,fun a=>?_,fun a=>?_⟩
 ·cases a with
  | none=>cases b with
   | none=>simp[dAs,PyData.eqv,PyData.eqvAll]
   | some N=>simp[dAs,PyData.eqv,PyData.eqvAll]
  | some M=>cases b with
   | none=>simp[dAs,PyData.eqv,PyData.eqvAll]
   | some N =>
    have:=Mach.enc.eqv M N
    simp only[dAs,PyData.eqv,PyData.eqvAll,Bool.and_true,Bool.and_eq_true,beq_self_eq_true,and_true,Option.some.injEq] at this ⊢
    exact this
 ·cases a with
  | none=>simp[dAs,PyData.canLay0,PyData.canLayAll0]
  | some M =>
   have:=Mach.enc.lay M
   simp only[dAs,PyData.canLay0,PyData.canLayAll0,Bool.and_true] at this ⊢
   exact this
 ·cases a with
  | none=>simp[dAs,PyData.depth,PyData.depthAll]
  | some M =>
   have:=Mach.enc.dep M
   simp only[dAs,PyData.depth,PyData.depthAll] at this ⊢
   omega
theorem Zl8{N:Mach}{s f:Int}{F:List (List Int)}(hX:MetX (thSp N s f) F):¬ BigX (thSp N s f):=by
 rintro⟨G,nd,u,hm⟩
 have hl:=Zdh (U:=F) nd fun x hx=>by
  obtain⟨_,w,hw,e⟩:=u x hx
  rw[e]
  exact (Zgk (sg:=fun _=>0) hX w hw).1
 have:=hX.le
 omega
theorem AsO.big{M:Mach}{s f:Int}{o:Option Mach}{n:Nat}(h:AsO M s f o)(hn:∀ R0 G,LotsM M R0→Rb M R0 G→(100<n↔BigX (thSp (outM M R0 G) s f)))(k:100<n):o=none:=by
 rcases h with⟨_,e⟩|⟨N,⟨R,G,F,R',G',hL,hB,hX,_⟩,e⟩
 ·exact e
 ·exact absurd ((hn R G hL hB).mp k) (Zl8 hX)
theorem AsO.small{M:Mach}{s f:Int}{o:Option Mach}{n:Nat}(h:AsO M s f o)(hn:∀ R0 G,LotsM M R0→Rb M R0 G→(100<n↔BigX (thSp (outM M R0 G) s f)))(k:¬ 100<n):∃ N,SpOut M s f N∧o=some N:=by
 rcases h with⟨⟨R,G,hL,hB,b⟩,_⟩|h
 ·exact absurd ((hn R G hL hB).mpr b) k
 ·exact h
theorem Zl9{M N N':Mach}{s f:Int}(gM:2≤bs M∧bs M≤5)(z:Zz M)(hS:GoodS s f)(h:SpOut M s f N)(h':SpOut M s f N'):N=N':=by
 obtain⟨l1,b1,_,_,t1⟩:=h.tell gM hS z
 obtain⟨l2,b2,_,_,t2⟩:=h'.tell gM hS z
 refine Zj8 l1 l2 (by have e:((ltr N:Nat):Int)=((ltr N':Nat):Int):=b1.trans b2.symm;omega) fun w hw=>?_
 rw[b1] at hw
 rw[t1 w hw,t2 w hw]
theorem pl41{p:Int}(h0:0≤p)(h1:p<10 ^ 43):0≤p∧p.toNat<2 ^ 900:=by
 have:(10:Nat) ^ 43<2 ^ 900:=by decide
 refine⟨h0,?_⟩
 omega
theorem ZnV(T:Txt K mg)(B:base.BuiltinsAt mg mainGlobals)(hTs:∀ p∈ts0,p∈Tabs.ts){f:Addr}{fd:FuncData}(F:FunD K "law" "law" ZfL .none f fd):FnOk P w K mg base (CXE P w) 10 f fd ["_law_script"] (Zd2 K):=by
 obtain⟨C_WheelError,C_NoBase,C_TooGreat,C_NotLike,C_NoStep,Z⟩:=T.cs
 have c_law_cell:Cal P w K mg base (CXE P w) 1 "_law_cell" ["_law_script", "_law_k"] [] (spR K ZdL (fun _=>PostN) NP):=Zjc T
 have c_law_machine:Cal P w K mg base (CXE P w) 2 "_law_machine" ["_law_script", "_law_at", "_law_base", "_law_many", "_law_width"] [] (spR K Zjd Zgo NP):=Zhv T
 have c_law_twice:Cal P w K mg base (CXE P w) 1 "_law_twice" ["_law_machine_here"] [] (spR K Zje Zgr NP):=Zkc T
 have c_law_asked:Cal P w K mg base (CXE P w) 8 "_law_asked" ["_law_machine_here", "_law_step", "_law_first"] [] (spR K Zjn Zgt NP):=Zkf T Z B hTs
 have c_law_windows:Cal P w K mg base (CXE P w) 2 "_law_windows" ["_law_machine_here", "_law_base", "_law_step", "_law_first"] [] (spR K Zjm Zgs NP):=Zhx T
 have c_law_is_least:Cal P w K mg base (CXE P w) 2 "_law_is_least" ["_law_found", "_law_letters"] [] (spR K Zjb (fun _ c=>c=.d (.bool true)) NP):=Zgn T
 have c_law_sign:Cal P w K mg base (CXE P w) 1 "_law_sign" ["_law_machine_here", "_law_base", "_law_place"] [] (spV K S_sg NX):=Zgq T
 refine ZjP (k:=9) F ZbR rfl fun cdv A outer s H E hr=>?_
 refine⟨_,(Zab (Zag (i:=1) ZbR.nd rfl (Or.inl rfl) (ZaC (c_law_cell.mono (by decide)) hr rfl passE (Zaa (pv 0) (Zaa Zad Zac))))
   (Zab (Zag (i:=2) ZbR.nd rfl (Or.inl rfl) (Zan (ZaA (K:=K) rfl) Zad (Zan ZaU (pv 1) Zad)))
   (Zab (Zag (i:=3) ZbR.nd rfl (Or.inl rfl) (ZaC (c_law_machine.mono (by decide)) hr rfl passE (Zaa (pv 0) (Zaa Zad (Zaa (pv 2) (Zaa (Zan (ZaA (K:=K) rfl) Zad (Zan ZaU (Zan Za7 (pv 1) Zad) Zad)) (Zaa (Zan (ZaA (K:=K) rfl) Zad (Zan ZaU (Zan Za7 (pv 1) Zad) Zad)) Zac)))))))
   (Zab (Zdz (Zas (ZcF (K:=K) rfl hr.units) (Zan ZaU (Zan Za7 (pv 1) Zad) Zad) Zad (nomark _))
    (Zae (Zag (i:=3) ZbR.nd rfl (Or.inl rfl) (ZaC (c_law_twice.mono (by decide)) hr rfl passE (Zaa (pv 3) Zac))))
    ZaO)
   (Zab (Zag (i:=4) ZbR.nd rfl (Or.inl rfl) (Zan (ZaA (K:=K) rfl) Zad (Zan ZaU (Zan Za7 (ZaC (c_law_cell.mono (by decide)) hr rfl passE (Zaa (pv 0) (Zaa Zad Zac))) Zad) Zad)))
   (Zab (Zag (i:=5) ZbR.nd rfl (Or.inl rfl) (Zan ZaU (Zan Za7 (ZaC (c_law_cell.mono (by decide)) hr rfl passE (Zaa (pv 0) (Zaa Zad Zac))) Zad) Zad))
   (Zab (Zdz (Zas (ZcF (K:=K) rfl hr.units) (Zan ZaU (ZaC (c_law_cell.mono (by decide)) hr rfl passE (Zaa (pv 0) (Zaa Zad Zac))) Zad) Zad (nomark _))
    (Zab (Zag (i:=4) ZbR.nd rfl (Or.inl rfl) (Zan (ZaA (K:=K) rfl) Zad (Zan ZaU (Zan Za7 (ZaC (c_law_cell.mono (by decide)) hr rfl passE (Zaa (pv 0) (Zaa Zad Zac))) Zad) Zad)))
    (Zae (Zag (i:=5) ZbR.nd rfl (Or.inl rfl) (Zan ZaU (Zan Za7 (ZaC (c_law_cell.mono (by decide)) hr rfl passE (Zaa (pv 0) (Zaa Zad Zac))) Zad) Zad))))
    ZaO)
   (Zab (Zag (i:=6) ZbR.nd rfl (Or.inl rfl) (pv 5))
   (Zab (Zdz (PW.pt (Zki (Zas (ZcF (K:=K) rfl hr.units) (pv 5) Zad (nomark _)) (ZhC (Zas (ZcF (K:=K) rfl hr.units) (Zan ZaU (Zan Za7 (pv 1) Zad) Zad) Zad (nomark _)))))
    (Zae (Zag (i:=6) ZbR.nd rfl (Or.inl rfl) Zfb))
    ZaO)
   (Zab (ZdN (ZaC (c_law_asked.mono (by decide)) hr rfl passE (Zaa (pv 3) (Zaa (pv 4) (Zaa (pv 6) Zac)))) (Zdp (K:=K) (n:=2) rfl rfl (Za5 (Zal (i:=7) ZbR.nd rfl (Or.inl rfl)) (Za5 (Zal (i:=8) ZbR.nd rfl (Or.inl rfl)) Zdm))))
   (Zab (Zdl (Zas ZeJ (ZaC (c_law_windows.mono (by decide)) hr rfl passE (Zaa (pv 3) (Zaa (pv 2) (Zaa (pv 4) (Zaa (pv 5) Zac))))) Zad (nomark _))
    (Zae (Zaw (Zer (Zdn Zkm (pv 7) Zfb (nomark _)) (Zer (pv 8) (Zfc (Zdn (ZcF (K:=K) rfl hr.units) (ZaC (c_law_asked.mono (by decide)) hr rfl passE (Zaa (pv 3) (Zaa (pv 4) (Zaa (pv 6) Zac)))) (ZcW (Zaa Zfb (Zaa Zek Zac))) (nomark _)))))))
    ZaO)
   (Zab (Zdl (PW.pt (Zdk (Zdw (pv 8)) (Zdx (ZcV (Zdw (ZaC (c_law_is_least.mono (by decide)) hr rfl passE (Zaa (pv 7) (Zaa (pv 2) Zac))))))))
    (Zae (Zaw Zek))
    ZaO)
   (Zab (Zbp PassesOwn.never rfl (ZbE (K:=K) rfl (Zan (ZaA (K:=K) rfl) (ZfE rfl rfl T.n_list rfl T.n_range (Zaa Zad Zac)) (Zbc (N:=["_law_k", "_law_script"]) (cap:=[none,some 0]) rfl rfl rfl (by kernel_rfl) (ZhE rfl T.n_range (Zaa Zad (Zaa Zad Zac))) (fun _ _ _ _=>(Zal (i:=0) (show (["_law_k", "_law_script"]:List Str).Nodup from by decide +kernel) rfl (Or.inl rfl))) (fun _ _ _ _=>ZaM) (fun _ _ _ _=>(Zan ZaU (ZaC (c_law_cell.mono (by decide)) hr rfl passE (Zaa (pv 1) (Zaa (pv 0) Zac))) (Zan Zmj Zad Zad)))))) (Zal (i:=9) ZbR.nd rfl (Or.inl rfl))
    (Zae (Zdl (Zas (Zid (K:=K) rfl hr.units) (ZaC (c_law_sign.mono (by decide)) hr rfl passE (Zaa (pv 7) (Zaa (pv 2) (Zaa (pv 9) Zac)))) (ZaC (c_law_sign.mono (by decide)) hr rfl passE (Zaa (pv 3) (Zaa (pv 2) (Zaa (Zan (ZaA (K:=K) rfl) (Zan Zby (pv 4) (pv 9)) (pv 5)) Zac)))) (nomark _))
     (Zae (Zaw Zek))
     ZaO)))
   (Zae (Zaw (Zdn (ZcF (K:=K) rfl hr.units) (ZaC (c_law_asked.mono (by decide)) hr rfl passE (Zaa (pv 3) (Zaa (pv 4) (Zaa (pv 6) Zac)))) (ZcW (Zaa (pv 7) (Zaa Zek Zac))) (nomark _))))))))))))))))),?_⟩
 intro ns hn hbits
 show Sv K _ _ _ [some (.d (dI ns)),none,none,none,none,none,none,none,none,none] _
 walk_at "vi"
 refine ZbC (by decide) fun hd h0=>?_
 walk_at "vi"
 have hb:2≤2+hd%4∧2+hd%4≤5:=by omega
 generalize 2+hd%4=b at hb
 walk_at "vi"
 have hr1:1≤1+hd / 4%6∧1+hd / 4%6≤6:=by omega
 have hm1:1≤2+hd / 24%9∧2+hd / 24%9≤10:=by omega
 generalize 1+hd / 4%6=r at hr1
 generalize 2+hd / 24%9=m at hm1
 refine Zgp (by decide) (by omega) (by omega) hm1 fun M0 gM=>?_
 walk_at "vi"
 refine Zf6 (fun ρ=>∃ M:Mach,ρ=[some (.d (dI ns)),some (.d (.int hd)),some (.d (.int b)),some (.d (dM M)),none,none,none,none,none,none]∧Parts 1 64 M∧bs M=b∧Zz M) ?_ ?_
 case refine_2 =>
  have hP0:Parts 1 64 M0:=gM.parts (by omega) (by omega) (by omega)
  have hM0:bs M0=b:=(gM.ok (by omega) (by omega)).2
  have hl0:M0.rows.length≤50:=by have:=gM.n;omega
  walk_at "vi"
  refine ite2 (fun _=>?_) fun _=>?_
  ·walk_at "vi"
   refine Zjf hP0 hl0 gM.z fun N hN hl hz=>?_
   walk_at "vi"
   exact⟨N,rfl,hN,by rw[← hM0];show ((ltr N:Nat):Int)=((ltr M0:Nat):Int);rw[hl],hz⟩
  ·walk_at "vi"
   exact⟨M0,rfl,hP0,hM0,gM.z⟩
 rintro ρ ⟨M,rfl,hP,hMl,zM⟩
 clear gM hr1 hm1
 subst hMl
 have gB:GoodB M:=hb
 walk_at "vi"
 refine ZbC (by decide) fun c1 h1=>?_
 walk_at "vi"
 refine ZbC (by decide) fun c2 h2=>?_
 walk_at "vi"
 refine Zf6 (fun ρ=>∃ st fi:Int,ρ=[some (.d (dI ns)),some (.d (.int hd)),some (.d (.int (bs M))),some (.d (dM M)),some (.d (.int st)),some (.d (.int fi)),none,none,none,none]∧GoodS st fi) ?_ ?_
 case refine_2 =>
  walk_at "vi"
  refine ZbC (by decide) fun c3 h3=>?_
  walk_at "vi"
  refine ite2 (fun _=>?_) fun _=>?_
  ·walk_at "vi"
   refine ZbC (by decide) fun c4 h4=>?_
   walk_at "vi"
   refine ZbC (by decide) fun c5 h5=>?_
   walk_at "vi"
   exact⟨_,_,rfl,by omega,by omega,by omega,by omega⟩
  ·walk_at "vi"
   exact⟨_,_,rfl,by omega,by omega,by omega,by omega⟩
 rintro ρ ⟨st,fi,rfl,hS⟩
 have hS1:=hS.1
 have hS2:=hS.2.1
 have hS3:=hS.2.2.1
 have hS4:=hS.2.2.2
 walk_at "vi"
 refine Zf6 (fun ρ=>∃ hf:Option Int,ρ=[some (.d (dI ns)),some (.d (.int hd)),some (.d (.int (bs M))),some (.d (dM M)),some (.d (.int st)),some (.d (.int fi)),some (.d (dON hf)),none,none,none]∧hf.getD 0=fi) ?_ ?_
 case refine_2 =>
  walk_at "vi"
  refine ite2 (fun e=>?_) fun _=>?_
  ·have e:=of_decide_eq_true e
   walk_at "vi"
   refine ite2 (fun _=>?_) fun _=>?_
   ·walk_at "vi"
    exact⟨none,rfl,e.symm⟩
   ·walk_at "vi"
    exact⟨some fi,rfl,rfl⟩
  ·walk_at "vi"
   exact⟨some fi,rfl,rfl⟩
 rintro ρ ⟨hf,rfl,hff⟩
 have hSf:GoodS st (hf.getD 0):=by rw[hff];exact hS
 walk_at "vi"
 refine Zja ?_
 walk_at "vi"
 refine Zeh NR.av rfl hP gB hSf fun o ho=>?_
 rw[hff] at ho
 refine⟨_,rfl,?_⟩
 have key:∀ n:Nat,(∀ R0 G,LotsM M R0→Rb M R0 G→(100<n↔BigX (thSp (outM M R0 G) st fi)))→(100<n∧o=none)∨(¬ 100<n∧∃ N,SpOut M st fi N∧o=some N):=fun n hn'=>by
  by_cases k:100<n
  ·exact .inl ⟨k,ho.big hn' k⟩
  ·exact .inr ⟨k,ho.small hn' k⟩
 cases o with
 | none =>
  refine ZcO ?_
  walk_at "vs"
  refine Zeg rfl hP hb zM hS fun n hnn=>?_
  have k:100<n:=by
   rcases key n hnn with⟨k,_⟩|⟨_,N,_,e⟩
   ·exact k
   ·exact absurd e (by simp)
  walk_at "vs"
  rw[decide_eq_true (show (100:Int)<n by omega)]
  walk_at "vs"
  refine is_N (by rfl) ?_
  walk_at "vs"
  refine Zeh NR.av rfl hP gB hSf fun o' ho'=>?_
  rw[hff] at ho'
  have e:=ho'.big hnn k
  subst e
  walk_at "vs"
  refine Zc3 ?_
  walk_at "vs"
  refine⟨[.d .none,.d (.bool true)],.cons rfl (.cons rfl .nil),by show 2≤1000;decide,?_⟩
  refine eq_d (f:=dAs) (c:=none) (d:=none) Zjo rfl rfl ?_
  exact Zbz rfl
 | some N =>
  refine ZcO ?_
  walk_at "vs"
  refine Zeg rfl hP hb zM hS fun n hnn=>?_
  obtain⟨k,N',hN,e⟩:¬ 100<n∧∃ N',SpOut M st fi N'∧some N=some N':=by
   rcases key n hnn with⟨_,e⟩|h
   ·exact absurd e (by simp)
   ·exact h
  cases e
  obtain⟨l1,b1,hPN,zN,t1⟩:=hN.tell hb hS zM
  walk_at "vs"
  rw[decide_eq_false (show ¬ (100:Int)<n by omega)]
  walk_at "vs"
  refine ZfW l1.n zN b1.symm ?_
  walk_at "vs"
  refine Zif (α:=Int) ?_
  walk_at "vs"
  refine ZlF ?_
  walk_at "vs"
  refine⟨16,rfl,⟨by decide,by decide⟩,?_⟩
  walk_at "vs"
  refine ZdK (Zle ?_)
  walk_at "vs"
  refine⟨10,30,rfl,by decide,by decide,fun n ys=>∃ xs:List Int,ys=xs.map (fun k=>.d (.int k))∧xs.length=n∧∀ x∈xs,0≤x∧x<10 ^ 41,⟨[],rfl,rfl,by simp⟩,?_,?_⟩
  ·rintro i ys hi ⟨xs,rfl,x1,x2⟩
   have hi:i<20:=hi
   show Gv K _ _ [none,some (.d (dI ns))] _
   walk_at "vs"
   refine⟨wk_0,ZeR ?_⟩
   walk_at "vs"
   refine ZbC (by omega) fun c2 _=>?_
   walk_at "vs"
   refine op_i (show (0:Int)<10 ^ Int.toNat 41 by decide) ?_
   refine⟨_,rfl,xs++[_],by rw[List.map_append];rfl,by simp[x1],fun x hx=>?_⟩
   rcases List.mem_append.mp hx with hx|hx
   ·exact x2 x hx
   ·rw[List.mem_singleton.mp hx]
    exact⟨Int.emod_nonneg _ (by decide),Int.emod_lt_of_pos _ (by decide)⟩
  rintro ys ⟨xs,rfl,x1,x2⟩
  refine⟨_,Got.own (ZbB xs),?_⟩
  walk_at "vs"
  refine ZnR (xs:=rgI (16:Int).toNat) (ys:=xs) (Zay _) (Zay _) NR.av NR.av (by rw[show (rgI (16:Int).toNat).length=16 from rfl,x1];decide) ?_
  generalize hps:rgI (16:Int).toNat++xs=ps
  have hpin:∀ p∈ps,0≤p∧p<10 ^ 41:=fun p hp=>by
   rw[← hps] at hp
   rcases List.mem_append.mp hp with hp|hp
   ·obtain⟨a,ha,rfl⟩:=List.mem_map.mp hp
    have:=List.mem_range.mp ha
    have h40:(16:Int).toNat=16:=rfl
    rw[h40] at this
    exact⟨by omega,by omega⟩
   ·exact x2 p hp
  refine⟨ps,PyData.int,.inl (Zay ps),⟨_,rfl⟩,fun i ρ=>∃ o',ρ=[some (.d (dI ns)),some (.d (.int hd)),some (.d (.int (bs M))),some (.d (dM M)),some (.d (.int st)),some (.d (.int fi)),some (.d (dON hf)),some (.d (dM N)),some (.d (.bool false)),o'],⟨none,rfl⟩,?_,?_⟩
  ·rintro i ρ hi ⟨o',rfl⟩
   have hp:=hpin _ (List.getElem_mem hi)
   generalize ps[i]=p at hp
   have hq0:0≤st*p:=Int.mul_nonneg (by omega) hp.1
   have hq1:st*p≤12*p:=Int.mul_le_mul_of_nonneg_right hS2 hp.1
   have hsame:sgw N (figs (bs N) p)=sgw M (figs (bs M) (st*p+fi)):=by
    have:=t1 (figs (bs M) p) (fun x hx=>Zcr hb x hx)
    rw[ZgA hb.1 hb.2 hp.1] at this
    rw[b1]
    exact this
   walk_at "vs"
   refine ZkK hPN b1.symm (by rw[b1];exact hb) (pl41 hp.1 (by omega)) ?_
   walk_at "vs"
   refine ZkK hP rfl hb (pl41 (by omega) (by omega)) ?_
   rw[hsame]
   walk_at "vs"
   rw[decide_eq_true rfl]
   walk_at "vs"
   exact⟨_,rfl⟩
  rintro ρ ⟨o',rfl⟩
  walk_at "vs"
  refine Zeh NR.av rfl hP gB hSf fun o' ho'=>?_
  rw[hff] at ho'
  obtain⟨N',hN',e⟩:=ho'.small hnn k
  have e2:=Zl9 hb zM hS hN hN'
  subst e2 e
  walk_at "vs"
  refine Zc3 ?_
  walk_at "vs"
  refine⟨[.d (dM N),.d (.bool false)],.cons rfl (.cons rfl .nil),by show 2≤1000;decide,?_⟩
  refine eq_d (f:=dAs) (c:=some N) (d:=some N) Zjo rfl rfl ?_
  rw[decide_eq_true rfl]
  exact Zbz rfl
end
noncomputable instance tabs0:Tabs:=⟨ts0⟩
theorem Zo0{P:List Value→Prop}(h:P []):∀ us,us.length=0→P us:=fun us e=>(List.eq_nil_of_length_eq_zero e).symm▸h
theorem Zjp{P:List Value→Prop}{n:Nat}(h:∀ a us,us.length=n→P (a::us))(us:List Value)(e:us.length=n+1):P us:=by
  cases us with
  | nil=>cases e
  | cons a us=>exact h a us (Nat.succ.inj e)
theorem Ze8{P:List Value→Prop}(h:∀ a0,P [a0]):∀ us,us.length=1→P us:=Zjp fun a0=>Zo0 (P:=fun us=>P (a0::us)) (h a0)
theorem Ze9{P:List Value→Prop}(h:∀ a0 a1,P [a0,a1]):∀ us,us.length=2→P us:=Zjp fun a0=>Ze8 (P:=fun us=>P (a0::us)) (h a0)
theorem Zkg{P:List Value→Prop}(h:∀ a0 a1 a2,P [a0,a1,a2]):∀ us,us.length=3→P us:=Zjp fun a0=>Ze9 (P:=fun us=>P (a0::us)) (h a0)
theorem Zma{P:List Value→Prop}(h:∀ a0 a1 a2 a3,P [a0,a1,a2,a3]):∀ us,us.length=4→P us:=Zjp fun a0=>Zkg (P:=fun us=>P (a0::us)) (h a0)
theorem Zmb{P:List Value→Prop}(h:∀ a0 a1 a2 a3 a4,P [a0,a1,a2,a3,a4]):∀ us,us.length=5→P us:=Zjp fun a0=>Zma (P:=fun us=>P (a0::us)) (h a0)
theorem ZnW:∀ (us:List Value),us.length=1→∃ a0,us=[a0]:=Ze8 fun a0=>⟨a0,rfl⟩
theorem ZkM:∀ (us:List Value),us.length=2→∃ a0 a1,us=[a0,a1]:=Ze9 fun a0 a1=>⟨a0,a1,rfl⟩
theorem ZnX:∀ (us:List Value),us.length=3→∃ a0 a1 a2,us=[a0,a1,a2]:=Zkg fun a0 a1 a2=>⟨a0,a1,a2,rfl⟩
theorem ZnY{l:PySem.W.OpenLaw}{w:World}{K:W.Frag}{h:Heap}{mg:Str→Option Value}{fa:Addr}(X:K.In h)(G:h.Ns mainGlobals mg)(hfa:mg "law" = some (.ref fa))
  {t_LEAST_BASE:Tok} (g_LEAST_BASE:PySem.W.nsIn K mainGlobals "LEAST_BASE" = some (some (.int 2 t_LEAST_BASE)))
  {t_GREATEST_BASE:Tok} (g_GREATEST_BASE:PySem.W.nsIn K mainGlobals "GREATEST_BASE" = some (some (.int 5 t_GREATEST_BASE)))
  {t_MOST_ROOMS:Tok} (g_MOST_ROOMS:PySem.W.nsIn K mainGlobals "MOST_ROOMS" = some (some (.int 100 t_MOST_ROOMS)))
  {t_GREATEST_STEP:Tok} (g_GREATEST_STEP:PySem.W.nsIn K mainGlobals "GREATEST_STEP" = some (some (.int 12 t_GREATEST_STEP)))
  {t_GREATEST_FIRST:Tok} (g_GREATEST_FIRST:PySem.W.nsIn K mainGlobals "GREATEST_FIRST" = some (some (.int 24 t_GREATEST_FIRST)))
  (z_ValueError:PySem.W.nsIn K mainGlobals "ValueError" = some none)
  (z_all:PySem.W.nsIn K mainGlobals "all" = some none)
  (z_bool:PySem.W.nsIn K mainGlobals "bool" = some none)
  (z_enumerate:PySem.W.nsIn K mainGlobals "enumerate" = some none)
  (z_int:PySem.W.nsIn K mainGlobals "int" = some none)
  (z_isinstance:PySem.W.nsIn K mainGlobals "isinstance" = some none)
  (z_len:PySem.W.nsIn K mainGlobals "len" = some none)
  (z_list:PySem.W.nsIn K mainGlobals "list" = some none)
  (z_max:PySem.W.nsIn K mainGlobals "max" = some none)
  (z_range:PySem.W.nsIn K mainGlobals "range" = some none)
  (z_reversed:PySem.W.nsIn K mainGlobals "reversed" = some none)
  (z_set:PySem.W.nsIn K mainGlobals "set" = some none)
  (z_tuple:PySem.W.nsIn K mainGlobals "tuple" = some none)
  {f0:Addr} {oc0 kV0 dc0 pm0 cd0 ct0:Value} {od0 an0:Option Addr} {sl0:Array (Option Value)}
  (a0:PySem.W.nsIn K mainGlobals "want_base" = some (some (.ref f0))) (l0:K.lookup f0=some ⟨oc0,od0,.func (PySem.W.fnOf "want_base" "want_base" (defArgs ZbH) (defBody ZbH) (defScope ZbH) .none kV0 dc0 pm0 an0 cd0 ct0),sl0⟩) (c0:PySem.W.codeIn K cd0 "want_base" = true) (k0:PySem.W.keepIn K (.ref f0)=true)
  {f1:Addr} {oc1 kV1 dc1 pm1 cd1 ct1:Value} {od1 an1:Option Addr} {sl1:Array (Option Value)}
  {T1:Addr} {oq1:Value} {oe1:Option Addr} {sq1:Array (Option Value)} {tk1:Tok} {nq1:Nat}
  (a1:PySem.W.nsIn K mainGlobals "figures_of" = some (some (.ref f1))) (l1:K.lookup f1=some ⟨oc1,od1,.func (PySem.W.fnOf "figures_of" "figures_of" (defArgs Zbr) (defBody Zbr) (defScope Zbr) (.ref T1) kV1 dc1 pm1 an1 cd1 ct1),sl1⟩)
  (d1:K.lookup T1=some ⟨oq1,oe1,.seq #[.int 2 tk1] nq1,sq1⟩) (c1:PySem.W.codeIn K cd1 "figures_of" = true) (k1:PySem.W.keepIn K (.ref f1)=true)
  {f2:Addr} {oc2 kV2 dc2 pm2 cd2 ct2:Value} {od2 an2:Option Addr} {sl2:Array (Option Value)}
  (a2:PySem.W.nsIn K mainGlobals "met_from" = some (some (.ref f2))) (l2:K.lookup f2=some ⟨oc2,od2,.func (PySem.W.fnOf "met_from" "met_from" (defArgs Zb0) (defBody Zb0) (defScope Zb0) .none kV2 dc2 pm2 an2 cd2 ct2),sl2⟩) (c2:PySem.W.codeIn K cd2 "met_from" = true) (k2:PySem.W.keepIn K (.ref f2)=true)
  {f3:Addr} {oc3 kV3 dc3 pm3 cd3 ct3:Value} {od3 an3:Option Addr} {sl3:Array (Option Value)}
  (a3:PySem.W.nsIn K mainGlobals "machine_met" = some (some (.ref f3))) (l3:K.lookup f3=some ⟨oc3,od3,.func (PySem.W.fnOf "machine_met" "machine_met" (defArgs Zbe) (defBody Zbe) (defScope Zbe) .none kV3 dc3 pm3 an3 cd3 ct3),sl3⟩) (c3:PySem.W.codeIn K cd3 "machine_met" = true) (k3:PySem.W.keepIn K (.ref f3)=true)
  {f4 q4:Addr} {oc4 kV4 dc4 pm4 ct4:Value} {od4 an4:Option Addr} {sl4:Array (Option Value)}
  (a4:PySem.W.nsIn K mainGlobals "reached_by" = some (some (.ref f4))) (l4:K.lookup f4=some ⟨oc4,od4,.func (PySem.W.fnOf "reached_by" "reached_by" (defArgs Zap) (defBody Zap) (defScope Zap) .none kV4 dc4 pm4 an4 (.ref q4) ct4),sl4⟩) (c4:PySem.W.codeIn K (.ref q4) "reached_by" = true) (k4:PySem.W.keepIn K (.ref f4)=true) (m4:PySem.W.codeHdIn K q4 ZaB=true)
  {f5:Addr} {oc5 kV5 dc5 pm5 cd5 ct5:Value} {od5 an5:Option Addr} {sl5:Array (Option Value)}
  (a5:PySem.W.nsIn K mainGlobals "first_equals" = some (some (.ref f5))) (l5:K.lookup f5=some ⟨oc5,od5,.func (PySem.W.fnOf "first_equals" "first_equals" (defArgs Za2) (defBody Za2) (defScope Za2) .none kV5 dc5 pm5 an5 cd5 ct5),sl5⟩) (c5:PySem.W.codeIn K cd5 "first_equals" = true) (k5:PySem.W.keepIn K (.ref f5)=true)
  {f6:Addr} {oc6 kV6 dc6 pm6 cd6 ct6:Value} {od6 an6:Option Addr} {sl6:Array (Option Value)}
  (a6:PySem.W.nsIn K mainGlobals "parted" = some (some (.ref f6))) (l6:K.lookup f6=some ⟨oc6,od6,.func (PySem.W.fnOf "parted" "parted" (defArgs Zdf) (defBody Zdf) (defScope Zdf) .none kV6 dc6 pm6 an6 cd6 ct6),sl6⟩) (c6:PySem.W.codeIn K cd6 "parted" = true) (k6:PySem.W.keepIn K (.ref f6)=true)
  {f7:Addr} {oc7 kV7 dc7 pm7 cd7 ct7:Value} {od7 an7:Option Addr} {sl7:Array (Option Value)}
  (a7:PySem.W.nsIn K mainGlobals "first_alike" = some (some (.ref f7))) (l7:K.lookup f7=some ⟨oc7,od7,.func (PySem.W.fnOf "first_alike" "first_alike" (defArgs Zbf) (defBody Zbf) (defScope Zbf) .none kV7 dc7 pm7 an7 cd7 ct7),sl7⟩) (c7:PySem.W.codeIn K cd7 "first_alike" = true) (k7:PySem.W.keepIn K (.ref f7)=true)
  {f8:Addr} {oc8 kV8 dc8 pm8 cd8 ct8:Value} {od8 an8:Option Addr} {sl8:Array (Option Value)}
  (a8:PySem.W.nsIn K mainGlobals "least" = some (some (.ref f8))) (l8:K.lookup f8=some ⟨oc8,od8,.func (PySem.W.fnOf "least" "least" (defArgs Zd3) (defBody Zd3) (defScope Zd3) .none kV8 dc8 pm8 an8 cd8 ct8),sl8⟩) (c8:PySem.W.codeIn K cd8 "least" = true) (k8:PySem.W.keepIn K (.ref f8)=true)
  {f9:Addr} {oc9 kV9 dc9 pm9 cd9 ct9:Value} {od9 an9:Option Addr} {sl9:Array (Option Value)}
  (a9:PySem.W.nsIn K mainGlobals "least_met" = some (some (.ref f9))) (l9:K.lookup f9=some ⟨oc9,od9,.func (PySem.W.fnOf "least_met" "least_met" (defArgs ZbI) (defBody ZbI) (defScope ZbI) .none kV9 dc9 pm9 an9 cd9 ct9),sl9⟩) (c9:PySem.W.codeIn K cd9 "least_met" = true) (k9:PySem.W.keepIn K (.ref f9)=true)
  {f10:Addr} {oc10 kV10 dc10 pm10 cd10 ct10:Value} {od10 an10:Option Addr} {sl10:Array (Option Value)}
  (a10:PySem.W.nsIn K mainGlobals "room_of" = some (some (.ref f10))) (l10:K.lookup f10=some ⟨oc10,od10,.func (PySem.W.fnOf "room_of" "room_of" (defArgs Zck) (defBody Zck) (defScope Zck) .none kV10 dc10 pm10 an10 cd10 ct10),sl10⟩) (c10:PySem.W.codeIn K cd10 "room_of" = true) (k10:PySem.W.keepIn K (.ref f10)=true)
  {f11:Addr} {oc11 kV11 dc11 pm11 cd11 ct11:Value} {od11 an11:Option Addr} {sl11:Array (Option Value)}
  (a11:PySem.W.nsIn K mainGlobals "base_of" = some (some (.ref f11))) (l11:K.lookup f11=some ⟨oc11,od11,.func (PySem.W.fnOf "base_of" "base_of" (defArgs Zcl) (defBody Zcl) (defScope Zcl) .none kV11 dc11 pm11 an11 cd11 ct11),sl11⟩) (c11:PySem.W.codeIn K cd11 "base_of" = true) (k11:PySem.W.keepIn K (.ref f11)=true)
  {f12:Addr} {oc12 kV12 dc12 pm12 cd12 ct12:Value} {od12 an12:Option Addr} {sl12:Array (Option Value)}
  (a12:PySem.W.nsIn K mainGlobals "want_step" = some (some (.ref f12))) (l12:K.lookup f12=some ⟨oc12,od12,.func (PySem.W.fnOf "want_step" "want_step" (defArgs ZbJ) (defBody ZbJ) (defScope ZbJ) .none kV12 dc12 pm12 an12 cd12 ct12),sl12⟩) (c12:PySem.W.codeIn K cd12 "want_step" = true) (k12:PySem.W.keepIn K (.ref f12)=true)
  {f13 q13 T13:Addr} {oc13 kV13 dc13 pm13 ct13 oq13:Value} {od13 an13 oe13:Option Addr} {sl13 sq13:Array (Option Value)} {tk13:Tok} {nq13:Nat}
  (a13:PySem.W.nsIn K mainGlobals "spaced" = some (some (.ref f13))) (l13:K.lookup f13=some ⟨oc13,od13,.func (PySem.W.fnOf "spaced" "spaced" (defArgs ZaN) (defBody ZaN) (defScope ZaN) (.ref T13) kV13 dc13 pm13 an13 (.ref q13) ct13),sl13⟩)
  (d13:K.lookup T13=some ⟨oq13,oe13,.seq #[.int 0 tk13] nq13,sq13⟩) (c13:PySem.W.codeIn K (.ref q13) "spaced" = true) (k13:PySem.W.keepIn K (.ref f13)=true) (m13:PySem.W.codeHdIn K q13 Zbk=true)
  {f14:Addr} {oc14 kV14 dc14 pm14 cd14 ct14:Value} {od14 an14:Option Addr} {sl14:Array (Option Value)}
  (a14:PySem.W.nsIn K mainGlobals "_law_cell" = some (some (.ref f14))) (l14:K.lookup f14=some ⟨oc14,od14,.func (PySem.W.fnOf "_law_cell" "_law_cell" (defArgs Zb2) (defBody Zb2) (defScope Zb2) .none kV14 dc14 pm14 an14 cd14 ct14),sl14⟩) (c14:PySem.W.codeIn K cd14 "_law_cell" = true) (k14:PySem.W.keepIn K (.ref f14)=true)
  {f15:Addr} {oc15 kV15 dc15 pm15 cd15 ct15:Value} {od15 an15:Option Addr} {sl15:Array (Option Value)}
  (a15:PySem.W.nsIn K mainGlobals "_law_machine" = some (some (.ref f15))) (l15:K.lookup f15=some ⟨oc15,od15,.func (PySem.W.fnOf "_law_machine" "_law_machine" (defArgs Zbh) (defBody Zbh) (defScope Zbh) .none kV15 dc15 pm15 an15 cd15 ct15),sl15⟩) (c15:PySem.W.codeIn K cd15 "_law_machine" = true) (k15:PySem.W.keepIn K (.ref f15)=true)
  {f16:Addr} {oc16 kV16 dc16 pm16 cd16 ct16:Value} {od16 an16:Option Addr} {sl16:Array (Option Value)}
  (a16:PySem.W.nsIn K mainGlobals "_law_twice" = some (some (.ref f16))) (l16:K.lookup f16=some ⟨oc16,od16,.func (PySem.W.fnOf "_law_twice" "_law_twice" (defArgs ZbK) (defBody ZbK) (defScope ZbK) .none kV16 dc16 pm16 an16 cd16 ct16),sl16⟩) (c16:PySem.W.codeIn K cd16 "_law_twice" = true) (k16:PySem.W.keepIn K (.ref f16)=true)
  {f17:Addr} {oc17 kV17 dc17 pm17 cd17 ct17:Value} {od17 an17:Option Addr} {sl17:Array (Option Value)}
  (a17:PySem.W.nsIn K mainGlobals "_law_sign" = some (some (.ref f17))) (l17:K.lookup f17=some ⟨oc17,od17,.func (PySem.W.fnOf "_law_sign" "_law_sign" (defArgs Zb3) (defBody Zb3) (defScope Zb3) .none kV17 dc17 pm17 an17 cd17 ct17),sl17⟩) (c17:PySem.W.codeIn K cd17 "_law_sign" = true) (k17:PySem.W.keepIn K (.ref f17)=true)
  {f18:Addr} {oc18 kV18 dc18 pm18 cd18 ct18:Value} {od18 an18:Option Addr} {sl18:Array (Option Value)}
  (a18:PySem.W.nsIn K mainGlobals "_law_classes" = some (some (.ref f18))) (l18:K.lookup f18=some ⟨oc18,od18,.func (PySem.W.fnOf "_law_classes" "_law_classes" (defArgs Zbi) (defBody Zbi) (defScope Zbi) .none kV18 dc18 pm18 an18 cd18 ct18),sl18⟩) (c18:PySem.W.codeIn K cd18 "_law_classes" = true) (k18:PySem.W.keepIn K (.ref f18)=true)
  {f19:Addr} {oc19 kV19 dc19 pm19 cd19 ct19:Value} {od19 an19:Option Addr} {sl19:Array (Option Value)}
  (a19:PySem.W.nsIn K mainGlobals "_law_whole" = some (some (.ref f19))) (l19:K.lookup f19=some ⟨oc19,od19,.func (PySem.W.fnOf "_law_whole" "_law_whole" (defArgs ZbL) (defBody ZbL) (defScope ZbL) .none kV19 dc19 pm19 an19 cd19 ct19),sl19⟩) (c19:PySem.W.codeIn K cd19 "_law_whole" = true) (k19:PySem.W.keepIn K (.ref f19)=true)
  {f20:Addr} {oc20 kV20 dc20 pm20 cd20 ct20:Value} {od20 an20:Option Addr} {sl20:Array (Option Value)}
  (a20:PySem.W.nsIn K mainGlobals "_law_is_least" = some (some (.ref f20))) (l20:K.lookup f20=some ⟨oc20,od20,.func (PySem.W.fnOf "_law_is_least" "_law_is_least" (defArgs Za4) (defBody Za4) (defScope Za4) .none kV20 dc20 pm20 an20 cd20 ct20),sl20⟩) (c20:PySem.W.codeIn K cd20 "_law_is_least" = true) (k20:PySem.W.keepIn K (.ref f20)=true)
  {f21:Addr} {oc21 kV21 dc21 pm21 cd21 ct21:Value} {od21 an21:Option Addr} {sl21:Array (Option Value)}
  (a21:PySem.W.nsIn K mainGlobals "_law_windows" = some (some (.ref f21))) (l21:K.lookup f21=some ⟨oc21,od21,.func (PySem.W.fnOf "_law_windows" "_law_windows" (defArgs Zbj) (defBody Zbj) (defScope Zbj) .none kV21 dc21 pm21 an21 cd21 ct21),sl21⟩) (c21:PySem.W.codeIn K cd21 "_law_windows" = true) (k21:PySem.W.keepIn K (.ref f21)=true)
  {f22:Addr} {oc22 kV22 dc22 pm22 cd22 ct22:Value} {od22 an22:Option Addr} {sl22:Array (Option Value)}
  (a22:PySem.W.nsIn K mainGlobals "_law_asked" = some (some (.ref f22))) (l22:K.lookup f22=some ⟨oc22,od22,.func (PySem.W.fnOf "_law_asked" "_law_asked" (defArgs ZbM) (defBody ZbM) (defScope ZbM) .none kV22 dc22 pm22 an22 cd22 ct22),sl22⟩) (c22:PySem.W.codeIn K cd22 "_law_asked" = true) (k22:PySem.W.keepIn K (.ref f22)=true)
  {C_WheelError:Addr} {C_NoBase:Addr} {C_TooGreat:Addr} {C_NotLike:Addr} {C_NoStep:Addr}
  (cc_WheelError:PySem.W.nsIn K mainGlobals "WheelError" = some (some (.ref C_WheelError)))
  (cc_NoBase:PySem.W.nsIn K mainGlobals "NoBase" = some (some (.ref C_NoBase)))
  (cc_TooGreat:PySem.W.nsIn K mainGlobals "TooGreat" = some (some (.ref C_TooGreat)))
  (cc_NotLike:PySem.W.nsIn K mainGlobals "NotLike" = some (some (.ref C_NotLike)))
  (cc_NoStep:PySem.W.nsIn K mainGlobals "NoStep" = some (some (.ref C_NoStep)))
  (hx1:PySem.W.excIn K C_NoBase [.type "ValueError",.type "Exception",.type "BaseException",.type "object"] "ValueError.__new__" = true)
  (hx2:PySem.W.excIn K C_NoStep [.type "ValueError",.type "Exception",.type "BaseException",.type "object"] "ValueError.__new__" = true)
  (hx3:PySem.W.excIn K C_TooGreat [.type "ValueError",.type "Exception",.type "BaseException",.type "object"] "ValueError.__new__" = true)
  (hm:PySem.W.exmOne K (.ref C_TooGreat) (.ref C_TooGreat)=some true)
  (kk1_TooGreat:PySem.W.findIn K (.ref C_TooGreat) "__getattribute__" = some (some (.builtin "BaseException.__getattribute__")))
  (kk2_TooGreat:PySem.W.findIn K (.ref C_TooGreat) "__getattr__" = some none)
  (kk3_TooGreat:PySem.W.mroIn K C_TooGreat (.type "BaseException")=some true)
  (kk4_TooGreat:PySem.W.mroIn K C_TooGreat (.type "object")=some true)
  (kk5_TooGreat:PySem.W.findIn K (.ref C_TooGreat) "__class__" = some (some (.builtin "object.__class__")))
  (kk6_TooGreat:PySem.W.specialIn K (.builtin "object.__class__") "__get__" = some (some (.builtin "getset_descriptor.__get__")))
  (kk7_TooGreat:PySem.W.takesIn K (.builtin "object.__class__")=some true)
  (ki1:PySem.W.kitOne K (.ref C_TooGreat) (.ref C_WheelError)=some true)
  (ki2:PySem.W.kitOne K (.ref C_TooGreat) (.type "ValueError")=some true)
  (ki3:PySem.W.kitAny K (.ref C_TooGreat) [.ref C_NoStep,.ref C_NoBase,.ref C_NotLike]=some false)
  {fL:Addr} {ocL kVL dcL pmL cdL ctL:Value} {odL anL:Option Addr} {slL:Array (Option Value)} (aL:PySem.W.nsIn K mainGlobals "law" = some (some (.ref fL))) (lL:K.lookup fL=some ⟨ocL,odL,.func (PySem.W.fnOf "law" "law" (defArgs ZfL) (defBody ZfL) (defScope ZfL) .none kVL dcL pmL anL cdL ctL),slL⟩) (cL:PySem.W.codeIn K cdL "law" = true) (kL:PySem.W.keepIn K (.ref fL)=true) :
  ∃ fd:FuncData,(∀ (s:Shared) (v:Value),BindsTo s fd ⟨[v],[]⟩ [("_law_script",v)])∧∀ base:Heap,K.In base→base.Ns mainGlobals mg→base.BuiltinsAt mg mainGlobals→FnOk l.prog w K mg base (CXE l.prog w) 10 fa fd ["_law_script"] (Zd2 K):=by
 have e:=hfa.symm.trans (PySem.W.mg_of X G aL)
 cases e
 have T:Txt K mg:=⟨Zfr X G g_LEAST_BASE,
  Zfr X G g_GREATEST_BASE,
  Zfr X G g_MOST_ROOMS,
  Zfr X G g_GREATEST_STEP,
  Zfr X G g_GREATEST_FIRST,
  PySem.W.mg_none_of X G z_ValueError,
  PySem.W.mg_none_of X G z_all,
  PySem.W.mg_none_of X G z_bool,
  PySem.W.mg_none_of X G z_enumerate,
  PySem.W.mg_none_of X G z_int,
  PySem.W.mg_none_of X G z_isinstance,
  PySem.W.mg_none_of X G z_len,
  PySem.W.mg_none_of X G z_list,
  PySem.W.mg_none_of X G z_max,
  PySem.W.mg_none_of X G z_range,
  PySem.W.mg_none_of X G z_reversed,
  PySem.W.mg_none_of X G z_set,
  PySem.W.mg_none_of X G z_tuple,
  ZbV X G a0 l0 c0 k0 (Ze8 fun _=>rfl),
  Zmv X G a1 l1 d1 c1 k1 (fun s us KX hl=>by obtain⟨_,_,rfl⟩:=ZkM us (by simpa using hl);exact PySem.W.binds_K KX rfl d1 rfl rfl rfl) (fun s us KX hl=>by obtain⟨_,rfl⟩:=ZnW us (by simpa using hl);exact PySem.W.binds_K KX rfl d1 rfl rfl rfl),
  ZbV X G a2 l2 c2 k2 (Zma fun _ _ _ _=>rfl),
  ZbV X G a3 l3 c3 k3 (Zmb fun _ _ _ _ _=>rfl),
  ⟨q4,Znw X G a4 l4 c4 k4 m4 (Ze9 fun _ _=>rfl)⟩,
  ZbV X G a5 l5 c5 k5 (Ze8 fun _=>rfl),
  ZbV X G a6 l6 c6 k6 (Ze9 fun _ _=>rfl),
  ZbV X G a7 l7 c7 k7 (Ze8 fun _=>rfl),
  ZbV X G a8 l8 c8 k8 (Ze8 fun _=>rfl),
  ZbV X G a9 l9 c9 k9 (Zmb fun _ _ _ _ _=>rfl),
  ZbV X G a10 l10 c10 k10 (Ze9 fun _ _=>rfl),
  ZbV X G a11 l11 c11 k11 (Ze8 fun _=>rfl),
  ZbV X G a12 l12 c12 k12 (Ze9 fun _ _=>rfl),
  ⟨q13,ZlL X G a13 l13 d13 c13 k13 m13 (fun s us KX hl=>by obtain⟨_,_,_,rfl⟩:=ZnX us (by simpa using hl);exact PySem.W.binds_K KX rfl d13 rfl rfl rfl) (fun s us KX hl=>by obtain⟨_,_,rfl⟩:=ZkM us (by simpa using hl);exact PySem.W.binds_K KX rfl d13 rfl rfl rfl)⟩,
  ZbV X G a14 l14 c14 k14 (Ze9 fun _ _=>rfl),
  ZbV X G a15 l15 c15 k15 (Zmb fun _ _ _ _ _=>rfl),
  ZbV X G a16 l16 c16 k16 (Ze8 fun _=>rfl),
  ZbV X G a17 l17 c17 k17 (Zkg fun _ _ _=>rfl),
  ZbV X G a18 l18 c18 k18 (Ze9 fun _ _=>rfl),
  ZbV X G a19 l19 c19 k19 (Ze8 fun _=>rfl),
  ZbV X G a20 l20 c20 k20 (Ze9 fun _ _=>rfl),
  ZbV X G a21 l21 c21 k21 (Zma fun _ _ _ _=>rfl),
  ZbV X G a22 l22 c22 k22 (Zkg fun _ _ _=>rfl),
  ⟨C_WheelError,C_NoBase,C_TooGreat,C_NotLike,C_NoStep,⟨PySem.W.mg_of X G cc_WheelError,PySem.W.mg_of X G cc_NoBase,PySem.W.mg_of X G cc_TooGreat,PySem.W.mg_of X G cc_NotLike,PySem.W.mg_of X G cc_NoStep,hx1,hx2,hx3,hm,⟨⟨kk1_TooGreat,kk2_TooGreat,kk3_TooGreat,kk4_TooGreat⟩,kk5_TooGreat,kk6_TooGreat,kk7_TooGreat⟩,ki1,ki2,ki3⟩⟩⟩
 exact⟨PySem.W.fnOf "law" "law" (defArgs ZfL) (defBody ZfL) (defScope ZfL) .none kVL dcL pmL anL cdL ctL,fun s v=>.of_eq rfl,fun base _ _ B=>ZnV T B (fun _ h=>h) ⟨⟨ocL,odL,kVL,dcL,pmL,anL,cdL,ctL,slL,rfl,lL,cL⟩,kL⟩⟩
theorem walk{l:PySem.W.OpenLaw}{q:Program}{loose:List Str}{XP:(Str→Option Value)→Heap→Prop}{YP:World→Heap→Prop}{d:DefRec}{K:Params→W.Frag}(hn:l.most=some 63)(hdf:d.params.defaults=[])
  (hY:∀ (w:World) (h:Heap),YP w h→(K w.params).In h) (hYt:∀ (w:World) (h:Heap),YP w h→∀ p∈ts0,h.get? p.1=some (PySem.W.tabObj #[])) (hK:∀ (w:World) (p:Addr×(Nat→Nat→Str)),p∈ts0→(K w.params).lookup p.1=none∧∃ c,PySem.W.codeHdIn (K w.params) c p.1=true)
  (F:∀ (w:World) (mg:Str→Option Value) (fa:Addr) (h:Heap),(K w.params).In h→h.Ns mainGlobals mg→mg d.name=some (.ref fa) →
   ∃ fd:FuncData,(∀ (s:Shared) (u:Value),BindsTo s fd ⟨[u],[]⟩ [("_law_script",u)])∧∀ base:Heap,(K w.params).In base→base.Ns mainGlobals mg→base.BuiltinsAt mg mainGlobals→FnOk l.prog w (K w.params) mg base (CXE l.prog w) 10 fa fd ["_law_script"] (Zd2 (K w.params))) :
  PySem.W.WalkO q loose XP YP l.row.toRowW d [] (fun f vs=>PySem.call f vs) :=
 L2.ZjQ (ts:=ts0) (n:=63) (k:=10) (x := "_law_script") (CX:=fun w=>CXE l.prog w) (sp:=fun w=>Zd2 (K w.params)) (by decide) hn (by decide) hdf ⟨rfl,by decide,by decide⟩ hY hYt hK F (fun _ _ a ns hl hb hT hS=>⟨hT,a,ns,rfl,hS,hl,hb,fun _ m=>⟨rfl,m⟩⟩) fun _ _ _ _ _ ⟨_,_,_,_,_,_,_,_,_,_,_,_,_,z⟩=>z
theorem Zei{K:W.Frag}{f q:Addr}{oc kV dc pm ct:Value}{od an:Option Addr}{sl:Array (Option Value)}(a:PySem.W.nsIn K mainGlobals "reached_by" = some (some (.ref f)))(l:K.lookup f=some ⟨oc,od,.func (PySem.W.fnOf "reached_by" "reached_by" (defArgs Zap) (defBody Zap) (defScope Zap) .none kV dc pm an (.ref q) ct),sl⟩)(m:PySem.W.codeHdIn K q ZaB=true):∃ c,PySem.W.codeHdIn K c ZaB=true:=⟨q,m⟩
theorem Zgu{K:W.Frag}{f q T:Addr}{oc kV dc pm ct:Value}{od an:Option Addr}{sl:Array (Option Value)}(a:PySem.W.nsIn K mainGlobals "spaced" = some (some (.ref f)))(l:K.lookup f=some ⟨oc,od,.func (PySem.W.fnOf "spaced" "spaced" (defArgs ZaN) (defBody ZaN) (defScope ZaN) (.ref T) kV dc pm an (.ref q) ct),sl⟩)(m:PySem.W.codeHdIn K q Zbk=true):∃ c,PySem.W.codeHdIn K c Zbk=true:=⟨q,m⟩
end K24
namespace PySem.W.Fast
theorem tw2309102349709093049:True:=⟨⟩
theorem tw15950267538737108214:True:=⟨⟩
theorem tw2358240887722075284:True:=⟨⟩
theorem tw5420906695693037171:True:=⟨⟩
theorem tw3385380733159935867:True:=⟨⟩
theorem tw15108251429358694025:True:=⟨⟩
theorem tw2542687482555301481:True:=⟨⟩
theorem tw5537174622724379637:True:=⟨⟩
theorem tw6580372994748638684:True:=⟨⟩
theorem tw10011233821167690743:True:=⟨⟩
theorem tw14893162309876302272:True:=⟨⟩
theorem tw8351783714616698238:True:=⟨⟩
theorem tw813293885547374647:True:=⟨⟩
theorem tw10573599730578474222:True:=⟨⟩
theorem tw6960034395699747157:True:=⟨⟩
theorem tw5821694259092240187:True:=⟨⟩
theorem tw4075819725583673866:True:=⟨⟩
theorem tw5991738751036986031:True:=⟨⟩
theorem tw12919620762226196377:True:=⟨⟩
theorem tw15455206677786576611:True:=⟨⟩
theorem tw11935804164158368680:True:=⟨⟩
theorem tw12311683513350762028:True:=⟨⟩
theorem tw3345911800086259268:True:=⟨⟩
theorem tw14159650607847710965:True:=⟨⟩
theorem tw12867273044817240632:True:=⟨⟩
theorem tw9051631228231653930:True:=⟨⟩
theorem tw1986895153260420324:True:=⟨⟩
theorem tw15597491480597660685:True:=⟨⟩
theorem tw17792149645352599357:True:=⟨⟩
theorem tw4816153878123483281:True:=⟨⟩
theorem tw1538959788684540156:True:=⟨⟩
theorem tw7788113923943249319:True:=⟨⟩
theorem tw17836735950350103622:True:=⟨⟩
theorem tw11925955072482835809:True:=⟨⟩
theorem tw11072031970190802368:True:=⟨⟩
theorem tw15303629012517650067:True:=⟨⟩
theorem tw15807264261674668515:True:=⟨⟩
theorem tw17446455121734623334:True:=⟨⟩
theorem tw10801291203136869947:True:=⟨⟩
theorem tw11705855804338281470:True:=⟨⟩
theorem tw4806903641939219125:True:=⟨⟩
theorem tw17287933401026811856:True:=⟨⟩
theorem tw6616921740626298157:True:=⟨⟩
theorem tw11473174269630317323:True:=⟨⟩
theorem tw8871801473439382942:True:=⟨⟩
theorem tw16228207946477712226:True:=⟨⟩
theorem tw6588847898731041349:True:=⟨⟩
theorem tw16877960326045280500:True:=⟨⟩
theorem tw9050244384759537617:True:=⟨⟩
theorem tw14337443234214189905:True:=⟨⟩
theorem tw17466153475681455694:True:=⟨⟩
theorem tw14236988789820486645:True:=⟨⟩
theorem tw9152809796738929447:True:=⟨⟩
theorem tw9368245172479724714:True:=⟨⟩
theorem tw8122936412552661859:True:=⟨⟩
theorem tw16472506306148735376:True:=⟨⟩
theorem tw407978259391137407:True:=⟨⟩
theorem tw335904674351120565:True:=⟨⟩
theorem tw1540720274927399676:True:=⟨⟩
theorem tw16696043001063204317:True:=⟨⟩
theorem tw16985271923949390142:True:=⟨⟩
theorem tw3833444794354542863:True:=⟨⟩
theorem tw8257647051766129021:True:=⟨⟩
theorem tw12217589326467672330:True:=⟨⟩
theorem tw13240811489285414452:True:=⟨⟩
theorem tw12589176090344124029:True:=⟨⟩
theorem tw11599939381416608568:True:=⟨⟩
theorem tw9351786470998218242:True:=⟨⟩
theorem tw12638660278533954041:True:=⟨⟩
theorem tw15520897398750581925:True:=⟨⟩
theorem tw1675636194191046642:True:=⟨⟩
theorem tw8061971903241958460:True:=⟨⟩
theorem tw11849969417669221027:True:=⟨⟩
theorem tw426769159159677964:True:=⟨⟩
theorem tw2090800075952772677:True:=⟨⟩
theorem tw1469172469049681615:True:=⟨⟩
theorem tw1828323946076222703:True:=⟨⟩
theorem tw13867595465685795703:True:=⟨⟩
theorem tw2630047800424776030:True:=⟨⟩
theorem tw13251299139815690921:True:=⟨⟩
theorem tw5791980845997803676:True:=⟨⟩
theorem tw6408892725330004316:True:=⟨⟩
theorem tw2821018963437078020:True:=⟨⟩
theorem tw7501215890701502256:True:=⟨⟩
theorem tw7847872935666800736:True:=⟨⟩
theorem tw16037976501603922499:True:=⟨⟩
theorem tw1204872455418558906:True:=⟨⟩
theorem tw12550156341128859327:True:=⟨⟩
theorem tw8846134021941267381:True:=⟨⟩
theorem tw3860381366960435172:True:=⟨⟩
theorem tw12175204118269195632:True:=⟨⟩
theorem tw3733617177031793749:True:=⟨⟩
theorem tw1440598654655785173:True:=⟨⟩
theorem tw13391033020022340149:True:=⟨⟩
theorem tw11663191823978520486:True:=⟨⟩
end PySem.W.Fast
open PySem PySem.W PyProof.Rows
set_option maxRecDepth 100000 in
set_option maxHeartbeats 0 in
theorem PySem.Challenge.cw_figurewheel_k24_spaced_holds : PySem.Challenge.rw_figurewheel_k24_spaced.Holds := by
 w_on;o_law;k_head;(case hw=>w_witness2)
 k_fill
 refine' K24.walk (l:=PySem.Challenge.rw_figurewheel_k24_spaced) rfl rfl (fun w h Y=>PySem.W.km_in_of Y) ?hYt ?hK ?F
 case hYt =>
  intro w h Y p hp
  exact PySem.W.km_tabs_of Y p.1 (by revert p;decide)
 case hK =>
  intro w p hp
  simp only[K24.ts0,List.mem_cons,List.not_mem_nil,or_false] at hp
  rcases hp with rfl|rfl
  ·refine' ⟨by kernel_rfl,K24.Zei ?a ?l ?m⟩
   (case a=>k_is)
   (case l=>k_is)
   (case m=>kernel_rfl)
  ·refine' ⟨by kernel_rfl,K24.Zgu ?a ?l ?m⟩
   (case a=>k_is)
   (case l=>k_is)
   (case m=>kernel_rfl)
 case F =>
  intro w mg fa h KX G hmg
  refine' K24.ZnY KX G hmg ?g_LEAST_BASE ?g_GREATEST_BASE ?g_MOST_ROOMS ?g_GREATEST_STEP ?g_GREATEST_FIRST ?z_ValueError ?z_all ?z_bool ?z_enumerate ?z_int ?z_isinstance ?z_len ?z_list ?z_max ?z_range ?z_reversed ?z_set ?z_tuple ?a0 ?l0 ?c0 ?k0 ?a1 ?l1 ?d1 ?c1 ?k1 ?a2 ?l2 ?c2 ?k2 ?a3 ?l3 ?c3 ?k3 ?a4 ?l4 ?c4 ?k4 ?m4 ?a5 ?l5 ?c5 ?k5 ?a6 ?l6 ?c6 ?k6 ?a7 ?l7 ?c7 ?k7 ?a8 ?l8 ?c8 ?k8 ?a9 ?l9 ?c9 ?k9 ?a10 ?l10 ?c10 ?k10 ?a11 ?l11 ?c11 ?k11 ?a12 ?l12 ?c12 ?k12 ?a13 ?l13 ?d13 ?c13 ?k13 ?m13 ?a14 ?l14 ?c14 ?k14 ?a15 ?l15 ?c15 ?k15 ?a16 ?l16 ?c16 ?k16 ?a17 ?l17 ?c17 ?k17 ?a18 ?l18 ?c18 ?k18 ?a19 ?l19 ?c19 ?k19 ?a20 ?l20 ?c20 ?k20 ?a21 ?l21 ?c21 ?k21 ?a22 ?l22 ?c22 ?k22 ?cc_WheelError ?cc_NoBase ?cc_TooGreat ?cc_NotLike ?cc_NoStep ?hx1 ?hx2 ?hx3 ?hm ?kk1_TooGreat ?kk2_TooGreat ?kk3_TooGreat ?kk4_TooGreat ?kk5_TooGreat ?kk6_TooGreat ?kk7_TooGreat ?ki1 ?ki2 ?ki3 ?aL ?lL ?cL ?kL
  (case g_LEAST_BASE|g_GREATEST_BASE|g_MOST_ROOMS|g_GREATEST_STEP|g_GREATEST_FIRST|z_ValueError|z_all|z_bool|z_enumerate|z_int|z_isinstance|z_len|z_list|z_max|z_range|z_reversed|z_set|z_tuple|a0|l0|c0|k0|a1|l1|d1|c1|k1|a2|l2|c2|k2|a3|l3|c3|k3|a4|l4|c4|k4 =>k_is)
  (case m4=>kernel_rfl)
  (case a5|l5|c5|k5|a6|l6|c6|k6|a7|l7|c7|k7|a8|l8|c8|k8|a9|l9|c9|k9|a10|l10|c10|k10|a11|l11|c11|k11|a12|l12|c12|k12|a13|l13|d13|c13|k13 =>k_is)
  (case m13=>kernel_rfl)
  (case a14|l14|c14|k14|a15|l15|c15|k15|a16|l16|c16|k16|a17|l17|c17|k17|a18|l18|c18|k18|a19|l19|c19|k19|a20|l20|c20|k20|a21|l21|c21|k21|a22|l22|c22|k22|cc_WheelError|cc_NoBase|cc_TooGreat|cc_NotLike|cc_NoStep =>k_is)
  (case hx1=>k_exc)
  (case hx2=>k_exc)
  (case hx3=>k_exc)
  (case hm=>kts_exm)
  (case kk1_TooGreat|kk2_TooGreat|kk3_TooGreat|kk4_TooGreat|kk5_TooGreat|kk6_TooGreat|kk7_TooGreat =>k_is)
  (case ki1=>kit_is)
  (case ki2=>kit_is)
  (case ki3=>kit_is)
  (case aL|lL|cL|kL =>k_is)
end
